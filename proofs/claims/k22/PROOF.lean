import PyProof.Rows.All
import Wide.All
import OpenK.AllK
import Wide.FinOn
import HandS.ForMost
import HandS.ForExc
import HandS.WordsExc
import HandS.ExcInit
import HandS.ExcCtx
import HandS.SuiteRaise
import HandS.RaiseFrom
import HandS.ExcInitHot
import HandS.Base
import HandS.Call
import HandS.Exc
import HandS.TryMany
import HandS.More
import HandS.SlotsOwn
import HandS.ExcOwn
import HandS.ExcField
import HandS.FStr
import HandS.ExcSuper
import KE.KExcSuper
import HandS.ExcIs
import HandS.IsInst
import KE.KOpsOwn
import HandS.TupSets
import KE.KeyNested
import KE.KSortTupG
import HandS.SetBool
import HandS.Walk
import PyProof.CollectStr
import HandS.Property
import HandS.Text
import HandS.Strs
import PyProof.ListStr
import HandS.Conv
import HandS.Zip
import HandS.ClsMeth
import HandS.Defaults
import PySem.Challenge.RW_talepost_k22_whole_greatest_tables
import HandS.Style
import KE.KRevSl
import HandS.Replace
import PyProof.ToksMono
import PyProof.StrLawsReplace
import HandS.Comp
import HandS.ReplaceList
import HandS.RaiseMore
import HandS.Deep
set_option Elab.async false
set_option linter.all false
set_option maxRecDepth 100000
set_option maxHeartbeats 2000000
namespace Vk
open PySem PySem.Spec PyProof.Rows L2
/-! defs whose errors bear no context, for a handler that raises -/
theorem okN {P : Program} {w : World} {K : PySem.W.Frag} {mg : Str → Option Value} {base : Heap} {nm qn : Str} {st : Stmt} {fa : Addr} {fd : FuncData} {N qs : List Str} {lv : Nat} {sp : Sp} (F : Fun K nm qn st fa fd) (S : FnScope N qs (defScope st))
    (hlen : ∀ us H Q E, sp us H Q E → us.length = qs.length)
    (hb : ∀ (cv : Value) (B : Around) (out : List Env) (s0 : Shared) (H : Hp) (us : List V) (Q : VK) (E : XK), Room lv (B.deeper (envOfC qn (defScope st) s0.heap.objs.size fa cv)) → sp us H Q E →
      ∃ z, PSs (cxOf (L2N.CX P w) P w K mg base N qn (defScope st) fa cv B out s0 H E) (defBody st) z ∧ z { nx := fun _ G => Q .non G, rt := Q } (start N us) H) : FnOk P w K mg base (L2N.CX P w) (lv + 1) fa fd qs sp := by
  obtain ⟨_, _, _, _, _, _, cv, _, _, rfl, h1, h2⟩ := F.ex
  exact fn_of h1 h2 S hlen fun B out s0 H us Q E r h => hb cv B out s0 H us Q E r h
/-- C(e, ..), C an own error with its own __init__; the new error bears no context -/
theorem pmk_oexN {X : Cx} {CX : CXT} {nm : Str} {C fi : Addr} {lv : Nat} {fd : FuncData} {qs : List Str} {sp : Sp} {e : Expr} {es : List Expr} {ta : TA} {p p' : Pos} (O : OexC X.K C) (hi : PySem.W.findIn X.K (.ref C) "__init__" = some (some (.ref fi))) (ht : PySem.W.typeIn X.K (.ref fi) = some (.type "function"))
    (FI : FnOk X.prog X.w X.K X.mg X.base CX lv fi fd qs sp) (hr : Room (lv + 1) X.A) (hb : Binds X.K fd qs []) (hp : Passes CX X (fun _ _ _ => False)) (hg : Gl X nm) (hm : X.mg nm = some (.ref C)) (ha : PA X (e :: es) ta)
    (hdb : (nm == ("__debug__" : Str)) = false := by decide) (hst : starEach (e :: es) X.env = (false, eval e X.env) :: starEach es X.env := by rfl) (hpl : (backTo p' (starEach es X.env)).any (·.1) = false := by rfl) :
    L2N.PMk X (.Call (.Name nm p) (e :: es) [] p') (tMkO C sp [] ta) := by
  intro pins s σ H Q I h
  obtain ⟨n1, n2, n3, n4, bm, n6, n7, n8, n9, n10, n11, n12, n13, n14, n15, hC, hbm⟩ := O.cls
  refine wpAny_Call_Name_kw (ld_glob I hg hm ?_ hdb)
  refine PySem.W.callWith_K (h₀ := X.base) I.ok.mod.kin O.kC (thn (ha.run p' pins s σ H _ I h) fun us s1 z1 => ?_) hst hpl
  obtain ⟨vs, H1, J, rv, hz, q⟩ := z1
  refine ⟨J.kIn, ?_⟩
  show wpAny _ _ (call (.ref C) us) _ _ _
  obtain ⟨g0, ga, dr, tk, os⟩ := s1
  have up1 : g0.objs.size ≤ g0.objs.size + 1 := Nat.le_succ _
  have q1 := q (g0.objs.size + 1) (J.hok.fresh up1)
  rw [List.append_nil] at q1
  have kp : ∀ b o, g0.get? b = some o → ((g0.push (PySem.W.kdv_tup us)).push (PySem.HandSPX.excO C g0.objs.size)).get? b = some o := fun _ _ y => Heap.get?_push_of_some _ (Heap.get?_push_of_some _ y)
  have at1 : ((g0.push (PySem.W.kdv_tup us)).push (PySem.HandSPX.excO C g0.objs.size)).get? (g0.objs.size + 1) = some (PySem.HandSPX.excO C g0.objs.size) := by heap_get
  have J2 := J.laid (t' := tk) (a := g0.objs.size + 1) (o := exo (g0.objs.size + 1) C none) kp up1 (exo_ok at1)
  have r2 : Vals (V.ref (g0.objs.size + 1) :: vs) (Value.ref (g0.objs.size + 1) :: us) := .cons rfl rv
  have ln : (Value.ref (g0.objs.size + 1) :: us ++ []).length = qs.length := by
    have y := r2.length
    rw [FI.len _ _ _ _ q1] at y
    rw [List.append_nil]
    exact y.symm
  have usz : us.length ≤ sizeLine := by
    rw [← Paired.length rv, sizeLine_eq]
    omega
  have b1 := hb _ (Value.ref (g0.objs.size + 1) :: us) J2.kIn ln
  rw [List.append_nil] at b1
  have run := FI.run _ X.stack _ _ ⟨Value.ref (g0.objs.size + 1) :: us, []⟩ (Value.ref (g0.objs.size + 1) :: us) _ _ (fun _ _ _ => False) (hr.make C us []) (J2.env0.make C us []) b1 r2 q1
  refine wpAny_call (PySem.HandSPX.call_own F.excBase_ValueError (fun Y => PySem.HandSPX.refsVE_contains Y bm hbm) (J.kIn _ _ hC) (PySem.W.looks_findIn J.kIn hi) (fun self => PySem.W.bind_fn J.kIn self ht) usz (codeAny_mono run fun r s2 z => ?_))
  cases r with
  | error er => exact hp pins σ _ _ er s2 J2 z
  | ok fl =>
    cases fl with
    | next => exact z.elim
    | brk => exact z.elim
    | cont => exact z.elim
    | ret u =>
      obtain ⟨v, H2, e1, e2, e3, e4, e5, ev, d, fs, e6, e7, e8, e9⟩ := z
      subst ev
      obtain ⟨g2, ga2, d2, t2, os2⟩ := s2
      obtain ⟨t0, G, J3, kG, gn, go, na⟩ := mk_end0 (d2 := d2) (t2 := t2) J up1 kp e3 e4 e1 e2 e6 e7 e8
      refine ⟨e5, g0.objs.size + 1, _, _, ⟨G, ga2, d2, t2, os2⟩, _, .ref C, some d, rfl, J3, kG, gn, go, ⟨rfl, rfl, fun vs hv => ?_⟩, rfl, rfl, na, rfl, e2, raises_own O.exC O.tyC, e9⟩
      cases hv
      rfl
end Vk
set_option Elab.async false
set_option linter.all false
set_option maxRecDepth 100000
set_option maxHeartbeats 4000000
namespace Vk
open PySem PySem.Spec PyProof.Rows L2
/-! several except clauses, each with a name: one step for each clause -/
/-- D, the clause's name gone behind its suite -/
def goneD (D : Ends) (i : Nat) : Ends := { nx := fun σ' H' => D.nx (σ'.set i none) H', rt := D.rt, bk := fun σ' H' => D.bk (σ'.set i none) H', ct := fun σ' H' => D.ct (σ'.set i none) H' }
/-- a clause: its class, its name's slot, its suite's reading -/
structure Cl where
  c : Value
  i : Nat
  ts : Addr → Value → Option Addr → TS
def wAsN (K : PySem.W.Frag) (Wout : WX) (D : Ends) : List Cl → WX
  | [] => Wout
  | q :: r => fun cls d σ H => ∃ b, PySem.W.exmOne K cls q.c = some b ∧ (b = true → ∀ a, H a = none → q.ts a cls d (goneD D q.i) (σ.set q.i (some (.ref a))) H) ∧ (b = false → wAsN K Wout D r cls d σ H)
inductive AsOk (X : Cx) : List ExceptHandler → List Cl → Prop
  | nil : AsOk X [] []
  | cons {x n : Str} {q : Cl} {b₀ : Stmt} {suite : List Stmt} {np pos' : Pos} {hds : List ExceptHandler} {l : List Cl} (hi : X.N[q.i]? = some n) (hln : X.env.kindOf n = some .local) (hc : Names X x q.c)
      (hsu : ∀ (a : Addr) (oe : Obj) (cls : Value) (d : Option Addr) (pn : List (Addr × Obj)), Zc cls d oe → (∃ vs, oe.data = .fields vs) → PSs (X.suite a ((a, oe) :: pn)) (b₀ :: suite) (q.ts a cls d)) (r : AsOk X hds l) :
      AsOk X (.ExceptHandler (some (.Name x np)) (some n) (b₀ :: suite) pos' :: hds) (q :: l)
section
variable {X : Cx} {body : List Stmt} {h₀ : ExceptHandler} {hds : List ExceptHandler} {l : List Cl} {pos : Pos} {tb : WX → TS} {Wout : WX}
theorem ps_try_asN (hs : X.stack = X.env :: X.outer) (hf : X.env.frame = some X.env.locals) (hN : X.N.Nodup) (tk : Takes X Wout)
    (hb : ∀ (W : WX) (pn : List (Addr × Obj)) (xe : Value → Shared → Prop), Takes (X.tr pn xe) W → PassesOwn (model X.prog X.w) X.A X.env xe → PSs (X.tr pn xe) body (tb W))
    (hh : AsOk X (h₀ :: hds) l) : PS X (.Try body (h₀ :: hds) [] [] pos) (fun D σ H => tb (wAsN X.K Wout D l) D σ H) := by
  refine ⟨fun pins s σ H D I h => ?_⟩
  have ok := I.ok
  have hfr : X.A.frames = some (X.env :: X.outer) := by rw [ok.frames, hs]
  refine wpAny_Try_except (wpAny_mono ((hb (wAsN X.K Wout D l) (X.pn ++ pins) (fun e s₁ => wpAny (model X.prog X.w) X.A (noteFrame e X.env) (fun _ s₂ => wpAny (model X.prog X.w) X.A (setFlight e none) (fun _ s₃ =>
    wpAny (model X.prog X.w) X.A (handleBy e X.env (h₀ :: hds)) (SP X pins D) X.xe s₃) X.xe s₂) X.xe s₁) (fun u s' hx => ?_) PassesOwn.looking).run [] s σ H D (I.toTry _) h) (fun f s1 hsp => ?_) fun e s1 he => he)
  · obtain ⟨a, B, sI, pn', σ1, H1, cls, d, rfl, J0, nb, up, sky, na, os, ag, wish⟩ := hx
    have J : Inv X pins σ1 H1 sI := J0.ofTry ok
    rw [hs] at sky
    show wpAny (model X.prog X.w) X.A (noteFrame (.ref a) X.env) _ _ _
    refine Sky.land Zc.steady hfr hf sky fun h3 fl up3 => ?_
    have J3 : Inv X pins σ1 H1 { s' with heap := h3 } := J.landed nb fl.1 (up.trans up3) os ag
    obtain ⟨o3, vs3, e3, z3, d3⟩ := fl.there
    have nfr : a ∉ frs (X.env :: X.outer) := fun hm => by
      obtain ⟨_, o', e', hnf⟩ := fl.2.2.1.mem hm
      rw [e3] at e'
      cases e'
      exact hnf _ d3
    have nL : a ≠ X.env.locals := fun z => nfr (List.mem_filterMap.mpr ⟨X.env, List.mem_cons_self, by rw [hf, z]⟩)
    have nF : a ∉ X.fs := fun hm => by
      obtain ⟨e, he, q⟩ := List.mem_filterMap.mp hm
      exact nfr (List.mem_filterMap.mpr ⟨e, List.mem_cons_of_mem _ he, q⟩)
    have S3 := J3.suite e3 d3 na nL nF
    have LT : PySem.W.Looks (model X.prog X.w) h3 (typeOf (.ref a)) cls := fun A Q E s k q => wpAny_typeOf_ref (k _ _ e3) (by rw [z3.1]; exact q)
    suffices all : ∀ {hds' : List ExceptHandler} {l' : List Cl}, AsOk X hds' l' → wAsN X.K Wout D l' cls d σ1 H1 → wpAny (model X.prog X.w) X.A (handleBy (.ref a) X.env hds') (SP X pins D) X.xe { s' with heap := h3 } from all hh wish
    clear wish hh
    intro hds' l' hk
    induction hk with
    | nil =>
      intro wo
      obtain ⟨_, _, _, oe, vs, T, oT, ts', he, hz, hd, h1, hr⟩ := id fl
      have out : wpAny (model X.prog X.w) X.A (setFlight (.ref a) X.env.frame) (fun _ s4 => wpAny (model X.prog X.w) X.A (throw (.ref a) : Sem Flow) (SP X pins D) X.xe s4) X.xe { s' with heap := h3 } := by
        rw [hf]
        exact HandSPX.setFlight_upZ fl fun h4 hh4 up4 => wpAny_throw (tk _ _ ⟨a, B, sI, pins, σ1, H1, cls, d, rfl, J, nb, (up.trans up3).trans up4, .inr (.inr (by rw [hs]; exact hh4)), na, os, ag, wo⟩)
      refine wpAny_handleBy_nil ?_
      unfold PySem.passOn
      refine wpAny_bind (wpAny_field he hd h1 ?_)
      rw [if_neg (show ¬ ((Value.ref T == Value.none) = true) from by simp)]
      first
        | exact wpAny_bind (wpAny_pure (wpAny_bind out))
        | exact wpAny_bind out
    | @cons x n q b₀ suite np pos' hds2 l2 hi hln hc hsu r ih =>
      intro wo
      obtain ⟨b, hb1, hyes, hno⟩ := wo
      have LM := PySem.W.exm_one (M := model X.prog X.w) J3.kIn LT hb1
      refine wpAny_handleBy_cons (codeAny_handlers_test ?_) (by intro z; cases z)
      have name : ∀ {Q : Value → Shared → Prop} {E : Value → Shared → Prop}, Q q.c { s' with heap := h3 } → wpAny (model X.prog X.w) (X.A.mark (some (.ref a))) (eval (.Name x np) X.env) Q E { s' with heap := h3 } := fun {Q E} hQ => by
        obtain ⟨hg, hdbg, hm | ⟨hm, hv, hnn⟩⟩ := hc
        · exact ld_glob (X := X.suite a ((a, o3) :: (X.pn ++ pins))) S3 hg hm hQ hdbg
        · exact ld_blt (X := X.suite a ((a, o3) :: (X.pn ++ pins))) S3 hg hm hv hQ hnn hdbg
      refine name (LM.here ?_)
      cases b with
      | false =>
        show wpAny _ X.A (handleBy (.ref a) X.env hds2) _ _ _
        exact ih (hno rfl)
      | true =>
        refine codeAny_handlers_suite_as (HandSPX.lands_againZ fl fun h4 fl4 up4 => ?_)
        have J4 : Inv X pins σ1 H1 { s' with heap := h4 } := J.landed nb fl4.1 ((up.trans up3).trans up4) os ag
        obtain ⟨o4, vs4, e4, z4, d4⟩ := fl4.there
        refine store_ok (X := X.suite a ((a, o4) :: (X.pn ++ pins))) (v := .ref a) (J4.suite e4 d4 na nL nF) hN hi (.inl hln) rfl (fun s5 S5 => ?_) (.inr hln)
        refine wpAny_mono ((hsu a o4 cls d (X.pn ++ pins) z4 ⟨_, d4⟩).run [] s5 _ H1 _ S5 (hyes rfl a na)) (fun f s6 hsp => ?_) fun _ _ z => z.elim
        cases f with
        | next =>
          obtain ⟨σ6, H6, S6, q6⟩ := hsp
          exact gone_ok (S6.unsuite ok) hN hi hln fun s7 J7 => ⟨_, _, J7, q6⟩
        | brk =>
          obtain ⟨σ6, H6, S6, q6⟩ := hsp
          exact gone_ok (S6.unsuite ok) hN hi hln fun s7 J7 => ⟨_, _, J7, q6⟩
        | cont =>
          obtain ⟨σ6, H6, S6, q6⟩ := hsp
          exact gone_ok (S6.unsuite ok) hN hi hln fun s7 J7 => ⟨_, _, J7, q6⟩
        | ret u =>
          obtain ⟨v6, σ6, H6, S6, r6, q6⟩ := hsp
          exact gone_ok (S6.unsuite ok) hN hi hln fun s7 J7 => ⟨_, _, _, J7, r6, q6⟩
  · cases f with
    | next =>
      obtain ⟨σ', H', J', q⟩ := hsp
      exact wpAny_execs_nil ⟨σ', H', J'.ofTry ok, q⟩
    | brk =>
      obtain ⟨σ', H', J', q⟩ := hsp
      exact ⟨σ', H', J'.ofTry ok, q⟩
    | cont =>
      obtain ⟨σ', H', J', q⟩ := hsp
      exact ⟨σ', H', J'.ofTry ok, q⟩
    | ret u =>
      obtain ⟨v, σ', H', J', r, q⟩ := hsp
      exact ⟨v, σ', H', J'.ofTry ok, r, q⟩
end
end Vk
set_option Elab.async false
set_option linter.all false
set_option maxRecDepth 100000
set_option maxHeartbeats 4000000
namespace Vk
open PySem PySem.Spec PyProof.Rows L2
/-! len of an instance with its own `__len__` -/
def rLenI (C : Addr) (sp : Sp) (E : XK) : List V → Hp → VK → Prop := fun xs H Q => ∃ (a dx : Addr) (fs : List (Str × V)), xs = [V.ref a] ∧ H a = some (.ins C dx fs) ∧ sp [.ref a] H (fun z H' => ∃ n : Nat, z = .int (n : Int) ∧ n < 2 ^ 63 ∧ Q z H') E
theorem call_lenI {X : Cx} {CX : CXT} {C g : Addr} {n : Nat} {sp : Sp} {E : XK} (hs : PySem.W.findIn X.K (.ref C) "__len__" = some (some (.ref g))) (hf : PySem.W.isFn X.K (.ref g) = true) (F : FnR X.prog X.w X.K X.mg X.base CX n g sp) (hr : Room (n + 1) X.A) (hx : Passes CX X E) :
    CallR X (.builtin "len") (rLenI C sp E) := by
  intro pins s σ H xs us Q I r h
  obtain ⟨a, dx, fs, rfl, ha, q⟩ := h
  obtain ⟨u, rfl, ru⟩ := vals1 r
  cases (show u = Value.ref a from ru)
  obtain ⟨mA, O, _⟩ := ins_get I.hok ha
  obtain ⟨od, J, _⟩ := O.look
  obtain ⟨m, hF⟩ := I.fr
  have hr1 : Room n X.A.in1 := Room.in1 hr
  refine PySem.W.len_K hF I.ok.mod.kin J hs hf (wpAny_mono (wpAny_call (SlX.run_at (us := [.ref a]) (ws := [.ref a]) F hr1 I.env0.in1 hx I (.cons rfl .nil) q)) (fun w s' z => ?_) fun _ _ x => x)
  obtain ⟨z', H', I', rz, k, ei, hk, qz⟩ := z
  subst ei
  obtain ⟨t, e⟩ := (show ∃ t, w = Value.int (k : Int) t from rz)
  cases e
  exact ⟨⟨by omega, by omega⟩, .int (k : Int), H', I'.tok _, ⟨_, rfl⟩, qz⟩
end Vk
set_option Elab.async false
set_option linter.all false
set_option maxRecDepth 100000
set_option maxHeartbeats 4000000
namespace Vk
open PySem PySem.Spec PyProof.Rows L2
/-! o.m(e, ..) whose def may raise, in a try -/
def tMethS (C : Addr) (m : Str) (sp : Sp) (E : L2.St → XK) (ta : TE) (t : TA) : TE := fun σ H Q => ta σ H fun x H1 => ∃ a dx fs, x = .ref a ∧ H1 a = some (.ins C dx fs) ∧ fs.lookup m = none ∧ t σ H1 fun vs H2 => sp (x :: vs) H2 Q (E σ)
section
variable {X : Cx} {CX : CXT} {k : Nat} {f C : Addr} {fd : FuncData} {ps : List Str} {sp : Sp} {E : L2.St → XK} {m : Str} {apos pos : Pos} {o e : Expr} {es : List Expr} {ta : TE} {t : TA}
theorem pe_methS {pl : Sem Bool} (he : PE X o ta) (c : Cls X.K C) (hm : Meth X.K C m f) (F : FnOk X.prog X.w X.K X.mg X.base CX k f fd ps sp) (hr : Room k X.A) (hb : Binds X.K fd ps []) (hx : ∀ σ, PassesAt CX X σ (E σ)) (ha : PA X (e :: es) t)
    (hst : starEach (e :: es) X.env = (false, eval e X.env) :: starEach es X.env := by rfl) (hpl : (backTo pos (starEach es X.env)).any (·.1) = false := by rfl)
    (ht : eval (.Call (.Attribute o m apos) (e :: es) [] pos) X.env = (do
      let ov ← eval o X.env
      standAt apos.atName
      let (f, first) ← holding [ov] (getMethod ov m pl)
      callWith pos f first (backTo pos (starEach (e :: es) X.env)) (backToKw pos (keywordEach [] X.env))) := by rfl) :
    PE X (.Call (.Attribute o m apos) (e :: es) [] pos) (tMethS C m sp E ta t) := by
  refine ⟨fun pins s σ H Q I h => ?_⟩
  refine PySem.W.methodCall_KW (pl := pl) (thn (he.run pins s σ H _ I h) fun u s1 ⟨x, H1, I1, rx, a, dx, fs, ex, ea, l, q⟩ => ?_) ht
  subst ex
  obtain rfl : u = Value.ref a := rx
  refine getmeth_ok I1 ea c hm l ?_
  refine PySem.W.callWith_K (first := [.ref a]) (h₀ := X.base) I.ok.mod.kin hm.kp (thn (ha.run pos pins s1 σ H1 _ I1 q) fun us s2 ⟨vs, H2, I2, r, q2⟩ => ⟨I2.kIn, ?_⟩) hst hpl
  exact run_fnS (us := .ref a :: us) (vs := .ref a :: vs) F hr hb (hx σ) I2 (.cons rfl r) q2
end
end Vk
set_option Elab.async false
set_option linter.all false
set_option maxRecDepth 100000
set_option maxHeartbeats 2000000
namespace Vk
open PySem PySem.Spec PyProof.Rows L2

/-- the context of a body that closes over its class's cell -/
def cxS (CX : CXT) (P : Program) (w : World) (K : PySem.W.Frag) (mg : Str → Option Value) (base : Heap) (N : List Str) (qual : Str) (scope : Scope) (f cc : Addr) (cd : Value) (A : Around) (outer : List Env) (s : Shared) (H : Hp) (E : XK) : Cx where
  prog := P
  w := w
  K := K
  mg := mg
  base := base
  A := A.deeper (PySem.W.ksEnv qual scope s.heap.objs.size f cd cc)
  N := N
  s_0 := s
  H_0 := H
  env := PySem.W.ksEnv qual scope s.heap.objs.size f cd cc
  outer := outer
  stack := PySem.W.ksEnv qual scope s.heap.objs.size f cd cc :: outer
  ex := []
  calm := true
  fn := fun _ => false
  pn := []
  xe := fun e s' => wpAny (model P w) (A.deeper (PySem.W.ksEnv qual scope s.heap.objs.size f cd cc)) (leaving (PySem.W.ksEnv qual scope s.heap.objs.size f cd cc) e) (fun _ s'' => CX outer H s E e s'') (fun e' s'' => CX outer H s E e' s'') s'

/-- what the text has written of an own exception class at C and its __init__ at fI, whose code is at cda, its cell at cc -/
structure SupC (P : Program) (K : PySem.W.Frag) (mg : Str → Option Value) (C cc cda : Addr) : Prop where
  oex : OexC K C
  cell : ∃ cl cld csl, K.lookup cc = some ⟨cl, cld, .cell (some (.ref C)), csl⟩
  code : ∃ (ccl : Value) (cdd : Option Addr) (vs : Array Value) (ccs : Array (Option Value)) (file : Str) (tf : Tok), K.lookup cda = some ⟨ccl, cdd, .fields vs, ccs⟩ ∧ vs[2]? = some (.str file tf) ∧ ((P.main.file : Str) == file) = true
  sub : PySem.W.mroIn K C (.ref C) = some true
  sup : PySem.W.ks_superIn K C C "__init__" = some (some (.builtin "ValueError.__init__"))
  subV : PySem.W.subIn K (.ref C) (.type "ValueError") = some true
  noTop : (P.main.scope.names.lookup ("super" : Str)).isSome = false
  noMg : mg "super" = none
  any : PySem.W.nsIn K cStatics "thirdparty.any" = some none

structure SScope (N : List Str) (sc : Scope) : Prop where
  kind : sc.kind = .function
  co : sc.isCoroutine = false
  gen : sc.isGenerator = false
  nd : N.Nodup
  par : ∀ x ∈ N, sc.names.lookup x = some .local
  nocell : ∀ x ∈ sc.names, x.2 ≠ .cell
  free : ∀ x, sc.names.lookup x = some .free → x = "__class__"
  sup : sc.names.lookup ("super" : Str) = some .globalImplicit
  cls : sc.names.lookup ("__class__" : Str) = some .free

theorem rev_get {N : List Str} {us : List Value} (hlen : N.length = us.length) (nd : N.Nodup) {i : Nat} {x : Str} {u : Value} (h1 : N[i]? = some x) (h2 : us[i]? = some u) : (N.zip us).reverse.lookup x = some u := by
  have key : ∀ (l : List (Str × Value)), (l.map (·.1)).Nodup → ∀ x u, (x, u) ∈ l → l.lookup x = some u := by
    intro l
    induction l with
    | nil => intro _ _ _ h; cases h
    | cons p l ih =>
      intro hn x u hm
      obtain ⟨a, b⟩ := p
      simp only [List.map_cons, List.nodup_cons] at hn
      rcases List.mem_cons.mp hm with e | hm
      · cases e
        simp [List.lookup]
      · have hne : (x == a) = false := by
          have : x ≠ a := fun z => hn.1 (z ▸ List.mem_map_of_mem hm)
          simpa using this
        simp [List.lookup, hne, ih hn.2 x u hm]
  have hz : (N.zip us)[i]? = some (x, u) := by
    rw [List.getElem?_zip_eq_some]
    exact ⟨h1, h2⟩
  refine key _ ?_ _ _ (List.mem_reverse.mpr (List.mem_of_getElem? hz))
  rw [List.map_reverse]
  refine (List.pairwise_reverse (R := fun a b : Str => a ≠ b)).mpr ?_
  refine List.Pairwise.imp (R := fun a b : Str => a ≠ b) (fun h => Ne.symm h) ?_
  rw [List.map_fst_zip (Nat.le_of_eq hlen)]
  exact nd

theorem inv_s {CX : CXT} {P : Program} {w : World} {K : PySem.W.Frag} {mg : Str → Option Value} {base : Heap} {N : List Str} {qual : Str} {scope : Scope} {f cc : Addr} {cd : Value} {A : Around} {outer : List Env} {s : Shared} {H : Hp} {E : XK} {us : List Value} {vs : List V} {h1 : Heap} {tk : Nat} {oc : Value} {ocd : Option Addr} {osl : Array (Option Value)} {cv : Option Value}
    (S : SScope N scope) (hd : A.handled = none) (e0 : Env0 P w K mg base A outer s H) (hl : vs.length = N.length) (r : Vals vs us) (hcell : K.lookup cc = some ⟨oc, ocd, .cell cv, osl⟩)
    (hns : h1.Ns s.heap.objs.size (fun x => (N.zip us).reverse.lookup x)) (hk : ∀ b o, s.heap.get? b = some o → h1.get? b = some o) :
    Inv (cxS CX P w K mg base N qual scope f cc cd A outer s H E) [] (vs.map some) H { s with heap := h1, toks := tk } := by
  have noA : ∀ b : Addr, b ∉ (cxS CX P w K mg base N qual scope f cc cd A outer s H E).ex := fun b z => absurd (show b ∈ ([] : List Addr) from z) (by simp)
  have hcs : ∀ y c, (cxS CX P w K mg base N qual scope f cc cd A outer s H E).env.cells.lookup y = some c → y = "__class__" ∧ c = cc := fun y c h => by
    have h' : List.lookup y [(("__class__" : Str), cc)] = some c := h
    by_cases e : y = "__class__"
    · subst e
      simp [List.lookup] at h'
      exact ⟨rfl, h'.symm⟩
    · have q : (y == ("__class__" : Str)) = false := by simpa using e
      simp [List.lookup, q] at h'
  have hcb : ∃ o, base.get? cc = some o ∧ o.data = .cell cv := ⟨_, e0.mod.kin _ _ hcell, rfl⟩
  obtain ⟨ob, hb1, hb2⟩ := hcb
  refine ⟨⟨e0.mod, S.kind, rfl, rfl, Nat.le_refl _, fun y z c h1 h2 => ?_, fun y hy => ?_, fun y c h _ => absurd h (by show ¬ (false = true); decide), fun _ => hd, Around.frames_deeper e0.frames, .inr ⟨rfl, rfl⟩, fun b z => absurd z (noA b), e0.bs, e0.bsz, fun b _ _ => noA b, fun b z => absurd z (noA b), e0.funs, e0.frf⟩,
    rfl, e0.bare, Un.kept hk, ⟨_, hns, fun i y v h1 h2 h3 => ?_⟩, fun y c h => ?_, e0.hok.fresh (Nat.le_refl _), fun y c h => ?_, fun p hp => absurd (show p ∈ ([] : List (Addr × Obj)) from hp) (by simp), e0.hok.kept hk, ?_⟩
  · exact (hcs y c h1).1.trans (hcs z c h2).1.symm
  · have hy : scope.names.lookup y = some .cell ∨ scope.names.lookup y = some .free := hy
    rcases hy with hy | hy
    · exact absurd rfl (S.nocell _ (PySem.mem_of_lookup hy))
    · have e := S.free y hy
      subst e
      exact ⟨cc, by show List.lookup ("__class__" : Str) [(("__class__" : Str), cc)] = _; simp [List.lookup]⟩
  · have h1' : N[i]? = some y := h1
    have ha : vs[i]? = some v := by
      rw [List.getElem?_map] at h2
      cases e : vs[i]? with
      | none => rw [e] at h2; cases h2
      | some a => rw [e] at h2; cases h2; rfl
    obtain ⟨u, hu, rv⟩ := r.get ha
    exact ⟨u, rv, .inl ⟨S.par y (List.mem_of_getElem? h1'), rev_get (hl.symm.trans r.length) S.nd h1' hu⟩⟩
  · obtain ⟨_, rfl⟩ := hcs y c h
    exact ⟨cv, ob, hk _ _ (e0.bs _ _ hb1).1, hb2⟩
  · obtain ⟨_, rfl⟩ := hcs y c h
    exact (e0.bs _ _ hb1).2
  · show (vs.map some).length = N.length
    rw [List.length_map, hl]

/-- ValueError.__init__ bound to the exception at e, called -/
theorem call_bv {prog : Program} {w : World} {A : Around} {E : Value → Shared → Prop} {h : Heap} {g : Array GenState} {d : Drawn} {t : Nat} {os : OsState}
    {nm q : Str} {C N : Addr} {bs bm : List Value} {hdct : Bool} {sn : List Str} {sub : List Value} {ab : Bool} {col : Option Bool} {dd : Option Addr} {k0 k1 k2 k3 k5 : Option Value}
    {u e t0 : Addr} {rest : List Value} {Q : Value → Shared → Prop}
    (hC : h.get? C = some (excClassObj nm q C N bs bm hdct sn sub ab col dd k0 k1 k2 k3 k5 "ValueError.__new__")) (he : h.get? e = some (HandSPX.excO C t0)) (hu : h.get? u = some (PySem.W.kxs_mw "ValueError.__init__" e)) (hrest : rest.length ≤ sizeLine)
    (hq : ∀ h' t1, (∀ b o, b ≠ e → h.get? b = some o → h'.get? b = some o) → h'.get? e = some (HandSPX.excO C t1) → Q .none ⟨h', g, d, t, os⟩) :
    wpAny (model prog w) A (call (.ref u) rest) Q E ⟨h, g, d, t, os⟩ := by
  refine wpAny_call (codeAny_of_tree ?_)
  show wpAny _ A.in1 (callAny (.ref u) ⟨rest, []⟩) _ _ _
  unfold callAny
  refine wpAny_bind (wpAny_load hu ?_)
  simp only [PySem.W.kxs_mw, show (Value.type "method-wrapper" == Value.type "method" || Value.type "method-wrapper" == Value.type "builtin_function_or_method" || Value.type "method-wrapper" == Value.type "method-wrapper") = true from by decide, if_true]
  refine W.KFB.if_so (by decide) ?_
  refine wpAny_bind (PySem.ESX.check_bound F.excBase_ValueError hC he rfl ?_)
  refine wpAny_bind (wpAny_pure (wpAny_pure ?_))
  refine ⟨plainId_quiet F.excBase_ValueError.init.plain _, codeAny_builtin F.excBase_ValueError.initEntry ?_⟩
  refine PySem.W.exc_init_tree (cls := .ref C) (t0 := t0) (dv := none) (c2 := .none) (c3 := .none) (b4 := .bool false) he hrest fun h' k e' _ => hq h' _ k e'

/-- what super().__init__(e) asks: the argument; the exception, fresh -/
def tSup (C : Addr) (te : TE) : TS := fun D σ H => te σ H fun _ H1 => (∃ a, σ[0]? = some (some (.ref a)) ∧ H1 a = some (exo a C none)) ∧ D.nx σ H1

theorem fn_super {CX : CXT} {P : Program} {w : World} {K : PySem.W.Frag} {mg : Str → Option Value} {base : Heap} {k : Nat} {f C cc cda : Addr} {name qual self : Str} {params : Arguments} {body : List Stmt} {scope : Scope} {dV kV doc pm ct oc : Value} {an od : Option Addr}
    {osl : Array (Option Value)} {N : List Str} {sp : Sp} {parts : List Expr} {rest : List Stmt} {p0 p1 p2 p3 p4 jp : Pos} {ar : Arg} {N' : List Str} {pl : Sem Bool}
    (T : SupC P K mg C cc cda)
    (lk : K.lookup f = some ⟨oc, od, .func (PySem.W.ksFn name qual params body scope dV kV doc pm an (.ref cda) ct cc), osl⟩) (hcd : PySem.W.codeIn K (.ref cda) qual = true) (S : SScope N scope) (hN : N = self :: N')
    (hpar : (params.posonlyargs ++ params.args).head? = some ar) (har : ar.arg = self)
    (hbd : body = .Expr (.Call (.Attribute (.Call (.Name "super" p0) [] [] p1) "__init__" p2) [.JoinedStr parts jp] [] p3) p4 :: rest)
    (hcall : ∀ env : Env, eval (.Call (.Attribute (.Call (.Name "super" p0) [] [] p1) "__init__" p2) [.JoinedStr parts jp] [] p3) env = (do
      let ov ← attributeBase (.Call (.Name "super" p0) [] [] p1) "__init__" env (eval (.Call (.Name "super" p0) [] [] p1) env)
      standAt p2.atName
      let (f, first) ← holding [ov] (getMethod ov "__init__" pl)
      callWith p3 f first (backTo p3 (starEach [.JoinedStr parts jp] env)) []))
    (hsw : ∀ env : Env, swapsWith (.Call (.Attribute (.Call (.Name "super" p0) [] [] p1) "__init__" p2) [.JoinedStr parts jp] [] p3) none p4.line env = pure false)
    (len : ∀ vs H Q E, sp vs H Q E → vs.length = N.length)
    (hbody : ∀ (A : Around) (outer : List Env) (s : Shared) (H : Hp) (vs : List V) (Q : VK) (E : XK), Room k (A.deeper (PySem.W.ksEnv qual scope s.heap.objs.size f (.ref cda) cc)) → sp vs H Q E →
      ∃ te t, PE (cxS CX P w K mg base N qual scope f cc (.ref cda) A outer s H E) (.JoinedStr parts jp) te ∧ PSs (cxS CX P w K mg base N qual scope f cc (.ref cda) A outer s H E) rest t ∧
        (∃ a, vs[0]? = some (.ref a) ∧ H a = some (exo a C none)) ∧ tSeq (tSup C te) t { nx := fun _ H' => Q .non H', rt := Q } (vs.map some) H) :
    FnOk P w K mg base CX (k + 1) f (PySem.W.ksFn name qual params body scope dV kV doc pm an (.ref cda) ct cc) N sp := by
  refine ⟨len, fun A outer s H args us vs Q E hr e0 hb r hsp => ?_⟩
  have hl := len _ _ _ _ hsp
  have KX : K.In s.heap := e0.mod.kin.keeps fun b o e => (e0.bs b o e).1
  have lim : s.heap.NoLimit := e0.mod.nolimit.keeps fun b o e => (e0.bs b o e).1
  obtain ⟨cl, cld, csl, hcell⟩ := T.cell
  obtain ⟨ccl, cdd, vsC, ccs, file, tf, hcode, hvs2, hfile⟩ := T.code
  obtain ⟨nm, q, Nc, bs, bm, sn, sub, ab, col, dd, k0, k1, k2, k3, k5, hC, hbm⟩ := T.oex.cls
  obtain ⟨te, t, hpe, hps, ⟨a, ha0, hea⟩, hq⟩ := hbody A outer s H vs Q E (hr.deeper _) hsp
  refine ks_codeAny_call_defAt (fd := PySem.W.ksFn name qual params body scope dV kV doc pm an (.ref cda) ct cc) (body := body) (binds := N.zip us) hr.depth (KX _ _ lk) rfl lim (PySem.W.codeRec_of KX hcd) rfl hb S.nocell (fun y hy => S.par y.1 (List.of_mem_zip (a := y.1) (b := y.2) hy).1) (fun h1 hns hk => ?_) S.co S.gen S.kind
  have I : Inv (cxS CX P w K mg base N qual scope f cc (.ref cda) A outer s H E) [] (vs.map some) H { s with heap := h1, toks := s.toks + (N.zip us).length } := inv_s S hr.hd e0 hl r hcell hns hk
  subst hbd
  subst hN
  have ka0 : ∃ u0 us', us = u0 :: us' := by
    cases us with
    | nil => have q := r.length; rw [hl] at q; exact absurd q (by simp)
    | cons u0 us' => exact ⟨u0, us', rfl⟩
  obtain ⟨u0, us', rfl⟩ := ka0
  have hu0 : u0 = Value.ref a := by
    cases r with
    | cons r0 rt =>
      rw [List.getElem?_cons_zero] at ha0
      cases ha0
      exact r0
  subst hu0
  have hL : ((self :: N').zip (Value.ref a :: us')).reverse.lookup self = some (Value.ref a) := rev_get (by rw [← r.length]; exact hl.symm) S.nd (i := 0) rfl rfl
  have hself : scope.names.lookup self = some .local := S.par self List.mem_cons_self
  have hne : a ≠ C := fun z => by
    obtain ⟨t1, ho⟩ := exo_at e0.hok hea
    rw [z, KX _ _ hC] at ho
    cases ho
  generalize hs1 : s.toks + ((self :: N').zip (Value.ref a :: us')).length = tk1 at I ⊢
  obtain ⟨hp0, g, d, tk, os⟩ := s
  let env := PySem.W.ksEnv qual scope hp0.objs.size f (.ref cda) cc
  show PySem.wpAt (model P w) (A.deeper env) (.func (.Expr (.Call (.Attribute (.Call (.Name "super" p0) [] [] p1) "__init__" p2) [.JoinedStr parts jp] [] p3) p4 :: rest) env) (execs (.Expr (.Call (.Attribute (.Call (.Name "super" p0) [] [] p1) "__init__" p2) [.JoinedStr parts jp] [] p3) p4 :: rest) env) _ _ _
  have hint : interactive env = false := by
    unfold interactive
    rw [show env.scope.kind = ScopeKind.function from S.kind]
    rfl
  refine ks_wpAt_execs_cons (ks_wpAt_Expr_any (ks_wpAt_MethodCall (pl := pl) ?_ (hcall env)) hint (hsw env))
  · refine ks_wpAt_super_base (env := env) S.sup S.cls (by decide) rfl (hk _ _ (KX _ _ lk)) rfl hpar rfl (hk _ _ (KX _ _ hcode)) rfl hvs2 hfile T.noTop ?_
    obtain ⟨mb, hb1, hb2⟩ := I.mod.blt
    have hbs : mb ("super" : Str) = some (.type "super") := (hb2 _ (by decide)).trans (by decide +kernel)
    refine PySem.W.ks_loadName_global (env := env) S.kind S.sup (Calls.loadGlobal_builtin (env := env) (I.mod.glob.keeps I.bk) T.noMg (hb1.keeps I.bk) hbs ⟨rfl, ?_⟩)
    refine wpAny_loadName_free (env := env) S.kind S.cls rfl ⟨_, hk _ _ (KX _ _ hcell), rfl⟩ ?_
    rw [har]
    refine wpAny_loadName_local (env := env) S.kind hself hns hL ?_
    have KX1 : K.In h1 := KX.keeps hk
    have hC1 := KX1 _ _ hC
    obtain ⟨t1, hx1⟩ := exo_at I.hok hea
    have hcl : PySem.W.clsIn K C = some { name := nm, bases := bs, mro := .ref C :: bm, ns := Nc, qualname := q, hasDict := true, slotNames := sn, subclasses := sub, abstract := ab, collection := col, hasDel := false } := by unfold PySem.W.clsIn; rw [hC] <;> rfl
    have hsup := T.sup
    unfold PySem.W.ks_superIn at hsup
    rw [hcl] at hsup
    refine ks_wpAny_isType_cls hC1 rfl ⟨rfl, ?_⟩
    refine ks_wpAny_call_super hC1 rfl hx1 rfl (fun c z => by cases z) (PySem.W.looks_mroIn KX1 T.sub) (fun h2 e2 k2 => ?_)
    have I1 : Inv (cxS CX P w K mg base (self :: N') qual scope f cc (.ref cda) A outer ⟨hp0, g, d, tk, os⟩ H E) [] (vs.map some) H ⟨h2, g, d, tk1, os⟩ := I.kept (t' := tk1) k2
    have KX2 : K.In h2 := KX1.keeps k2
    have J2 : PySem.W.InstAt h2 a ({ cls := .ref C, dict := none, data := .fields #[.ref t1, .none, .none, .none, .bool false, .none] } : Obj) C none := ⟨k2 _ _ hx1, rfl, rfl, trivial⟩
    refine PySem.W.kxs_getMethod PySem.W.kxs_ValueError e2 (PySem.W.looks_opaque KX2 T.any) (fun A Q E s k q => wpAny_bind ((PySem.W.looks_clsIn KX2 hcl) A _ E s k (wpAny_pure q))) rfl KX2 hsup (J2.type.andThen (PySem.W.looks_subIn KX2 T.subV)) hne (by decide) ?_
    have fp := I1.fpOk (b := h2.objs.size) (H' := H) (Nat.le_refl _) (I1.hok.fresh (Nat.le_refl _))
    have I2 : Inv (cxS CX P w K mg base (self :: N') qual scope f cc (.ref cda) A outer ⟨hp0, g, d, tk, os⟩ H E) [(h2.objs.size, PySem.W.kxs_mw "ValueError.__init__" a)] (vs.map some) H ⟨h2.push (PySem.W.kxs_mw "ValueError.__init__" a), g, d, tk1 + 1, os⟩ :=
      (I1.kept (t' := tk1 + 1) (h' := h2.push (PySem.W.kxs_mw "ValueError.__init__" a)) fun b o z => Heap.get?_push_of_some _ z).pins_of fun p hp => by
        have ep : p = (h2.objs.size, PySem.W.kxs_mw "ValueError.__init__" a) := by simpa using hp
        subst ep
        exact ⟨Heap.get?_push_at rfl rfl, fp.1, fp.2.1, fp.2.2.1, fun v z => by cases z⟩
    have hst : starEach [Expr.JoinedStr parts jp] env = (false, eval (.JoinedStr parts jp) env) :: starEach [] env := rfl
    rw [hst]
    refine PySem.W.kxs_callWith (i := "ValueError.__init__") (x := a) (by rfl) (Calls.evalArgs_plain ?_)
    refine Calls.spliced_cons (thn (hpe.run [(h2.objs.size, PySem.W.kxs_mw "ValueError.__init__" a)] _ (vs.map some) H _ I2 hq) fun u1 s3 hh => Calls.spliced_nil ?_)
    obtain ⟨v1, H3, I3, r3, ⟨a', ea', hea3⟩, q3⟩ := hh
    have ea2 : a' = a := by
      rw [List.getElem?_map, ha0] at ea'
      cases ea'
      rfl
    subst ea2
    have hu3 : s3.heap.get? h2.objs.size = some (PySem.W.kxs_mw "ValueError.__init__" a') := (I3.pin (h2.objs.size, PySem.W.kxs_mw "ValueError.__init__" a') (by simp)).1
    refine ⟨hu3, ?_⟩
    obtain ⟨t3, hx3⟩ := exo_at I3.hok hea3
    have KX3 := I3.kIn
    have hlen1 : [u1].length ≤ sizeLine := by
      rw [sizeLine_eq]
      exact (by decide : 1 ≤ 16777216)
    obtain ⟨hp3, g3, d3, tk3, os3⟩ := s3
    refine call_bv (KX3 _ _ hC) hx3 hu3 hlen1 fun h4 t4 k4 hx4 => ?_
    have J := I3.write (t' := tk3) (x := a') (e := a') (o := exo a' C none) (by rw [hea3]; exact True.intro) (.inl rfl) k4 ⟨_, hx4⟩ (exo_ok hx4)
    have eu : upd H3 a' (exo a' C none) = H3 := by
      funext b
      by_cases hb : b = a'
      · rw [hb, upd_same, hea3]
      · rw [upd_ne hb]
    rw [eu] at J
    have J0 : Inv (cxS CX P w K mg base (self :: N') qual scope f cc (.ref cda) A outer ⟨hp0, g, d, tk, os⟩ H E) [] (vs.map some) H3 ⟨h4, g3, d3, tk3, os3⟩ := Inv.unpinned (pins := []) J
    refine PySem.wpAt_of_wpAny ?_
    refine wpAny_mono (hps.run [] _ (vs.map some) H3 _ J0 q3) (fun fl s' hs => ?_) fun e s' hs => hs
    have fin : ∀ {σ' : L2.St} {H' : Hp} {v : V} {u : Value}, Inv (cxS CX P w K mg base (self :: N') qual scope f cc (.ref cda) A outer ⟨hp0, g, d, tk, os⟩ H E) [] σ' H' s' → RelV v u → Q v H' → CE outer P w H ⟨hp0, g, d, tk, os⟩ Q u s' :=
      fun {σ' H' v u} J rv q => ⟨v, H', J.os, J.bare, J.base, J.hok, rv, q⟩
    cases fl with
    | ret u =>
      obtain ⟨v, σ', H', J, rv, q⟩ := hs
      exact fin J rv q
    | next =>
      obtain ⟨σ', H', J, q⟩ := hs
      exact fin (v := V.non) (u := Value.none) J rfl q
    | brk =>
      obtain ⟨_, _, _, q⟩ := hs
      exact False.elim q
    | cont =>
      obtain ⟨_, _, _, q⟩ := hs
      exact False.elim q
end Vk
set_option Elab.async false
set_option linter.all false
set_option maxRecDepth 100000
set_option maxHeartbeats 4000000
namespace Vk
open PySem PySem.Spec PyProof.Rows L2
/-! isinstance of a caught error that has a dict -/
section
open PySem.W
variable {prog : Program} {w : World} {A : Around} {E : Value → Shared → Prop} {s : Shared} {K : Frag} {x D : Addr} {ox od : Obj}
theorem cls_of_exc {Q : Option Value → Shared → Prop} (T : ExcC K D) (X : K.In s.heap) (I : InstAt s.heap x ox D (some od)) (h : Q (some (.ref D)) { s with toks := s.toks + 1 }) : wpAny (model prog w) A (getAttr? (.ref x) "__class__") Q E s := by
  have hf : findObj K D (some od) "__class__" = some (.bind (.builtin "getset_descriptor.__get__") (.builtin "object.__class__")) :=
    findObj_data (by obtain ⟨cd, hc, _⟩ := any_some T.hd; rw [hc]; rfl) T.ha T.hn T.ht
  obtain ⟨hp, g, d, t, os⟩ := s
  have K0 := I.type (M := model prog w)
  have K1 := looks_findIn (M := model prog w) X T.hg
  have K2 := looks_findIn (M := model prog w) X T.hk
  have K3 := looks_find (M := model prog w) X I hf
  have sub : Looks (model prog w) hp (isInstance (.ref x) (.type "BaseException")) true := K0.andThen (looks_subIn X T.hs)
  have q0 : (false && onTheHeap (Value.builtin "BaseException.__getattribute__")) = false := rfl
  have q2 : (Value.builtin "BaseException.__getattribute__" == Value.builtin "object.__getattribute__") = false := by decide +kernel
  have q1 : (onTheHeap (Value.ref D) && Value.builtin "BaseException.__getattribute__" == Value.builtin "object.__getattribute__") = false := by rw [q2]; rfl
  unfold getAttr? getAttrBy? getAttrBy
  refine wpAny_bind (wpAny_mkText (wpAny_bind (wpAny_attempt (wpAny_holding (wpAny_bind (K0.at (wpAny_bind (K1.at ?_))))))))
  show wpAny _ _ (if (onTheHeap (Value.ref D) && Value.builtin "BaseException.__getattribute__" == Value.builtin "object.__getattribute__") = true then _ else _) _ _ _
  rw [q1, if_neg Bool.false_ne_true]
  unfold getAttrByItsOwn hookBefore
  refine wpAny_bind ?_
  rw [if_pos (show onTheHeap (Value.ref D) = true from rfl)]
  refine K2.at (wpAny_bind (wpAny_attempt (wpAny_holding ?_)))
  unfold callGetattribute
  rw [q0, if_neg Bool.false_ne_true]
  unfold boundAndCalled
  rw [PySem.F.excAttr_ValueError.ga.bind (.ref x)]
  refine wpAny_bind (wpAny_pure ?_)
  show wpAny _ _ (call (.builtin "BaseException.__getattribute__") [.ref x, .str "__class__" t]) _ _ _
  refine wpAny_call (codeAny_call_builtin PySem.F.excAttr_ValueError.ga.plain PySem.F.entry_bexc_ga ?_)
  refine @check_slot (model prog w) _ _ ⟨hp, g, d, t + 1, os⟩ "BaseException.__getattribute__" "BaseException" "__getattribute__" (.ref x) [.str "__class__" t] [] _ (by decide +kernel) (by decide +kernel) sub (PySem.F.args_bexc_ga (.ref x) (.str "__class__" t)) ?_
  unfold Builtin.«object.__getattribute__»
  refine wpAny_bind (wpAny_of_eq (a := ((Value.ref x : Value), [Value.str "__class__" t])) (by first | rfl | (simp only [slotArgs]; rfl)) ?_)
  refine wpAny_bind (wpAny_pure (wpAny_bind (K0.at (wpAny_bind (K3.at ?_)))))
  show wpAny _ _ (holding [Value.builtin "object.__class__"] (call (.builtin "getset_descriptor.__get__") [.builtin "object.__class__", .ref x, .ref D]) >>= ret) _ _ _
  refine wpAny_bind (wpAny_holding (wpAny_call (class_get (s := ⟨hp, g, d, t + 1, os⟩) (ox := ox) (od := some od) X I T.hm (wpAny_pure ?_))))
  show wpAny _ _ (handedOut (.ref D)) _ _ _
  rw [handedOut_of (v := .ref D) rfl]
  first
    | exact wpAny_pure (wpAny_pure h)
    | exact wpAny_pure h
    | exact wpAny_pure (wpAny_bind (wpAny_pure (wpAny_pure h)))
theorem kit_excD (T : ExcC K D) : KitX K (.ref x) (.ref D) (fun h => InstAt h x ox D (some od)) where
  ty := fun _ _ _ I => I.type
  it := fun _ _ X _ => by
    obtain ⟨cdD, hcD, _⟩ := any_some T.hd
    unfold clsIn at hcD
    split at hcD
    · rename_i c1 d1 cd1 sl1 ho
      intro A1 Q1 E1 s1 k q
      unfold isType loadHead
      exact wpAny_bind (wpAny_loadPart (k _ _ (X _ _ ho)) (wpAny_pure q))
    · cases hcD
  ne := fun h tp dd its n sl X htp => by
    obtain ⟨cdD, hcD, _⟩ := any_some T.hd
    refine Bool.eq_false_iff.mpr fun q => ?_
    have e : D = tp := Value.ref.inj (beq_iff_eq.mp q)
    subst e
    unfold clsIn at hcD
    split at hcD
    · rename_i c1 d1 cd1 sl1 ho
      have z := (X _ _ ho).symm.trans htp
      cases z
    · cases hcD
  ca := fun X I k => cls_of_exc T X I k
end
/-- the caught error at a, of the class at D, its dict at dd: it can be asked for its class -/
theorem exc_inst {X : Cx} {a D dd : Addr} {oe : Obj} {pn : List (Addr × Obj)} {pins : List (Addr × Obj)} {σ : L2.St} {H : Hp} {s : Shared} {fs : List (Str × V)} (hz : Zc (.ref D) (some dd) oe) (hf : ∃ vs, oe.data = .fields vs)
    (I : Inv (X.suite a ((a, oe) :: pn)) pins σ H s) (hd : H dd = some (.xd fs)) : ∃ od, PySem.W.InstAt s.heap a oe D (some od) := by
  obtain ⟨ha, _⟩ := I.pin (a, oe) (List.mem_append_left _ List.mem_cons_self)
  obtain ⟨vs, hv⟩ := hf
  have hx : ObjOk X.prog X.w H s.heap dd (.xd fs) := I.hok dd _ hd
  obtain ⟨mA, hns, hr⟩ := hx
  obtain ⟨od, ho, hl⟩ := lookIn_ns hns
  exact ⟨od, ha, hz.1, by unfold PySem.W.notCls; rw [hv] <;> rfl, by rw [hz.2]; exact ho⟩
/-- isinstance(e, c), isinstance(e, (c1, c2)) in the suite: t the class of e as a value -/
def rIsX (K : PySem.W.Frag) (a : Addr) (cls : Value) (d : Option Addr) : List V → Hp → VK → Prop := fun xs H Q =>
  ∃ (D dd : Addr) (fs : List (Str × V)), cls = .ref D ∧ d = some dd ∧ ExcC K D ∧ H dd = some (.xd fs) ∧
    ((∃ (c : V) (u : Value) (b : Bool), xs = [.ref a, c] ∧ ClsV c u ∧ PySem.W.kitOne K (.ref D) u = some b ∧ Q (.bl b) H) ∨
      ∃ (tp : Addr) (cs : List V) (us : List Value) (b : Bool), xs = [.ref a, .ref tp] ∧ H tp = some (.tup cs) ∧ Paired ClsV cs us ∧ PySem.W.kitAny K (.ref D) us = some b ∧ Q (.bl b) H)
theorem call_isX {X : Cx} {a : Addr} {cls : Value} {d : Option Addr} {oe : Obj} {pn : List (Addr × Obj)} (hz : Zc cls d oe) (hf : ∃ vs, oe.data = .fields vs) : CallR (X.suite a ((a, oe) :: pn)) (.builtin "isinstance") (rIsX X.K a cls d) := by
  intro pins s σ H xs us Q I r h
  obtain ⟨D, dd, fs, rfl, rfl, C, hd, h⟩ := h
  obtain ⟨od, J⟩ := exc_inst hz hf I hd
  rcases h with ⟨c, u, b, rfl, k, e, q⟩ | ⟨tp, cs, ws, b, rfl, hT, k, e, q⟩
  · obtain ⟨u1, u2, rfl, r1, r2⟩ := vals2 r
    cases (show u1 = Value.ref a from r1)
    have e2 := k.eq r2
    subst e2
    exact PySem.W.kia_one (kit_excD C) I.kIn J e (fun z => nomatch z) fun tk => ⟨.bl b, H, I.tok tk, rfl, q⟩
  · obtain ⟨u1, u2, rfl, r1, r2⟩ := vals2 r
    cases (show u1 = Value.ref a from r1)
    cases (show u2 = Value.ref tp from r2)
    obtain ⟨_, its, rv, o, h1, h2, n, h3⟩ := (show ObjOk X.prog X.w H s.heap tp (.tup cs) from I.hok tp _ hT)
    have e3 := ClsV.all k rv
    subst e3
    obtain ⟨oc, od', dt, sl⟩ := o
    simp only at h2 h3
    subst h2 h3
    exact PySem.W.kia_tup (kit_excD C) I.kIn J h1 e (fun z => nomatch z) fun tk => ⟨.bl b, H, I.tok tk, rfl, q⟩

/-! x == y by an own __eq__ -/
def rOwnI (K : PySem.W.Frag) (C : Addr) (sp : Sp) (E : XK) : R2 := fun x y H Q => ∃ a dx fs b C' dy gs, x = .ref a ∧ y = .ref b ∧ H a = some (.ins C dx fs) ∧ H b = some (.ins C' dy gs) ∧ PySem.W.notFirst K C (.ref C') = true ∧ sp [x, y] H Q E
section
variable {X : Cx} {CX : CXT} {k : Nat} {g C : Addr} {fd : FuncData} {ps : List Str} {sp : Sp} {E : XK}
theorem op_ownI {op : CmpOp} (hop : ∀ a b, compareOp op a b = richCompare op a b) (hs : PySem.W.findIn X.K (.ref C) (cmpInfo op).2.1 = some (some (.ref g))) (hf : PySem.W.isFn X.K (.ref g) = true) (F : FnOk X.prog X.w X.K X.mg X.base CX k g fd ps sp)
    (hr : Room k X.A) (hb : Binds X.K fd ps []) (hx : Passes CX X E) : OpR X (compareOp op) (rOwnI X.K C sp E) := by
  intro pins s σ H x y v u Q I rx ry h
  obtain ⟨a, dx, fs, b, C', dy, gs, rfl, rfl, ha, hbb, hn, q⟩ := h
  cases (show v = Value.ref a from rx)
  cases (show u = Value.ref b from ry)
  obtain ⟨mA, O, _⟩ := ins_get I.hok ha
  obtain ⟨od, J, _⟩ := O.look
  obtain ⟨mB, O2, _⟩ := ins_get I.hok hbb
  obtain ⟨od2, J2, _⟩ := O2.look
  obtain ⟨m, hF⟩ := I.fr
  rw [hop]
  refine PySem.W.cmp_K (op := op) (tb := .ref C') hr.units0 hF I.ok.mod.kin J J2.type hn hs hf ?_
  refine wpAny_mono (run_fn (us := [.ref a, .ref b]) (vs := [.ref a, .ref b]) F hr hb .nil hx I (.cons rfl (.cons rfl .nil)) (by rw [List.append_nil]; exact q)) (fun w s1 z => ?_) fun _ _ x => x
  obtain ⟨z1, H1, I1, rz, qz⟩ := z
  exact SlX.cmpback rz ⟨z1, H1, I1, rz, qz⟩
end

/-! C(e, ..) whose __init__ may raise, in a try: what is raised is wished for at the slots -/
def tMakeS (C : Addr) (sp : Sp) (dvs : List V) (E : L2.St → XK) (t : TA) : TE := fun σ H Q => t σ H fun vs H1 => ∀ x dx, H1 x = none → H1 dx = none → dx ≠ x →
  sp (.ref x :: (vs ++ dvs)) (upd (upd H1 dx (.own x)) x (.ins C dx [])) (fun v H2 => v = .non ∧ Q (.ref x) H2) (E σ)
section
variable {X : Cx} {CX : CXT} {k : Nat} {f C : Addr} {fd : FuncData} {ps : List Str} {sp : Sp} {dvs : List V} {ds : List Value} {E : L2.St → XK} {x : Str} {p pos : Pos} {e : Expr} {es : List Expr} {t : TA}
theorem pe_makeS (M : Mk X.K C f) (F : FnOk X.prog X.w X.K X.mg X.base CX k f fd ps sp) (hr : Room (k + 1) X.A) (hg : Gl X x) (hm : X.mg x = some (.ref C)) (hb : Binds X.K fd ps ds) (hd : Vals dvs ds) (hx : ∀ σ, PassesAt CX X σ (E σ))
    (ha : PA X (e :: es) t) (hdb : (x == ("__debug__" : Str)) = false := by decide) (he : starEach (e :: es) X.env = (false, eval e X.env) :: starEach es X.env := by rfl) (hpl : (backTo pos (starEach es X.env)).any (·.1) = false := by rfl) :
    PE X (.Call (.Name x p) (e :: es) [] pos) (tMakeS C sp dvs E t) := by
  refine ⟨fun pins s σ H Q I h => ?_⟩
  refine wpAny_Call_Name_kw (ld_glob I hg hm ?_ hdb)
  refine PySem.W.callWith_K (h₀ := X.base) I.ok.mod.kin M.kp (thn (ha.run pos pins s σ H _ I h) fun us s1 hh => ?_) he hpl
  obtain ⟨vs, H1, I1, r, q⟩ := hh
  refine ⟨I1.kIn, ?_⟩
  show wpAny _ _ (call (.ref C) us) _ _ _
  have hq := q (s1.heap.objs.size + 1) s1.heap.objs.size (I1.hok.fresh (Nat.le_succ _)) (I1.hok.fresh (Nat.le_refl _)) (Nat.ne_of_lt (Nat.lt_succ_self _))
  have I2 := Inv.made (C := C) I1
  have r2 : Vals (V.ref (s1.heap.objs.size + 1) :: (vs ++ dvs)) (Value.ref (s1.heap.objs.size + 1) :: (us ++ ds)) := .cons rfl (r.append hd)
  have hl : (Value.ref (s1.heap.objs.size + 1) :: us ++ ds).length = ps.length := by
    have e := r2.length
    rw [F.len _ _ _ _ hq] at e
    exact e.symm
  refine wpAny_call (make_map (f := f) I1.kIn M.makes M.init (beq_iff_eq.mp M.fn) (codeAny_mono (F.run _ X.stack _ _ ⟨Value.ref (s1.heap.objs.size + 1) :: us, []⟩ (Value.ref (s1.heap.objs.size + 1) :: (us ++ ds)) _ _ (E σ) (hr.make C us [])
    (I2.env0.make C us []) (hb _ (Value.ref (s1.heap.objs.size + 1) :: us) I2.kIn hl) r2 hq) fun r3 s3 hq3 => ?_))
  cases r3 with
  | error e => exact hx σ _ _ _ e s3 I2 hq3
  | ok fl =>
    cases fl with
    | ret u =>
      obtain ⟨v, H3, I3, rv, ev, q3⟩ := I2.after hq3
      subst ev
      exact ⟨rv, ⟨V.ref (s1.heap.objs.size + 1), H3, I3, rfl, q3⟩⟩
    | next => exact False.elim hq3
    | brk => exact False.elim hq3
    | cont => exact False.elim hq3
end
end Vk
set_option Elab.async false
set_option linter.all false
set_option maxRecDepth 100000
set_option maxHeartbeats 4000000
namespace Vk
open PySem PySem.Spec PyProof.Rows L2
/-- what a class says of its own operator, the right hand side a builtin T -/
structure BinF (K : PySem.W.Frag) (C g : Addr) (op : Operator) (T : String) : Prop where
  sf : PySem.W.selfFirst K C = true
  own : PySem.W.findIn K (.ref C) (PySem.dunder op.info.2) = some (some (.ref g))
  fn : PySem.W.isFn K (.ref g) = true
  nr : PySem.W.findIn K (.ref C) (dunderR op.info.2) = some none
  t1 : ∃ fo, PySem.W.findIn K (.type T) (PySem.dunder op.info.2) = some fo
  t2 : ∃ ro, PySem.W.findIn K (.type T) (dunderR op.info.2) = some ro
  sub : PySem.W.subIn K (.type T) (.ref C) = some false
section
variable {prog : Program} {w : World} {A : Around} {E : Value → Shared → Prop} {s : Shared} {K : PySem.W.Frag} {x C L g : Addr} {h0 : Heap} {m : Str → Option Value} {ox : Obj} {od : Option Obj} {T : String}
theorem bin_any {op : Operator} {b : Value} {Q : Value → Shared → Prop} (F : PyProof.Rows.Fr h0 L s.heap m) (X0 : K.In h0) (I : PySem.W.InstAt s.heap x ox C od) (lb : PySem.W.Looks (model prog w) s.heap (typeOf b) (.type T)) (B : BinF K C g op T)
    (go : wpAny (model prog w) A (call (.ref g) [.ref x, b]) (PySem.W.CmpBack Q) E s) : wpAny (model prog w) A (binaryOp op (.ref x) b) Q E s := by
  have Xs := X0.keeps F.keep
  obtain ⟨B1, B2, B3, B4, ⟨fo, B5⟩, ⟨ro, B6⟩, B7⟩ := B
  obtain ⟨cd, rest, hcd, hm⟩ := PySem.W.ksp_first B1
  obtain ⟨sym, n2, hi⟩ : ∃ sym n2, op.info = (sym, n2) := ⟨_, _, rfl⟩
  simp only [hi] at B2 B4 B5 B6
  have run := PySem.W.ksp_try Xs I B2 B3 go
  have l1 := I.type (M := model prog w)
  have l3 := PySem.W.fills_K (M := model prog w) Xs hcd hm B2
  have l4 := PySem.W.ksp_fillsT (M := model prog w) Xs B5 B6
  have l5 := PySem.W.looks_subIn (M := model prog w) Xs B7
  have l6 := PySem.W.ksp_inPy (M := model prog w) Xs B2 B4 (.inl rfl)
  have l7 : PySem.W.Looks (model prog w) s.heap (numberSlotInPython (.type T) n2) false := .of_pure rfl
  have l8 := PySem.W.looks_findIn (M := model prog w) Xs B6
  generalize ((fo.isSome && !isSeqSlot fo) || (ro.isSome && !isSeqSlot ro)) = rgt at l4
  have ne : (Value.ref C == Value.type T) = false := rfl
  cases s
  simp only [binaryOp, hi]
  refine wpAny_holding (wpAny_bind ?_)
  unfold binaryOp1
  refine wpAny_bind (l1.at (wpAny_bind (lb.at (wpAny_bind (l3.at ?_)))))
  simp only [ne, Bool.false_eq_true, if_false]
  cases rgt <;>
  · ksp_lk
    refine wpAny_mono run (fun r s' z => ?_) fun _ _ e => e
    obtain ⟨v, rfl, q⟩ := z
    ksp_lk
    exact q
end
theorem looks_tuple {M : Model} {h : Heap} {p : Addr} {o : Obj} (e : h.get? p = some o) (c : o.cls = .type "tuple") : PySem.W.Looks M h (typeOf (.ref p)) (.type "tuple") :=
  fun _ _ _ _ k q => wpAny_typeOf ⟨o, k _ _ e, c⟩ q
/-! x op y by an own method, y a text or a tuple; what it raises is wished for at the slots -/
def tBinI (K : PySem.W.Frag) (C : Addr) (sp : Sp) (E : L2.St → XK) (ta tb : TE) : TE := fun σ H Q => ta σ H fun x H1 => tb σ H1 fun y H2 => ∃ a dx fs, x = .ref a ∧ H2 a = some (.ins C dx fs) ∧ ((∃ z, y = .str z) ∨ ∃ p xs, y = .ref p ∧ SqT K H2 p xs) ∧ sp [x, y] H2 Q (E σ)
section
variable {X : Cx} {CX : CXT} {k : Nat} {g C : Addr} {fd : FuncData} {ps : List Str} {sp : Sp} {E : L2.St → XK} {pos : Pos} {e f : Expr} {ta tb : TE} {op : Operator}
theorem pe_binI (B1 : BinF X.K C g op "str") (B2 : BinF X.K C g op "tuple") (F : FnOk X.prog X.w X.K X.mg X.base CX k g fd ps sp) (hr : Room k X.A) (hb : Binds X.K fd ps []) (hx : ∀ σ, PassesAt CX X σ (E σ)) (he : PE X e ta) (hf : PE X f tb) :
    PE X (.BinOp e op f pos) (tBinI X.K C sp E ta tb) := by
  refine ⟨fun pins s σ H Q I h => ?_⟩
  refine wpAny_BinOp (binT he hf (R := fun x y H2 => ∃ a dx fs, x = .ref a ∧ H2 a = some (.ins C dx fs) ∧ ((∃ z, y = .str z) ∨ ∃ p xs, y = .ref p ∧ SqT X.K H2 p xs) ∧ sp [x, y] H2 Q (E σ)) I h fun v u s2 x y H2 I2 rx ry q => ?_)
  obtain ⟨a, dx, fs, rfl, ha, hy, q⟩ := q
  cases (show v = Value.ref a from rx)
  obtain ⟨mA, O, _⟩ := ins_get I2.hok ha
  obtain ⟨od, J, _⟩ := O.look
  obtain ⟨m, hF⟩ := I2.fr
  have run : wpAny (model X.prog X.w) X.A (call (.ref g) [.ref a, u]) (PySem.W.CmpBack (EP X pins σ Q)) X.xe s2 := by
    refine wpAny_mono (run_fnS (us := [.ref a, u]) (vs := [.ref a, y]) F hr hb (hx σ) I2 (.cons rfl (.cons ry .nil)) q) (fun w s1 z => ?_) fun _ _ z => z
    obtain ⟨z1, H1, I1, rz, qz⟩ := z
    exact SlX.cmpback rz ⟨z1, H1, I1, rz, qz⟩
  rcases hy with ⟨z, rfl⟩ | ⟨p, xs, rfl, hp⟩
  · obtain ⟨t, rfl⟩ := ry
    exact bin_any hF I2.ok.mod.kin J (.of_pure rfl) B1 run
  · cases (show u = Value.ref p from ry)
    obtain ⟨its, _, ⟨o, ho, hc, _⟩, _⟩ := I2.tuple hp
    exact bin_any hF I2.ok.mod.kin J (looks_tuple ho hc) B2 run
/-! y in x by an own __contains__ that never raises -/
def rInI (C : Addr) (sp : Sp) (E : XK) : R2 := fun y x H Q => ∃ a dx fs, x = .ref a ∧ H a = some (.ins C dx fs) ∧ sp [x, y] H (fun z H' => ∃ b, z = .bl b ∧ Q (.bl b) H') E
theorem op_inI {E : XK} (hs : PySem.W.findIn X.K (.ref C) "__contains__" = some (some (.ref g))) (hf : PySem.W.isFn X.K (.ref g) = true) (F : FnOk X.prog X.w X.K X.mg X.base CX k g fd ps sp) (hr : Room k X.A) (hb : Binds X.K fd ps []) (hx : Passes CX X E) :
    OpR X (compareOp .In) (rInI C sp E) := by
  intro pins s σ H y x u v Q I ry rx h
  obtain ⟨a, dx, fs, rfl, ha, q⟩ := h
  cases (show v = Value.ref a from rx)
  obtain ⟨mA, O, _⟩ := ins_get I.hok ha
  obtain ⟨od, J, _⟩ := O.look
  obtain ⟨m, hF⟩ := I.fr
  refine PySem.W.in_K hF I.ok.mod.kin J hs hf ?_
  refine wpAny_mono (run_fn (us := [.ref a, u]) (vs := [.ref a, y]) F hr hb .nil hx I (.cons rfl (.cons ry .nil)) (by rw [List.append_nil]; exact q)) (fun w s1 z => ?_) fun _ _ z => z
  obtain ⟨z1, H1, I1, rz, b, rfl, qz⟩ := z
  cases (show w = Value.bool b from rz)
  exact wpAny_truthy_bool ⟨.bl b, H1, I1, rfl, qz⟩
/-! x[y] by an own __getitem__ that may raise, in a try -/
def tIxI (C : Addr) (sp : Sp) (E : L2.St → XK) (ta tb : TE) : TE := fun σ H Q => ta σ H fun x H1 => tb σ H1 fun y H2 => ∃ a dx fs, x = .ref a ∧ H2 a = some (.ins C dx fs) ∧ sp [x, y] H2 Q (E σ)
theorem pe_ixI (hs : PySem.W.findIn X.K (.ref C) "__getitem__" = some (some (.ref g))) (hn : PySem.W.fnIn X.K g = true) (hi : PySem.W.isFn X.K (.ref g) = true) (F : FnR X.prog X.w X.K X.mg X.base CX k g sp) (hr : Room (k + 1) X.A) (hx : ∀ σ, PassesAt CX X σ (E σ)) (he : PE X e ta) (hf : PE X f tb)
    (hsl : ∀ o i, subscripted f true o i = runValue (.builtin "lifetime.subscript" ⟨[o, i], []⟩)) : PE X (.Subscript e f pos) (tIxI C sp E ta tb) := by
  refine ⟨fun pins s σ H Q I h => ?_⟩
  refine Subscript_ (binT he hf (R := fun x y H2 => ∃ a dx fs, x = .ref a ∧ H2 a = some (.ins C dx fs) ∧ sp [x, y] H2 Q (E σ)) I h fun v u s2 x y H2 I2 rx ry q => ?_)
  obtain ⟨a, dx, fs, rfl, ha, q⟩ := q
  cases (show v = Value.ref a from rx)
  obtain ⟨mA, O, _⟩ := ins_get I2.hok ha
  obtain ⟨od, J, _⟩ := O.look
  obtain ⟨m, hF⟩ := I2.fr
  have hr1 : Room k X.A.in1 := Room.in1 hr
  refine PySem.W.sub_K hF I2.ok.mod.kin J hs hn hi (wpAny_call (codeAny_mono (F X.A.in1 X.stack s2 H2 [.ref a, u] [.ref a, y] Q (E σ) hr1 I2.env0.in1 (.cons rfl (.cons ry .nil)) q) fun r s' z => ?_)) (hsl _ _)
  match r, z with
  | .error e, z => exact hx σ pins H2 s2 e s' I2 z
  | .ok (.ret u), z => exact I2.after z
  | .ok .next, z => exact z.elim
  | .ok .brk, z => exact z.elim
  | .ok .cont, z => exact z.elim
end
end Vk
set_option Elab.async false
set_option linter.all false
set_option maxRecDepth 100000
set_option maxHeartbeats 4000000
namespace NSet
open PySem PySem.Spec PyProof.Rows L2
/-! X28: sets of tuples of whole numbers and texts -/
/-- a cell of a tuple: a number or a text -/
abbrev Cell := Int ⊕ Str
def cell : Cell → NestedKey
  | .inl i => .num i
  | .inr x => .text x
def nk (k : List Cell) : NestedKey := .tup (k.map cell)
theorem cell_inj {a b : Cell} (h : cell a = cell b) : a = b := by
  cases a <;> cases b <;> simp only [cell, NestedKey.num.injEq, NestedKey.text.injEq, reduceCtorEq] at h <;> rw [h]
theorem nk_inj {a b : List Cell} (h : nk a = nk b) : a = b := by
  unfold nk at h
  exact List.map_inj_right (fun _ _ e => cell_inj e) |>.mp (NestedKey.tup.inj h)
theorem depth_cells : ∀ k : List Cell, NestedKey.depthAll (k.map cell) = 0
  | [] => rfl
  | .inl _ :: k => by
    show max 0 (NestedKey.depthAll (k.map cell)) = 0
    rw [depth_cells k]
    rfl
  | .inr _ :: k => by
    show max 0 (NestedKey.depthAll (k.map cell)) = 0
    rw [depth_cells k]
    rfl
theorem depth_nk (k : List Cell) : (nk k).depth ≤ 1 := by
  unfold nk
  simp only [NestedKey.depth, depth_cells]
  omega
/-- the tuple at a has the cells k -/
def At (h : Heap) (k : List Cell) (a : Addr) : Prop := NestedIs h (nk k) (.ref a)
theorem At.obj {h : Heap} {k : List Cell} {a : Addr} (x : At h k a) : ∃ (o : Obj) (vs : Array Value) (n : Nat), h.get? a = some o ∧ o.cls = .type "tuple" ∧ o.data = .seq vs n ∧ NestedAll h (k.map cell) vs.toList := by
  unfold At nk at x
  cases x with
  | tup h1 h2 h3 h4 => exact ⟨_, _, _, h1, h2, h3, h4⟩
theorem At.one {h : Heap} {k k' : List Cell} {a : Addr} (x : At h k a) (y : At h k' a) : k = k' := nk_inj (NestedIs.inj _ _ _ x y)
theorem At.on {h h' : Heap} {k : List Cell} {a : Addr} (x : At h k a) (hk : ∀ b o vs n, h.get? b = some o → o.data = .seq vs n → h'.get? b = some o) : At h' k a := NestedIs.at hk _ _ x
theorem At.wide {h h' : Heap} {k : List Cell} {a : Addr} (x : At h k a) (hk : ∀ b o, h.get? b = some o → h'.get? b = some o) : At h' k a := x.on fun b o _ _ e _ => hk b o e
theorem At.past {h h' : Heap} {k : List Cell} {a d : Addr} {o : Obj} {es : Array (Int × Value)} {ep : Nat} {t : SetTable} (x : At h k a) (ho : h.get? d = some o) (hd : o.data = .set es ep t) (hs : Heap.SameBut d h h') : At h' k a :=
  x.on fun b u vs n e c => (hs.2 b fun z => by
    rw [z, ho] at e
    rw [← Option.some.inj e, hd] at c
    cases c).trans e
/-- what is asked of the cells -/
theorem cells_told {h : Heap} : ∀ {k : List Cell} {vs : List Value}, NestedAll h (k.map cell) vs → ∀ v ∈ vs, (∀ n, ofAClassStatement n v = pure false) ∧ ∃ b, ∀ n, hashByValue n v = pure b
  | [], _, .nil, v, hv => by cases hv
  | c :: k, _, .cons x xs, v, hv => by
    rcases List.mem_cons.mp hv with e | hv
    · subst e
      cases c with
      | inl i =>
        change NestedIs h (.num i) v at x
        cases x with
        | bool _ => exact ⟨fun n => by cases n <;> rfl, true, fun n => by cases n <;> rfl⟩
        | int _ t => exact ⟨fun n => by cases n <;> rfl, true, fun n => by cases n <;> rfl⟩
      | inr y =>
        change NestedIs h (.text y) v at x
        cases x with
        | text _ t => exact ⟨fun n => by cases n <;> rfl, false, fun n => by cases n <;> rfl⟩
    · exact cells_told xs v hv
section
variable {P : Program} {w : World} {A : Around} {E : Value → Shared → Prop} {s : Shared}
theorem At.noClass {k : List Cell} {a : Addr} {Q : Bool → Shared → Prop} (x : At s.heap k a) (h : Q false s) : wpAny (model P w) A (ofAClassStatement 8 (.ref a)) Q E s := by
  obtain ⟨o, vs, n, ho, hc, hd, hv⟩ := x.obj
  have told := cells_told hv
  have hT : s.TypeIs (.ref a) "tuple" := ⟨o, ho, hc⟩
  unfold ofAClassStatement
  refine wpAny_bind (wpAny_typeOf hT ?_)
  have et : (("tuple" : String) == "tuple") = true := by decide
  simp only [et, if_true]
  refine wpAny_bind (wpAny_pure ?_)
  refine wp_if_neg (by decide) ?_
  try refine wpAny_bind (wpAny_pure ?_)
  refine wpAny_bind (wpAny_seqItems ho hd ?_)
  refine wpAny_bind ?_
  show wpAny _ _ (forIn vs _ _) _ _ s
  rw [← Array.forIn_toList]
  refine wpAny_forIn_list _ (fun rest r s' => r.1 = none ∧ s' = s ∧ ∀ v ∈ rest, v ∈ vs.toList) _ ?_ ?_ _ _ ⟨rfl, rfl, fun _ h => h⟩
  · rintro v rest r s' ⟨hr, rfl, hall⟩
    rw [(told v (hall v List.mem_cons_self)).1]
    refine wpAny_bind (wpAny_pure ?_)
    refine wp_if_neg (by decide) ?_
    exact wpAny_pure ⟨rfl, rfl, fun u hu => hall u (List.mem_cons_of_mem _ hu)⟩
  · rintro ⟨r1, r2⟩ s' ⟨hr, rfl, _⟩
    simp only at hr
    subst hr
    exact wpAny_pure h
/-- whether the hash is by value: either answer will do -/
theorem At.byVal {k : List Cell} {a : Addr} {Q : Bool → Shared → Prop} (x : At s.heap k a) (h : ∀ b, Q b s) : wpAny (model P w) A (hashByValue 8 (.ref a)) Q E s := by
  obtain ⟨o, vs, n, ho, hc, hd, hv⟩ := x.obj
  have told := cells_told hv
  have hT : s.TypeIs (.ref a) "tuple" := ⟨o, ho, hc⟩
  unfold hashByValue
  refine wpAny_bind (wpAny_specialOf hT F.slot_tuple_hash.lookup ?_)
  show wpAny _ _ (seqItems? (.ref a) >>= _) _ _ s
  refine wpAny_bind (wpAny_seqItems ho hd ?_)
  refine wpAny_bind ?_
  show wpAny _ _ (forIn vs _ _) _ _ s
  rw [← Array.forIn_toList]
  refine wpAny_forIn_list _ (fun rest r s' => r.1 = none ∧ s' = s ∧ ∀ v ∈ rest, v ∈ vs.toList) _ ?_ ?_ _ _ ⟨rfl, rfl, fun _ h => h⟩
  · rintro v rest r s' ⟨hr, rfl, hall⟩
    obtain ⟨b, hb⟩ := (told v (hall v List.mem_cons_self)).2
    rw [hb]
    refine wpAny_bind (wpAny_pure ?_)
    cases b with
    | true =>
      refine wp_if_neg (by decide) ?_
      exact wpAny_pure ⟨rfl, rfl, fun u hu => hall u (List.mem_cons_of_mem _ hu)⟩
    | false =>
      refine wp_if_pos (by decide) ?_
      exact wpAny_pure (wpAny_pure (h false))
  · rintro ⟨r1, r2⟩ s' ⟨hr, rfl, _⟩
    simp only at hr
    subst hr
    exact wpAny_pure (h true)
theorem At.depth8 {h : Heap} {k : List Cell} {a : Addr} (x : At h k a) : (nestedKind P w).is h (nk k) a := ⟨x, Nat.le_trans (depth_nk k) (by decide)⟩
abbrev hsh (w : World) (k : List Cell) : Int := (nk k).hash w
theorem At.hashed {k : List Cell} {a : Addr} {Q : Int → Shared → Prop} (hu : A.units + 8 < cLine) (x : At s.heap k a) (h : ∀ n, Q (hsh w k) { s with toks := s.toks + n }) : wpAny (model P w) A (PySem.pyHash (.ref a)) Q E s :=
  (nestedKind P w).pyHash hu x.depth8 (h _)
theorem At.equal {k k' : List Cell} {a b : Addr} {Q : Bool → Shared → Prop} (hu : A.units + 8 < cLine) (x : At s.heap k a) (y : At s.heap k' b) (h : Q (decide (k = k')) s) : wpAny (model P w) A (PySem.eqBool (.ref a) (.ref b)) Q E s := by
  refine (nestedKind P w).eqBool hu x.depth8 y.depth8 ?_
  have e : decide (nk k = nk k') = decide (k = k') := by
    by_cases z : k = k'
    · rw [z, decide_eq_true rfl, decide_eq_true rfl]
    · rw [decide_eq_false z, decide_eq_false fun q => z (nk_inj q)]
  rw [e]
  exact h
theorem At.still {k : List Cell} {a : Addr} {Q : Bool → Shared → Prop} (x : At s.heap k a) (h : Q true s) : wpAny (model P w) A (eqIsQuiet 8 (.ref a)) Q E s := (nestedKind P w).quiet x.depth8 h
/-- the search shows nothing -/
theorem unseen {k : List Cell} {a : Addr} {Q : Bool → Shared → Prop} (x : At s.heap k a) {ys : List Value} (hy : ∀ y ∈ ys, ∃ k' c, y = Value.ref c ∧ At s.heap k' c) (h : Q false s) : wpAny (model P w) A (searchCouldBeSeen (.ref a) ys) Q E s := by
  unfold searchCouldBeSeen
  refine wpAny_bind (wpAny_forIn_list _ (fun rest r s' => r.1 = none ∧ s' = s ∧ ∀ y ∈ rest, y ∈ ys) _ (fun v rest r s' hI => ?_) (fun r s' hI => ?_) _ _ ⟨rfl, rfl, fun _ h => h⟩)
  · obtain ⟨hr, rfl, hall⟩ := hI
    obtain ⟨k', c, rfl, hc⟩ := hy v (hall v List.mem_cons_self)
    have rest' : ∀ y ∈ rest, y ∈ ys := fun u hu => hall u (List.mem_cons_of_mem _ hu)
    dsimp only
    by_cases hv : (a == c || (carriedByValue (.ref a) && carriedByValue (.ref c))) = true
    · exact wp_if_pos hv (wpAny_pure ⟨rfl, rfl, rest'⟩)
    refine wp_if_neg hv (wpAny_bind (x.still ?_))
    refine wp_if_neg (by decide) (wpAny_bind (hc.still ?_))
    refine wp_if_neg (by decide) (wpAny_bind (x.noClass ?_))
    refine wp_if_neg (by decide) (wpAny_bind (hc.noClass ?_))
    exact wp_if_neg (by decide) (wpAny_pure ⟨rfl, rfl, rest'⟩)
  · obtain ⟨r1, r2⟩ := r
    obtain ⟨hr, rfl, _⟩ := hI
    simp only at hr
    subst hr
    exact wpAny_pure h
end
end NSet
set_option Elab.async false
set_option linter.all false
set_option maxRecDepth 100000
set_option maxHeartbeats 4000000
namespace NSet
open PySem PySem.Spec PyProof.Rows L2
/-! X29: the search of a set of such tuples -/
/-- where a search stands after c steps -/
abbrev St (t : SetTable) (h : Int) (c : Nat) : SetTable.Probe := nth t.mask (runAt t.mask (SetTable.bits h % (t.mask + 1)) (SetTable.bits h)) c
theorem nth_dummy (m : Nat) : ∀ (n : Nat) (p : SetTable.Probe), p.dummy = none → (nth m p n).dummy = none
  | 0, _, h => h
  | n + 1, p, h => nth_dummy m n _ (by
    unfold adv
    split <;> exact h)
/-- what a probe from the c-th step on tells, by the way's own count -/
theorem probe_from {t : SetTable} {hs : List Int} (T : TabOk t hs) (h : Int) (hat : Nat → Int) {K c : Nat} (hf : K < 10 * SetTable.turns t.mask) (hK : way t.mask h K ∉ t.place.toList) (hb : ∀ e, e < K → way t.mask h e ∈ t.place.toList) (hc : c ≤ K) :
    (∃ e i, c ≤ e ∧ e < K ∧ t.place.toList[i]? = some (way t.mask h e) ∧ hat i = h ∧ (∀ e' i', c ≤ e' → e' < e → t.place.toList[i']? = some (way t.mask h e') → hat i' ≠ h) ∧
      t.probe hat h (St t h c) = some (.candidate (way t.mask h e) i (St t h (e + 1)))) ∨
    ((∀ e' i', c ≤ e' → e' < K → t.place.toList[i']? = some (way t.mask h e') → hat i' ≠ h) ∧ t.probe hat h (St t h c) = some (.empty (way t.mask h K) none)) := by
  have go : ∀ q, nth t.mask (St t h c) q = St t h (c + q) := fun q => (nth_add t.mask c _ q).symm
  have goj : ∀ q, (nth t.mask (St t h c) q).j = way t.mask h (c + q) := fun q => congrArg SetTable.Probe.j (go q)
  have back : c + (K - c) = K := by omega
  rcases go_spec t T.ris T.dm hat h (10 * SetTable.turns t.mask) (K - c) (St t h c) (nth_dummy _ _ _ rfl) (by omega) (fun q hq => goj q ▸ hb _ (by omega)) (by rw [goj, back]; exact hK) with ⟨q, i, h1, h2, h3, h4, h5⟩ | ⟨h4, h5⟩
  · rw [goj] at h2
    refine .inl ⟨c + q, i, by omega, by omega, h2, h3, fun e' i' a1 a2 a3 => h4 (e' - c) i' (by omega) (by rw [goj, show c + (e' - c) = e' by omega]; exact a3), ?_⟩
    rw [goj, go, ← Nat.add_assoc] at h5
    exact h5
  · refine .inr ⟨fun e' i' a1 a2 a3 => h4 (e' - c) i' (by omega) (by rw [goj, show c + (e' - c) = e' by omega]; exact a3), ?_⟩
    rw [goj, back] at h5
    exact h5
/-- the set at a holds the tuples L -/
structure Tups (w : World) (h : Heap) (a : Addr) (L : List (Addr × List Cell)) (es : Array (Int × Value)) (ep : Nat) (t : SetTable) : Prop where
  obj : ∃ o, h.get? a = some o ∧ o.ExactSet ∧ o.data = .set es ep t
  row : es.toList = L.map fun p => (hsh w p.2, Value.ref p.1)
  tab : TabOk t (L.map fun p => hsh w p.2)
  dif : (L.map (·.2)).Nodup
  tup : ∀ p ∈ L, At h p.2 p.1
  led : w.params.followText "set-order" = true ∨ t.led = true
  gap : L.length * 5 < t.mask * 3
  few : L.length < 64
section
variable {P : Program} {w : World} {A : Around} {E : Value → Shared → Prop} {s : Shared} {a : Addr} {L : List (Addr × List Cell)} {es : Array (Int × Value)} {ep : Nat} {t : SetTable}
theorem Tups.count {h : Heap} (R : Tups w h a L es ep t) : es.size = L.length := by rw [← Array.length_toList, R.row, List.length_map]
theorem Tups.places {h : Heap} (R : Tups w h a L es ep t) : t.place.size = L.length := by rw [R.tab.sz, List.length_map]
theorem Tups.fit {h : Heap} (R : Tups w h a L es ep t) : t.fits es.size = true := by
  have h1 := R.places
  have h2 := R.count
  have h3 := R.gap
  unfold SetTable.fits SetTable.fill
  rw [R.tab.dm, Bool.and_eq_true, beq_iff_eq, decide_eq_true_eq]
  show t.place.size = es.size ∧ t.place.size + 0 ≤ t.mask
  omega
theorem Tups.cell {h : Heap} (R : Tups w h a L es ep t) {i : Nat} {p : Addr × List Cell} (hp : L[i]? = some p) : es[i]? = some (hsh w p.2, Value.ref p.1) := by
  rw [← Array.getElem?_toList, R.row, List.getElem?_map, hp]
  rfl
theorem Tups.kept {h : Heap} (R : Tups w h a L es ep t) : ¬ t.gaveWay = true := by
  unfold SetTable.gaveWay
  rw [mask_odd R.tab.mok]
  decide
theorem seek (R : Tups w s.heap a L es ep t) {x : Addr} {k : List Cell} (hx : At s.heap k x) (hu : A.units + 8 < cLine) {K : Nat} (hf : K < 10 * SetTable.turns t.mask) (hK : way t.mask (hsh w k) K ∉ t.place.toList) (hb : ∀ c, c < K → way t.mask (hsh w k) c ∈ t.place.toList)
    {Q : SetFound → Shared → Prop} (yes : k ∈ L.map (·.2) → Q (.there none) s) (no : k ∉ L.map (·.2) → Q (.free (way t.mask (hsh w k) K) false) s) :
    ∀ (f c : Nat) (stand : Option SetTable.Probe), stand.getD (t.probeStart (hsh w k)) = St t (hsh w k) c → c ≤ K → K - c < f →
      (∀ (i : Nat) p, L[i]? = some p → p.2 = k → ∃ e, c ≤ e ∧ e < K ∧ t.place.toList[i]? = some (way t.mask (hsh w k) e)) → wpAny (model P w) A (setSearchFrom a (.ref x) (hsh w k) true f stand) Q E s := by
  intro f
  induction f with
  | zero => intro c stand _ _ hlt; exact absurd hlt (Nat.not_lt_zero _)
  | succ f ih =>
    intro c stand hst hc hlt hre
    obtain ⟨o, ho, hex, hd⟩ := R.obj
    have hat : ∀ (i : Nat) p, L[i]? = some p → (fun i => (es[i]?.map (·.1)).getD 0) i = hsh w p.2 := fun i p hp => by
      show (es[i]?.map (·.1)).getD 0 = _
      rw [R.cell hp]
      rfl
    rw [setSearchFrom_succ]
    refine wpAny_bind (wpAny_setState_of ho hd R.fit ?_)
    dsimp only
    refine wp_if_neg R.kept ?_
    try refine wpAny_bind (wpAny_pure ?_)
    rw [hst]
    rcases probe_from R.tab (hsh w k) (fun i => (es[i]?.map (·.1)).getD 0) hf hK hb hc with ⟨e, i, h1, h2, h3, h4, h5, h6⟩ | ⟨h5, h6⟩
    · rw [h6]
      dsimp only
      have hi : i < L.length := by
        have := (List.getElem?_eq_some_iff.mp h3).1
        rw [Array.length_toList, R.places] at this
        exact this
      obtain ⟨p, hp⟩ : ∃ p, L[i]? = some p := ⟨_, List.getElem?_eq_getElem hi⟩
      have hm := List.mem_of_getElem? hp
      have live : t.slot (way t.mask (hsh w k) e) = .live i := slot_live R.tab.ris h3
      have on : wpAny (model P w) A (searchRest a (.ref x) (hsh w k) true f es t (way t.mask (hsh w k) e) i (St t (hsh w k) (e + 1))) Q E s := by
        unfold searchRest
        rw [R.cell hp]
        dsimp only
        refine wpAny_bind (wpAny_holding ((R.tup p hm).equal hu hx ?_))
        refine wpAny_bind (wpAny_setState_of ho hd R.fit ?_)
        dsimp only
        by_cases same : p.2 = k
        · exact wp_if_pos (by simp [same]) (wpAny_pure (yes (List.mem_map.mpr ⟨p, hm, same⟩)))
        · refine wp_if_neg (by simp [same]) ?_
          try refine wpAny_bind (wpAny_pure ?_)
          rw [sameMem]
          dsimp only
          simp only [if_true, live, R.cell hp]
          refine wpAny_bind (wpAny_isSame_ref_self (wpAny_bind (wpAny_pure ?_)))
          simp only [if_true]
          refine wp_if_neg (by simp [same]) (ih (e + 1) _ rfl (by omega) (by omega) fun i0 p0 g0 gk => ?_)
          obtain ⟨e0, a1, a2, a3⟩ := hre i0 p0 g0 gk
          refine ⟨e0, Nat.lt_of_le_of_ne (Nat.le_of_not_lt fun z => h5 e0 i0 a1 z a3 ((hat i0 p0 g0).trans (congrArg (hsh w) gk))) (fun z => ?_), a2, a3⟩
          rw [← z] at a3
          have l2 := slot_live R.tab.ris a3
          rw [live] at l2
          injection l2 with l2
          rw [← l2, hp] at g0
          exact same ((congrArg Prod.snd (Option.some.inj g0)).trans gk)
      by_cases hl : t.led = true
      · refine wp_if_neg (by simp [hl]) ?_
        try refine wpAny_bind (wpAny_pure ?_)
        exact on
      · refine wp_if_pos (by simp [hl]) (wpAny_bind (unseen hx (fun y hy => ?_) ?_))
        · obtain ⟨u, hu1, rfl⟩ := List.mem_map.mp hy
          have hu2 : u ∈ es.toList := by
            have : u ∈ es ∧ u.1 = hsh w k := by simpa using hu1
            simpa using this.1
          rw [R.row] at hu2
          obtain ⟨q, hq, rfl⟩ := List.mem_map.mp hu2
          exact ⟨q.2, q.1, rfl, R.tup q hq⟩
        · refine wp_if_neg (by decide) ?_
          try refine wpAny_bind (wpAny_pure ?_)
          exact on
    · rw [h6]
      dsimp only
      refine wpAny_pure (no fun hm => ?_)
      obtain ⟨p0, g0, gk⟩ := List.mem_map.mp hm
      obtain ⟨i0, hi0, ei⟩ := List.getElem_of_mem g0
      have g1 : L[i0]? = some p0 := by rw [List.getElem?_eq_getElem hi0, ei]
      obtain ⟨e0, a1, a2, a3⟩ := hre i0 p0 g1 gk
      exact h5 e0 i0 a1 a2 a3 ((hat i0 p0 g1).trans (congrArg (hsh w) gk))
end
end NSet
set_option Elab.async false
set_option linter.all false
set_option maxRecDepth 100000
set_option maxHeartbeats 4000000
namespace NSet
open PySem PySem.Spec PyProof.Rows L2
/-! X30: laying anew, adding -/
theorem all_of {α : Type} : ∀ L : List α, (List.range L.length).filterMap (fun i => L[i]?) = L
  | [] => rfl
  | x :: L => by
    rw [List.length_cons, List.range_succ_eq_map, List.filterMap_cons]
    show x :: _ = _
    rw [List.filterMap_map]
    exact congrArg (x :: ·) (all_of L)
theorem drawn_map {α β : Type} (L : List α) (f : α → β) (d : β) : ∀ l : List Nat, (∀ i ∈ l, i < L.length) → (l.filterMap fun i => L[i]?).map f = l.map fun i => ((L.map f)[i]?).getD d
  | [], _ => rfl
  | i :: l, h => by
    have hi := h i List.mem_cons_self
    have e : L[i]? = some L[i] := List.getElem?_eq_getElem hi
    rw [List.filterMap_cons, e]
    show f L[i] :: _ = _
    rw [List.map_cons, List.getElem?_map, e, drawn_map L f d l fun j hj => h j (List.mem_cons_of_mem _ hj)]
    rfl
theorem ordered {w : World} {L : List (Addr × List Cell)} {es : Array (Int × Value)} {order : Array Nat} (row : es.toList = L.map fun p => (hsh w p.2, Value.ref p.1)) (hp : order.toList.Perm (List.range L.length)) :
    ∃ L2 : List (Addr × List Cell), (order.filterMap (es[·]?)).toList = L2.map (fun p => (hsh w p.2, Value.ref p.1)) ∧ L2.Perm L ∧ L2.map (fun p => hsh w p.2) = order.toList.map fun i => (es.map (·.1)).getD i 0 := by
  have hb : ∀ i ∈ order.toList, i < L.length := fun i hi => List.mem_range.mp (hp.mem_iff.mp hi)
  refine ⟨order.toList.filterMap fun i => L[i]?, ?_, ?_, ?_⟩
  · rw [Array.toList_filterMap, List.map_filterMap]
    refine congrArg (fun g => List.filterMap g order.toList) (funext fun i => ?_)
    rw [← Array.getElem?_toList, row, List.getElem?_map]
  · have := hp.filterMap fun i => L[i]?
    rwa [all_of] at this
  · rw [drawn_map L (fun p => hsh w p.2) 0 _ hb]
    refine List.map_congr_left fun i hi => ?_
    have hl := hb i hi
    have e : L[i]? = some L[i] := List.getElem?_eq_getElem hl
    have e2 : (es.map (·.1))[i]? = some (hsh w L[i].2) := by
      rw [← Array.getElem?_toList, Array.toList_map, row, List.map_map, List.getElem?_map, e]
      rfl
    rw [List.getElem?_map, e, Array.getD_eq_getD_getElem?, e2]
    rfl
section
variable {P : Program} {w : World} {A : Around} {E : Value → Shared → Prop} {s : Shared} {a : Addr} {L : List (Addr × List Cell)} {es : Array (Int × Value)} {ep : Nat} {t : SetTable}
theorem relay {o : Obj} (ho : s.heap.get? a = some o) (hex : o.ExactSet) (hd : o.data = .set es ep t) (row : es.toList = L.map fun p => (hsh w p.2, Value.ref p.1)) (pl : t.place.size = es.size) (dm : t.dummies = #[]) (le : es.size ≤ t.mask)
    (dif : (L.map (·.2)).Nodup) (tup : ∀ p ∈ L, At s.heap p.2 p.1) (led : w.params.followText "set-order" = true ∨ t.led = true) (few : L.length < 64) {wanted M : Nat} (hw : SetTable.sizeAbove wanted - 1 = M) (hM : MaskOk M) (hw2 : SetTable.sizeAbove wanted ≤ 128)
    (hn : L.length * 5 < M * 3) {Q : Unit → Shared → Prop} (hQ : ∀ h' L' es' ep' t', Heap.SameBut a s.heap h' → Tups w h' a L' es' ep' t' → L'.Perm L → Q () { s with heap := h' }) : wpAny (model P w) A (setRelay a wanted) Q E s := by
  have cnt : es.size = L.length := by rw [← Array.length_toList, row, List.length_map]
  have fit : t.fits es.size = true := by
    unfold SetTable.fits SetTable.fill
    rw [dm, Bool.and_eq_true, beq_iff_eq, decide_eq_true_eq]
    show t.place.size = es.size ∧ t.place.size + 0 ≤ t.mask
    omega
  obtain ⟨t', order, re, hp, T, em, el, _, _⟩ := relaid_ok t (hs := es.map (·.1)) (wanted := wanted) hw hM (by rw [Array.size_map]; omega)
  rw [Array.size_map, cnt] at hp
  obtain ⟨L2, r1, r2, r3⟩ := ordered row hp
  rw [← r3] at T
  have cnt2 : (order.filterMap (es[·]?)).size = L.length := by rw [← Array.length_toList, r1, List.length_map, r2.length_eq]
  have sb : Heap.SameBut a s.heap (s.heap.update a (Obj.putSet (order.filterMap (es[·]?)) t')) := Heap.SameBut.update ..
  rw [setRelay_eq]
  refine wpAny_bind (wpAny_setState_of ho hd fit ?_)
  dsimp only
  refine wp_if_neg (by rw [sizeLine_eq]; omega) ?_
  try refine wpAny_bind (wpAny_pure ?_)
  rw [re]
  dsimp only
  refine wpAny_bind (wp_if_neg (by rw [cnt2, cnt]; simp) ?_)
  try refine wpAny_bind (wpAny_pure ?_)
  refine wpAny_pure ?_
  dsimp only
  refine wpAny_storeSet_of ho hd (hQ _ L2 (order.filterMap (es[·]?)) (ep + 1) t' sb ?_ r2) (by rw [cnt2, sizeLine_eq]; omega)
  exact { obj := ⟨_, store_at ho hd, ⟨hex.1, hex.2.1, hex.2.2⟩, rfl⟩, row := r1, tab := T, dif := (r2.map (·.2)).nodup_iff.mpr dif, tup := fun p hm => (tup p (r2.mem_iff.mp hm)).past ho hd sb, led := by rw [el]; exact led, gap := by rw [r2.length_eq, em]; exact hn, few := by rw [r2.length_eq]; exact few }
theorem asked {t : SetTable} {k : List Cell} {x : Addr} (hx : At s.heap k x) {F : Bool → Sem Bool} {Q : Bool → Shared → Prop} (h : ∀ b, wpAny (model P w) A (F b) Q E s) : wpAny (model P w) A (if t.plain = true then hashByValue 8 (.ref x) >>= F else pure true >>= F) Q E s := by
  by_cases hp : t.plain = true
  · exact wp_if_pos hp (wpAny_bind (hx.byVal h))
  · exact wp_if_neg hp (wpAny_bind (wpAny_pure (h true)))
theorem put_in (R : Tups w s.heap a L es ep t) {x : Addr} {k : List Cell} (hx : At s.heap k x) (hu : A.units + 8 < cLine) (more : L.length + 1 < 64) {Q : Bool → Shared → Prop}
    (hQ : ∀ b h' L' es' ep' t', Heap.SameBut a s.heap h' → Tups w h' a L' es' ep' t' → (k ∈ L.map (·.2) → L' = L) → (k ∉ L.map (·.2) → L'.Perm ((x, k) :: L)) → Q b { s with heap := h' }) :
    wpAny (model P w) A (setAddHashed a (.ref x) (hsh w k)) Q E s := by
  obtain ⟨o, ho, hex, hd⟩ := R.obj
  have cnt := R.count
  have gap := R.gap
  obtain ⟨K, hf, hK, hb⟩ := R.tab.first (by rw [List.length_map]; omega) (hsh w k)
  have big : K < 100000 := by
    have : 10 * SetTable.turns t.mask ≤ 1420 := by
      unfold SetTable.turns
      rcases R.tab.mok with e | e | e <;> omega
    omega
  have pass : ∀ (i : Nat) p, L[i]? = some p → p.2 = k → ∃ e, 0 ≤ e ∧ e < K ∧ t.place.toList[i]? = some (way t.mask (hsh w k) e) := fun i p hp hk => by
    have h1 : (L.map fun p => hsh w p.2)[i]? = some (hsh w k) := by rw [List.getElem?_map, hp, ← hk]; rfl
    have h2 : i < t.place.toList.length := by
      rw [Array.length_toList, R.places]
      exact (List.getElem?_eq_some_iff.mp hp).1
    obtain ⟨e, he, ee⟩ := R.tab.before hK h1 (List.getElem?_eq_getElem h2)
    exact ⟨e, Nat.zero_le _, he, by rw [List.getElem?_eq_getElem h2, ee]⟩
  unfold setAddHashed
  refine wpAny_holding ?_
  rw [show (100000 : Nat) = 99999 + 1 from rfl, setAddHashedIn_succ]
  refine wpAny_bind (wpAny_setState_of ho hd R.fit ?_)
  dsimp only
  refine wp_if_neg (by simp [byScan, Value.scannable]) ?_
  try refine wpAny_bind (wpAny_pure ?_)
  refine wpAny_bind ?_
  unfold setSearch
  refine seek R hx hu hf hK hb (fun hm => ?_) (fun hm => ?_) 100000 0 none rfl (Nat.zero_le _) (by omega) pass
  · dsimp only
    exact wpAny_pure (hQ false s.heap L es ep t (Heap.SameBut.refl a s.heap) R (fun _ => rfl) fun z => absurd hm z)
  dsimp only
  refine wpAny_bind (wpAny_setState_of ho hd R.fit ?_)
  dsimp only
  obtain ⟨q1, q2, q3, q4, q5, _, _, _, q9⟩ := R.tab.put hK hb
  generalize hpt : t.put (way t.mask (hsh w k) K) = pt at q1 q3 q4 q5 q9 ⊢
  obtain ⟨t1, p⟩ := pt
  dsimp only at q1 q3 q4 q5 q9 ⊢
  refine asked (t := t1) hx fun bv => ?_
  have two : (if bv = true then t1 else { t1 with plain := false }) = t1 ∨ (if bv = true then t1 else { t1 with plain := false }) = { t1 with plain := false } := by
    cases bv
    · exact .inr rfl
    · exact .inl rfl
  generalize (if bv = true then t1 else { t1 with plain := false }) = t2 at two ⊢
  have T2 : TabOk t2 ((L.map fun p => hsh w p.2).take (SetTable.below t.place (way t.mask (hsh w k) K)) ++ hsh w k :: (L.map fun p => hsh w p.2).drop (SetTable.below t.place (way t.mask (hsh w k) K))) := by
    rcases two with e | e
    · rw [e]; exact q3
    · rw [e]; exact ⟨q3.ris, q3.dm, q3.sz, q3.mok, q3.bd, q3.reach⟩
  have m2 : t2.mask = t.mask := by rcases two with e | e <;> rw [e] <;> exact q4
  have l2 : t2.led = t.led := by rcases two with e | e <;> rw [e] <;> exact q5
  have f2 : t2.fill = (L.map fun p => hsh w p.2).length + 1 := by rcases two with e | e <;> rw [e] <;> exact q9
  clear two q3 q4 q5 q9 hpt
  subst q1
  generalize SetTable.below t.place (way t.mask (hsh w k) K) = p at q2 T2 ⊢
  rw [List.length_map] at q2 f2
  have row1 : (SetTable.insertAt es p (hsh w k, Value.ref x)).toList = (L.take p ++ (x, k) :: L.drop p).map fun p => (hsh w p.2, Value.ref p.1) := by
    rw [SetTable.toList_insertAt, R.row, List.map_append, List.map_cons, List.map_take, List.map_drop]
  have eT : (L.take p ++ (x, k) :: L.drop p).map (fun p => hsh w p.2) = (L.map fun p => hsh w p.2).take p ++ hsh w k :: (L.map fun p => hsh w p.2).drop p := by
    rw [List.map_append, List.map_cons, List.map_take, List.map_drop]
  rw [← eT] at T2
  have pm : (L.take p ++ (x, k) :: L.drop p).Perm ((x, k) :: L) := put_perm L p (x, k)
  have cnt1 : (SetTable.insertAt es p (hsh w k, Value.ref x)).size = L.length + 1 := by rw [← Array.length_toList, row1, List.length_map, pm.length_eq, List.length_cons]
  generalize SetTable.insertAt es p (hsh w k, Value.ref x) = es1 at row1 cnt1 ⊢
  generalize L.take p ++ (x, k) :: L.drop p = L1 at pm T2 row1
  have len1 : L1.length = L.length + 1 := pm.length_eq
  have sb : Heap.SameBut a s.heap (s.heap.update a (Obj.putSet es1 t2)) := Heap.SameBut.update ..
  have ho1 := store_at (es' := es1) (t' := t2) ho hd
  refine wpAny_bind (wpAny_storeSet_of ho hd ?_ (by rw [cnt1, sizeLine_eq]; omega))
  generalize s.heap.update a (Obj.putSet es1 t2) = h1 at sb ho1 ⊢
  have dif1 : (L1.map (·.2)).Nodup := (pm.map (·.2)).nodup_iff.mpr (List.nodup_cons.mpr ⟨hm, R.dif⟩)
  have tup1 : ∀ q ∈ L1, At h1 q.2 q.1 := fun q hq => by
    rcases List.mem_cons.mp (pm.mem_iff.mp hq) with e | hq
    · rw [e]; exact hx.past ho hd sb
    · exact (R.tup q hq).past ho hd sb
  have led1 : w.params.followText "set-order" = true ∨ t2.led = true := by rw [l2]; exact R.led
  have pl1 : t2.place.size = es1.size := by rw [T2.sz, List.length_map, len1, cnt1]
  by_cases full : t2.tooFull = true
  · refine wp_if_pos (by simp [full]) (wpAny_bind ?_)
    have lim : (L.length + 1) * 5 ≥ t.mask * 3 := by
      unfold SetTable.tooFull at full
      rw [decide_eq_true_eq, f2, m2] at full
      exact full
    have go : ∀ M, SetTable.sizeAbove (SetTable.grown (L.length + 1)) - 1 = M → MaskOk M → SetTable.sizeAbove (SetTable.grown (L.length + 1)) ≤ 128 → (L.length + 1) * 5 < M * 3 →
        wpAny (model P w) A (setRelay a (SetTable.grown (es.size + 1))) (fun _ s' => wpAny (model P w) A (pure true) Q E s') E { s with heap := h1 } := fun M g1 g2 g3 g4 => by
      rw [cnt]
      exact relay (s := { s with heap := h1 }) ho1 ⟨hex.1, hex.2.1, hex.2.2⟩ rfl row1 pl1 T2.dm (by rw [cnt1, m2]; omega) dif1 tup1 led1 (by rw [len1]; exact more) g1 g2 g3 (by rw [len1]; exact g4)
        fun h2 L2 es2 ep2 t3 sb2 R2 pm2 => wpAny_pure (hQ true h2 L2 es2 ep2 t3 (sb.trans sb2) R2 (fun z => absurd z hm) fun _ => pm2.trans pm)
    rcases R.tab.mok with e | e | e
    · have l4 : L.length = 4 := by omega
      exact go 31 (by rw [l4, size_20]) (.inr (.inl rfl)) (by rw [l4, size_20]; decide) (by omega)
    · have l18 : L.length = 18 := by omega
      exact go 127 (by rw [l18, size_76]) (.inr (.inr rfl)) (by rw [l18, size_76]; decide) (by omega)
    · omega
  · refine wp_if_neg (by simp [full]) (wpAny_pure (hQ true h1 L1 es1 (ep + 1) t2 sb ?_ (fun z => absurd z hm) fun _ => pm))
    have lim : ¬ (L.length + 1) * 5 ≥ t.mask * 3 := fun z => full (by
      unfold SetTable.tooFull
      rw [decide_eq_true_eq, f2, m2]
      exact z)
    exact { obj := ⟨_, ho1, ⟨hex.1, hex.2.1, hex.2.2⟩, rfl⟩, row := row1, tab := T2, dif := dif1, tup := tup1, led := led1, gap := by rw [len1, m2]; omega, few := by rw [len1]; exact more }
end
end NSet
set_option Elab.async false
set_option linter.all false
set_option maxRecDepth 100000
set_option maxHeartbeats 4000000
namespace NSet
open PySem PySem.Spec PyProof.Rows L2
/-! X31: a set filled from a walk -/
/-- L is what a set has of the first i of ks -/
structure Part (ks : List (Addr × List Cell)) (i : Nat) (L : List (Addr × List Cell)) : Prop where
  inn : ∀ p ∈ L, p ∈ ks.take i
  cov : ∀ p ∈ ks.take i, p.2 ∈ L.map (·.2)
  len : L.length ≤ i
theorem Part.next {ks L L' : List (Addr × List Cell)} {i : Nat} {x : Addr × List Cell} (g : Part ks i L) (hx : ks[i]? = some x) (c1 : x.2 ∈ L.map (·.2) → L' = L) (c2 : x.2 ∉ L.map (·.2) → L'.Perm (x :: L)) : Part ks (i + 1) L' := by
  have e : ks.take (i + 1) = ks.take i ++ [x] := take_next hx
  by_cases c : x.2 ∈ L.map (·.2)
  · rw [c1 c]
    refine ⟨fun p hp => by rw [e]; exact List.mem_append_left _ (g.inn p hp), fun p hp => ?_, Nat.le_succ_of_le g.len⟩
    rw [e] at hp
    rcases List.mem_append.mp hp with z | z
    · exact g.cov p z
    · rw [List.mem_singleton.mp z]; exact c
  · have pm := c2 c
    refine ⟨fun p hp => ?_, fun p hp => ?_, by rw [pm.length_eq, List.length_cons]; exact Nat.succ_le_succ g.len⟩
    · rw [e]
      rcases List.mem_cons.mp (pm.mem_iff.mp hp) with z | z
      · rw [z]; exact List.mem_append_right _ List.mem_cons_self
      · exact List.mem_append_left _ (g.inn p z)
    · rw [(pm.map (·.2)).mem_iff, List.map_cons]
      rw [e] at hp
      rcases List.mem_append.mp hp with z | z
      · exact List.mem_cons_of_mem _ (g.cov p z)
      · rw [List.mem_singleton.mp z]; exact List.mem_cons_self
section
variable {P : Program} {w : World} {A : Around} {E : Value → Shared → Prop} {s : Shared}
theorem Tups.later {h h' : Heap} {a : Addr} {L : List (Addr × List Cell)} {es : Array (Int × Value)} {ep : Nat} {t : SetTable} (R : Tups w h a L es ep t) (ha : ∀ o, h.get? a = some o → h'.get? a = some o) (ht : ∀ p ∈ L, At h' p.2 p.1) : Tups w h' a L es ep t := by
  obtain ⟨o, ho, r⟩ := R.obj
  exact { R with obj := ⟨o, ha o ho, r⟩, tup := ht }
theorem Tups.new {h : Heap} {a : Addr} (ho : h.get? a = some { cls := .type "set", dict := none, data := .set #[] 0 (.fresh 0 0 (!w.params.followText "set-order")) }) : Tups w h a [] #[] 0 (.fresh 0 0 (!w.params.followText "set-order")) where
  obj := ⟨_, ho, ⟨rfl, rfl, rfl⟩, rfl⟩
  row := rfl
  tab := ⟨List.Pairwise.nil, rfl, rfl, .inl rfl, (fun x hx => by cases hx), fun i h j hi => by simp at hi⟩
  dif := List.nodup_nil
  tup := fun p hp => nomatch hp
  led := by
    show _ ∨ (!w.params.followText "set-order") = true
    cases w.params.followText "set-order"
    · exact .inr rfl
    · exact .inl rfl
  gap := by show 0 * 5 < 7 * 3; decide
  few := by show 0 < 64; decide
theorem fill {I : Addr} {fp wr : List Addr} {G : Array GenState → Array GenState → Prop} {n : Nat} {Pv : Nat → Value → Prop} {St : Nat → Shared → Prop} {R : Result → Shared → Prop} (W : WalksS P w A.in1 I fp wr G n Pv St) (S : Addr) (nS : S ∉ fp)
    (ks : List (Addr × List Cell)) (hn : n = ks.length) (bd : ∀ L : List (Addr × List Cell), (L.map (·.2)).Nodup → (∀ p ∈ L, p ∈ ks) → L.length < 63) (hval : ∀ i v, Pv i v → ∃ p, ks[i]? = some p ∧ v = .ref p.1) (h0 : Heap) (hk : ∀ p ∈ ks, At h0 p.2 p.1) (hS0 : h0.get? S = none) (hw0 : ∀ b ∈ wr, h0.get? b = none)
    (hu : A.in1.units + 8 < cLine) : ∀ (j i : Nat) (s : Shared), n - i = j → i ≤ n → St i s → (∀ b o, h0.get? b = some o → s.heap.get? b = some o) → (∃ L es ep t, Tups w s.heap S L es ep t ∧ Part ks i L) →
      (∀ s' L es ep t, Moved (S :: wr) G s s' → Tups w s'.heap S L es ep t → Part ks n L → (∀ b o, h0.get? b = some o → s'.heap.get? b = some o) → R (.ok (.ret .none)) s') → codeAny (model P w) A (.builtin "set.update.loop" ⟨[.ref S, .ref I], []⟩) R s := by
  have nw : S ∉ wr := fun z => nS (W.sub _ z)
  have wide : ∀ b ∈ wr, b ∈ S :: wr := fun b hb => List.mem_cons_of_mem _ hb
  have old : ∀ {s s' : Shared}, Moved wr G s s' → (∀ b o, h0.get? b = some o → s.heap.get? b = some o) → ∀ b o, h0.get? b = some o → s'.heap.get? b = some o := fun m k b o e => m.heap b o (fun z => by rw [hw0 b z] at e; cases e) (k b o e)
  have carry : ∀ {s s' : Shared} {i : Nat} {L es ep t}, Moved wr G s s' → (∀ b o, h0.get? b = some o → s'.heap.get? b = some o) → Part ks i L → Tups w s.heap S L es ep t → Tups w s'.heap S L es ep t := fun m k g R => R.later (fun o e => m.heap S o nw e) fun p hp => (hk p (List.mem_of_mem_take (g.inn p hp))).wide k
  intro j
  induction j with
  | zero =>
    intro i s hj hi hst hkp ⟨L, es, ep, t, hS, g⟩ hR
    obtain rfl : i = n := by omega
    refine codeAny_builtin F.entry_set_update_loop ?_
    rw [Around.under_plainId F.plain_set_update_loop _]
    show wpAny _ A.in1 (pyNext (.ref I) >>= _) _ _ s
    refine wpAny_bind (W.done s _ _ hst fun s' m => ?_)
    have k' := old m hkp
    show wpAny _ A.in1 (ret Value.none) _ _ s'
    exact wpAny_pure (hR s' L es ep t (m.mono wide) (carry m k' g hS) g k')
  | succ j ih =>
    intro i s hj hi hst hkp ⟨L, es, ep, t, hS, g⟩ hR
    have lt : i < n := by omega
    refine codeAny_builtin F.entry_set_update_loop ?_
    rw [Around.under_plainId F.plain_set_update_loop _]
    show wpAny _ A.in1 (pyNext (.ref I) >>= _) _ _ s
    refine wpAny_bind (W.item i s _ _ lt hst fun v s' hP hst' m => ?_)
    obtain ⟨p, hp, rfl⟩ := hval i v hP
    have k' := old m hkp
    have hx : At s'.heap p.2 p.1 := (hk p (List.mem_of_getElem? hp)).wide k'
    have hS' := carry m k' g hS
    show wpAny _ A.in1 (holding [Value.ref p.1] (setAdd S (.ref p.1)) >>= _) _ _ s'
    refine wpAny_bind (wpAny_holding ?_)
    unfold setAdd
    refine wpAny_holding (wpAny_bind (hx.hashed hu fun dn => ?_))
    refine put_in (s := { s' with toks := s'.toks + dn }) hS' hx hu (Nat.succ_lt_succ (bd L hS'.dif fun p hp => List.mem_of_mem_take (g.inn p hp))) fun b h2 L2 es2 ep2 t2 sb R2 c1 c2 => ?_
    have k2 : ∀ b o, h0.get? b = some o → h2.get? b = some o := fun b o e => (sb.2 b fun z => by rw [z, hS0] at e; cases e).trans (k' b o e)
    refine wpAny_pure ⟨plainId_quiet F.plain_set_update_loop _, ih (i + 1) _ (by omega) lt (W.frame _ s' _ _ hst' (Nat.le_add_right _ _) fun b hb o e => ?_) k2 ⟨L2, es2, ep2, t2, R2, g.next hp c1 c2⟩ fun s3 L3 es3 ep3 t3 m3 R3 g3 k3 => ?_⟩
    · rw [sb.2 b fun z : b = S => nS (z ▸ hb)]
      exact e
    · refine hR s3 L3 es3 ep3 t3 (Moved.trans W.gtrans ((m.mono wide).then_heap (Nat.le_add_right _ _) fun b o hb e => ?_) m3) R3 g3 k3
      rw [sb.2 b fun z : b = S => hb (z ▸ List.mem_cons_self)]
      exact e
end
end NSet
set_option Elab.async false
set_option linter.all false
set_option maxRecDepth 100000
set_option maxHeartbeats 4000000
namespace NSet
open PySem PySem.Spec PyProof.Rows L2
/-! X32: set(list of such tuples) -/
section
variable {P : Program} {w : World} {A : Around} {E : Value → Shared → Prop} {s : Shared}
/-- a set just made -/
abbrev blank (w : World) : Obj := { cls := .type "set", dict := none, data := .set #[] 0 (.fresh 0 0 (!w.params.followText "set-order")) }
theorem beyond {h : Heap} {b : Addr} (hb : h.objs.size ≤ b) : h.get? b = none := by
  cases e : h.get? b with
  | none => rfl
  | some o => exact absurd (Heap.lt_size e) (Nat.not_lt.mpr hb)
theorem set_of {l : Addr} {items : Array Value} (ks : List (Addr × List Cell)) {Q : Value → Shared → Prop} (hh : A.handled = none) (hl : s.heap.IsList l items) (hit : items.toList = ks.map fun p => Value.ref p.1) (hk : ∀ p ∈ ks, At s.heap p.2 p.1)
    (bd : ∀ L : List (Addr × List Cell), (L.map (·.2)).Nodup → (∀ p ∈ L, p ∈ ks) → L.length < 63) (hu : A.units + 3 + 8 < cLine)
    (out : ∀ (h' : Heap) (tk : Nat) L es ep t, Tups w h' s.heap.objs.size L es ep t → Part ks ks.length L → (∀ b o, s.heap.get? b = some o → h'.get? b = some o) → Q (.ref s.heap.objs.size) { s with heap := h', toks := tk }) :
    wpAny (model P w) A (call (.type "set") [.ref l]) Q E s := by
  have cnt : items.size = ks.length := by rw [← Array.length_toList, hit, List.length_map]
  obtain ⟨c, tl, hmro⟩ := F.called_set.mro
  have hmade := F.called_set.made
  have hsub := F.called_set.sub
  refine wpAny_call (codeAny_of_tree ?_)
  show wpAny _ _ (callAny (.type "set") _) _ _ _
  refine wpAny_pure ⟨Code.quiet_builtin _ (by decide +kernel), codeAny_builtin F.entry_type_call ?_⟩
  rw [Around.under_plain (weight_type_call_type "set" [.ref l] []) rfl]
  have h1 := F.called_set.notType
  have h2 := F.called_set.canCreate
  have hct := F.typeCall_set_1 (.ref l)
  repeat (any_goals (first | assumption | wp_step))
  refine codeAny_mono (code_set_led1 (.ref l) (E := E) (Q₁ := fun ob s₁ => ob = .ref s.heap.objs.size ∧ s₁ = { s with heap := s.heap.push (blank w) }) ⟨rfl, rfl⟩) fun r s₁ hr => ?_
  match r, hr with
  | .error e, hr => exact hr
  | .ok (.ret ob), hr =>
    obtain ⟨rfl, rfl⟩ := hr
    have hS : (s.heap.push (blank w)).get? s.heap.objs.size = some (blank w) := Heap.get?_push_size _ rfl
    have hT : Shared.TypeIs { s with heap := s.heap.push (blank w) } (.ref s.heap.objs.size) "set" := ⟨_, hS, rfl⟩
    have hli := F.called_set.init.lookup
    have hbi := F.called_set.init.bind (.ref s.heap.objs.size)
    repeat (any_goals (first | assumption | wp_step))
    refine codeAny_mono (codeAny_call_builtin (R := wants (fun r s₂ => r = .none ∧ ∃ h' tk L es ep t, s₂ = { s with heap := h', toks := tk } ∧ Tups w h' s.heap.objs.size L es ep t ∧ Part ks ks.length L ∧ (∀ b o, s.heap.get? b = some o → h'.get? b = some o)) E) F.called_set.init.plain F.entry_set_init (check_set_init_1 hT ?_)) fun r₂ s₂ hr₂ => ?_
    · obtain ⟨ol, hol, hcl, nl, hdl⟩ := hl
      obtain ⟨ocls, odict, odata, oslots⟩ := ol
      simp only at hcl hdl
      subst hcl hdl
      have hol' : (s.heap.push (blank w)).get? l = some { cls := .type "list", dict := odict, data := .seq items nl, slots := oslots } := Heap.get?_push_of_some _ hol
      have hsls := F.sub_list_set
      have hslf := F.sub_list_frozenset
      have hne : (Value.type "list" == Value.type "dict") = false := by decide
      have hl1 : (s.heap.push (blank w)).IsList l items := ⟨_, hol', rfl, nl, rfl⟩
      have ll : l < s.heap.objs.size := Heap.lt_size hol
      have hz : (s.heap.push (blank w)).objs.size = s.heap.objs.size + 1 := Heap.size_push ..
      unfold Builtin.«set.__init__» noKeywords Builtin.Frozenset.updateFrom
      generalize hPI : pyIter = PI
      wp_walk
      subst hPI
      refine wpAny_pyIter_list hl1 (wpAny_bind (wpAny_runValue ?_))
      have hh3 : A.in1.in1.in1.handled = none := by simp [hh]
      refine fill ((Walks.list hh3 _ l (by rw [hz]; exact Nat.ne_of_lt (Nat.lt_succ_of_lt ll)) items).toS) s.heap.objs.size ?f1 ks cnt bd (fun i v hv => ?f2) s.heap hk (beyond (Nat.le_refl _)) (fun b hb => ?f3) hu (items.size - 0) 0 _ rfl (Nat.zero_le _) ⟨⟨_, Heap.get?_push_size _ rfl, rfl, rfl⟩, hl1.push _⟩
        (fun b o e => Heap.get?_push_of_some _ (Heap.get?_push_of_some _ e)) ⟨[], #[], 0, _, Tups.new (Heap.get?_push_of_some _ hS), ⟨(fun p hp => by cases hp), (fun p hp => by rw [List.take_zero] at hp; cases hp), Nat.le_refl _⟩⟩ fun s' L es ep t m R g k => ?f4
      case f1 =>
        rw [hz]
        simp only [List.mem_cons, List.mem_singleton, List.not_mem_nil, or_false, not_or]
        exact ⟨Nat.ne_of_lt (Nat.lt_succ_self _), Nat.ne_of_gt ll⟩
      case f2 =>
        have q : (ks.map fun p => Value.ref p.1)[i]? = some v := by rw [← hit, Array.getElem?_toList]; exact hv
        rw [List.getElem?_map] at q
        obtain ⟨p, hp, e⟩ := Option.map_eq_some_iff.mp q
        exact ⟨p, hp, e.symm⟩
      case f3 =>
        refine beyond ?_
        rw [List.mem_singleton.mp hb, hz]
        exact Nat.le_succ _
      case f4 =>
        obtain ⟨h', g2, d', tk', os'⟩ := s'
        obtain rfl : g2 = s.gens := m.gens
        obtain rfl : d' = s.drawn := m.drawn
        obtain rfl : os' = s.os := m.os
        rw [cnt] at g
        show wpAny _ _ _ _ _ _
        refine wpAny_pure ?_
        show wpAny _ _ (ret Value.none) _ _ _
        exact wpAny_pure ⟨rfl, h', tk', L, es, ep, t, rfl, R, g, k⟩
    · match r₂, hr₂ with
      | .error e, hr₂ => exact hr₂
      | .ok (.ret r), hr₂ =>
        obtain ⟨rfl, h', tk, L, es, ep, t, rfl, R, g, k⟩ := hr₂
        repeat (any_goals (first | assumption | wp_step))
        exact out _ _ _ _ _ _ R g k
end
end NSet
set_option Elab.async false
set_option linter.all false
set_option maxRecDepth 100000
set_option maxHeartbeats 4000000
namespace NSet
open PySem PySem.Spec PyProof.Rows L2
/-! X33: sorted of a set of such tuples -/
def vc : Cell → V
  | .inl i => .int i
  | .inr x => .str x
def kc : Cell → Int ⊕ List Nat
  | .inl i => .inl i
  | .inr x => .inr x.cps.toList
/-- what kind of cell stands where -/
def Shp (sh : Nat → Bool) : Nat → List Cell → Prop
  | _, [] => True
  | i, .inl _ :: r => sh i = false ∧ Shp sh (i + 1) r
  | i, .inr _ :: r => sh i = true ∧ Shp sh (i + 1) r
/-- the tuple itself, its cells as values -/
def Tup (h : Heap) (k : List Cell) (a : Addr) : Prop := ∃ (o : Obj) (its : Array Value) (n : Nat), h.get? a = some o ∧ o.cls = .type "tuple" ∧ o.data = .seq its n ∧ Vals (k.map vc) its.toList
theorem Tup.wide {h h' : Heap} {k : List Cell} {a : Addr} (x : Tup h k a) (hk : ∀ b o, h.get? b = some o → h'.get? b = some o) : Tup h' k a := by
  obtain ⟨o, its, n, ho, z⟩ := x
  exact ⟨o, its, n, hk _ _ ho, z⟩
theorem all_of_vals {h : Heap} : ∀ {k : List Cell} {us : List Value}, Vals (k.map vc) us → NestedAll h (k.map cell) us
  | [], _, .nil => .nil
  | .inl i :: k, _, .cons r t => by
    obtain ⟨tk, rfl⟩ := r
    exact .cons (.int i tk) (all_of_vals t)
  | .inr x :: k, _, .cons r t => by
    obtain ⟨tk, rfl⟩ := r
    exact .cons (.text x tk) (all_of_vals t)
theorem Tup.at {h : Heap} {k : List Cell} {a : Addr} (x : Tup h k a) : At h k a := by
  obtain ⟨o, its, n, ho, hc, hd, r⟩ := x
  exact .tup ho hc hd (all_of_vals r)
theorem items_vals {sh : Nat → Bool} : ∀ {k : List Cell} {i : Nat} {us : List Value}, Vals (k.map vc) us → Shp sh i k → tupItems sh i us = some (k.map kc)
  | [], _, _, .nil, _ => by simp [tupItems]
  | .inl n :: k, i, _, .cons r t, h => by
    obtain ⟨tk, rfl⟩ := r
    have e := items_vals t h.2
    rw [tupItems, if_neg (by rw [h.1]; exact Bool.false_ne_true), e]
    rfl
  | .inr x :: k, i, _, .cons r t, h => by
    obtain ⟨tk, rfl⟩ := r
    have e := items_vals t h.2
    rw [tupItems, if_pos h.1, e]
    rfl
theorem Tup.key {h : Heap} {sh : Nat → Bool} {k : List Cell} {a : Addr} (x : Tup h k a) (z : Shp sh 0 k) : G.tupKeyC h sh (.ref a) = some (k.map kc) := by
  obtain ⟨o, its, n, ho, hc, hd, r⟩ := x
  unfold G.tupKeyC
  have e1 : G.isTupObj h (.ref a) = true := by simp [G.isTupObj, ho, hc]
  rw [if_pos e1]
  simp only [tupKey, ho, hd]
  exact items_vals r z
theorem Tup.first {h : Heap} {sh : Nat → Bool} {k : List Cell} {a : Addr} (x : Tup h k a) (z : Shp sh 0 k) (ne : k ≠ []) : ∃ f, TupOf h sh (.ref a) f := by
  obtain ⟨o, its, n, ho, hc, hd, r⟩ := x
  obtain ⟨c, k, rfl⟩ := List.exists_cons_of_ne_nil ne
  have f0 : ∀ {u us}, its.toList = u :: us → its[0]? = some u := fun {u us} e => by
    rw [← Array.getElem?_toList, e]
    rfl
  generalize hits : its.toList = l at r f0
  cases c with
  | inl i =>
    cases r with
    | cons r1 rs =>
      obtain ⟨tk, rfl⟩ := r1
      exact ⟨_, a, o, its, n, rfl, ho, hc, hd, f0 rfl, fun _ => ⟨i, tk, rfl⟩, fun q => absurd (z.1.symm.trans q) Bool.false_ne_true⟩
  | inr y =>
    cases r with
    | cons r1 rs =>
      obtain ⟨tk, rfl⟩ := r1
      exact ⟨_, a, o, its, n, rfl, ho, hc, hd, f0 rfl, fun q => absurd (q.symm.trans z.1) Bool.false_ne_true, fun _ => ⟨y, tk, rfl⟩⟩
theorem firsts {h : Heap} {sh : Nat → Bool} : ∀ L : List (Addr × List Cell), (∀ p ∈ L, Tup h p.2 p.1 ∧ Shp sh 0 p.2 ∧ p.2 ≠ []) → ∃ fs, TupsOf h sh (L.map fun p => Value.ref p.1) fs
  | [], _ => ⟨[], .nil⟩
  | p :: L, hp => by
    obtain ⟨fs, hf⟩ := firsts L fun q hq => hp q (List.mem_cons_of_mem _ hq)
    obtain ⟨h1, h2, h3⟩ := hp p List.mem_cons_self
    obtain ⟨f, h4⟩ := h1.first h2 h3
    exact ⟨f :: fs, .cons h4 hf⟩
theorem unmap {α β : Type} (f : α → β) {l m : List β} (h : l.Perm m) : ∀ ps : List α, m = ps.map f → ∃ qs : List α, qs.Perm ps ∧ l = qs.map f := by
  induction h with
  | nil =>
    intro ps e
    cases ps with
    | nil => exact ⟨[], .refl _, rfl⟩
    | cons p r => cases e
  | cons x _ ih =>
    intro ps e
    cases ps with
    | nil => cases e
    | cons p r =>
      obtain ⟨e1, e2⟩ := List.cons.inj e
      obtain ⟨qs, h1, h2⟩ := ih r e2
      exact ⟨p :: qs, h1.cons p, by rw [List.map_cons, ← h2, e1]⟩
  | swap x y l =>
    intro ps e
    match ps, e with
    | a :: b :: r, e =>
      obtain ⟨e1, e2⟩ := List.cons.inj e
      obtain ⟨e3, e4⟩ := List.cons.inj e2
      exact ⟨b :: a :: r, .swap _ _ _, by rw [e1, e3, e4]; rfl⟩
  | trans _ _ ih1 ih2 =>
    intro ps e
    obtain ⟨q2, p2, e2⟩ := ih2 ps e
    obtain ⟨q1, p1, e1⟩ := ih1 q2 e2
    exact ⟨q1, p1.trans p2, e1⟩
/-- in the order of their keys -/
def InOrder (L : List (Addr × List Cell)) : Prop := L.Pairwise fun q r => lexLt itemOrd (r.2.map kc) (q.2.map kc) = false
theorem placed {h : Heap} {sh : Nat → Bool} {ps : List (Addr × List Cell)} (hp : ∀ q ∈ ps, G.tupKeyC h sh (.ref q.1) = some (q.2.map kc)) {arr : Array Keyed}
    (h1 : arr.Perm (pairsOf (ps.map fun q => Value.ref q.1))) (h2 : SortedToK (G.tupKindC h sh) arr (pairsOf (ps.map fun q => Value.ref q.1)).size) :
    ∃ qs : List (Addr × List Cell), qs.Perm ps ∧ InOrder qs ∧ (arr.map (·.2)).toList = qs.map fun q => Value.ref q.1 := by
  have e := Array.perm_iff_toList_perm.mp h1
  have ez : (pairsOf (ps.map fun q => Value.ref q.1)).toList = ps.map fun q => ((Value.ref q.1, Value.ref q.1) : Keyed) := by
    rw [pairsOf_toList]
    clear hp h1 h2 e
    induction ps with
    | nil => rfl
    | cons q r ih => rw [List.map_cons, List.zip_cons_cons, ih, List.map_cons]
  rw [ez] at e
  obtain ⟨qs, p1, e1⟩ := unmap _ e ps rfl
  refine ⟨qs, p1, ?_, ?_⟩
  · unfold InOrder
    rw [List.pairwise_iff_getElem]
    intro i j hi hj hij
    have hlen : (pairsOf (ps.map fun q => Value.ref q.1)).size = qs.length := by rw [pairsOf_size, List.length_map, p1.length_eq]
    have kk : ∀ (k : Nat) (hk : k < qs.length), KK (G.tupKindC h sh) arr k = qs[k].2.map kc := fun k hk => by
      have e2 : arr[k]? = some ((Value.ref qs[k].1, Value.ref qs[k].1) : Keyed) := by
        rw [← Array.getElem?_toList, e1, List.getElem?_map, List.getElem?_eq_getElem hk]
        rfl
      unfold KK
      rw [e2]
      show (G.tupKeyC h sh (.ref qs[k].1)).getD _ = _
      rw [hp _ (p1.mem_iff.mp (List.getElem_mem hk))]
      rfl
    have := h2 i j (Nat.le_of_lt hij) (by rw [hlen]; exact hj)
    rw [kk i hi, kk j hj] at this
    exact this
  · rw [Array.toList_map, e1, List.map_map]
    rfl
section
variable {P : Program} {w : World} {A : Around} {E : Value → Shared → Prop} {s : Shared} {a : Addr} {L : List (Addr × List Cell)} {es : Array (Int × Value)} {ep : Nat} {t : SetTable}
theorem sorted_set {Q : Value → Shared → Prop} (R : Tups w s.heap a L es ep t) (hh : A.handled = none) {sh : Nat → Bool} (hs : ∀ p ∈ L, Tup s.heap p.2 p.1 ∧ Shp sh 0 p.2 ∧ p.2 ≠ [])
    (res : ∀ s' p (out : Array Value) (c : Nat) L', (∀ b o, s.heap.get? b = some o → s'.heap.get? b = some o) → s'.gens = s.gens → s'.os = s.os → s.heap.objs.size ≤ p →
      s'.heap.get? p = some (seqObj "list" out c) → out.toList = L'.map (fun q => Value.ref q.1) → L'.Perm L → InOrder L' → Q (.ref p) s') :
    wpAny (model P w) A (call (.builtin "sorted") [.ref a]) Q E s := by
  obtain ⟨o, ho, hex, hd⟩ := R.obj
  have few := R.few
  have cnt := R.count
  refine Calls.call_function_entry kind_sorted plain_sorted entry_sorted (args_sorted1 _) ?_
  unfold Builtin.«sorted»
  refine wpAny_bind (m := checkCount "sorted" 1 1 _) (wpAny_pure ?_)
  refine wpAny_bind (collect_set (A := A.in1) hh ⟨o, ho, hex.1, hd⟩ R.fit (by unfold scanBound; omega) R.tab.ris R.led fun s1 vs k1 hz g1 o1 pm => ?_)
  have hes : es.toList.map (·.2) = L.map fun q => Value.ref q.1 := by
    rw [R.row, List.map_map]
    rfl
  rw [hes] at pm
  obtain ⟨L1, p1, rfl⟩ := unmap _ pm L rfl
  have n1 : L1.length < 64 := by rw [p1.length_eq]; exact few
  refine wpAny_bind (wpAny_newList ?_ (by rw [List.length_map, sizeLine_eq]; omega))
  have hoL : (s1.heap.push (seqObj "list" (L1.map fun q => Value.ref q.1).toArray 0)).get? s1.heap.objs.size = some (seqObj "list" (L1.map fun q => Value.ref q.1).toArray 0) := Heap.get?_push_size _ rfl
  have tp : ∀ q ∈ L1, Tup (s1.heap.push (seqObj "list" (L1.map fun q => Value.ref q.1).toArray 0)) q.2 q.1 ∧ Shp sh 0 q.2 ∧ q.2 ≠ [] := fun q hq => by
    obtain ⟨h1, h2⟩ := hs q (p1.mem_iff.mp hq)
    exact ⟨h1.wide fun b u e => Heap.get?_push_of_some _ (k1 b u e), h2⟩
  obtain ⟨fs, hf⟩ := firsts L1 tp
  have keys : ∀ q ∈ L1, G.tupKeyC (s1.heap.push (seqObj "list" (L1.map fun q => Value.ref q.1).toArray 0)) sh (.ref q.1) = some (q.2.map kc) := fun q hq => (tp q hq).1.key (tp q hq).2.1
  refine wpAny_bind (wpAny_holding (wpAny_call_entry slot_list_sort ⟨_, hoL, rfl⟩ entry_list_sort (G.list_sort_tups (s := { s1 with heap := s1.heap.push (seqObj "list" (L1.map fun q => Value.ref q.1).toArray 0) }) hoL hf (fun v hv => ?_) (by rw [List.length_map, sizeLine_eq]; omega) fun st' a1 a2 a3 => ⟨_, rfl, ?_⟩) (args_list_sort _)))
  · obtain ⟨q, hq, rfl⟩ := List.mem_map.mp hv
    exact ⟨_, keys q hq⟩
  · obtain ⟨L2, q1, q2, q3⟩ := placed keys a1 a2
    obtain ⟨c, hc⟩ := sortedHeap_at (vs := L1.map fun q => Value.ref q.1) (out := (arrOf st').map (·.2)) hoL
    refine wpAny_pure ⟨_, rfl, res _ s1.heap.objs.size _ c L2 (fun b u e => ?_) g1 o1 hz hc q3 (q1.trans p1) q2⟩
    have q := k1 b u e
    have hlt := Heap.lt_size q
    show (sortedHeap (s1.heap.push (seqObj "list" (L1.map fun q => Value.ref q.1).toArray 0)) s1.heap.objs.size _ _).get? b = some u
    rw [sortedHeap_old (Nat.ne_of_lt hlt) (by rw [size_push']; exact Nat.lt_succ_of_lt hlt)]
    exact Heap.get?_push_of_some _ q
end
end NSet
set_option Elab.async false
set_option linter.all false
set_option maxRecDepth 100000
set_option maxHeartbeats 4000000
namespace NSet
open PySem PySem.Spec PyProof.Rows L2
/-! X34: such sets as tracked objects, set(list), sorted(set) -/
/-- the set at a, but for the tuples themselves -/
structure Bare (w : World) (a : Addr) (L : List (Addr × List Cell)) (h : Heap) : Prop where
  ex : ∃ (es : Array (Int × Value)) (ep : Nat) (t : SetTable), (∃ o, h.get? a = some o ∧ o.ExactSet ∧ o.data = .set es ep t) ∧ es.toList = L.map (fun p => (hsh w p.2, Value.ref p.1)) ∧ TabOk t (L.map fun p => hsh w p.2) ∧ (L.map (·.2)).Nodup ∧
    (w.params.followText "set-order" = true ∨ t.led = true) ∧ L.length * 5 < t.mask * 3 ∧ L.length < 64
def SetN (w : World) (a : Addr) (L : List (Addr × List Cell)) : HO := .ext (Bare w a L)
theorem Tups.bare {w : World} {h : Heap} {a : Addr} {L : List (Addr × List Cell)} {es : Array (Int × Value)} {ep : Nat} {t : SetTable} (R : Tups w h a L es ep t) : Bare w a L h := ⟨es, ep, t, R.obj, R.row, R.tab, R.dif, R.led, R.gap, R.few⟩
theorem Bare.full {w : World} {h : Heap} {a : Addr} {L : List (Addr × List Cell)} (R : Bare w a L h) (ht : ∀ p ∈ L, At h p.2 p.1) : ∃ es ep t, Tups w h a L es ep t := by
  obtain ⟨es, ep, t, h1, h2, h3, h4, h5, h6, h7⟩ := R.ex
  exact ⟨es, ep, t, h1, h2, h3, h4, ht, h5, h6, h7⟩
theorem setN_ok {P : Program} {w : World} {H : Hp} {h : Heap} {a : Addr} {L : List (Addr × List Cell)} (R : Bare w a L h) : ObjOk P w H h a (SetN w a L) := by
  obtain ⟨es, ep, t, ⟨o, ho, r⟩, q⟩ := id R.ex
  refine ⟨R, ⟨o, ho⟩, fun h1 h2 p k => ?_⟩
  obtain ⟨es', ep', t', ⟨o', ho', r'⟩, q'⟩ := Bare.ex p
  exact ⟨es', ep', t', ⟨o', k o' ho', r'⟩, q'⟩
theorem refs_vals : ∀ {ks : List (Addr × List Cell)} {us : List Value}, Vals (ks.map fun p => V.ref p.1) us → us = ks.map fun p => Value.ref p.1
  | [], _, .nil => rfl
  | p :: ks, _, .cons r t => by
    cases r
    rw [refs_vals t]
    rfl
theorem vals_refs : ∀ (ks : List (Addr × List Cell)), Vals (ks.map fun p => V.ref p.1) (ks.map fun p => Value.ref p.1)
  | [] => .nil
  | p :: ks => .cons rfl (vals_refs ks)
section
variable {X : Cx}
theorem tup_of {pins : List (Addr × Obj)} {σ : L2.St} {H : Hp} {s : Shared} {b : Addr} {k : List Cell} (I : Inv X pins σ H s) (h : SqT X.K H b (k.map vc)) : Tup s.heap k b := by
  obtain ⟨its, r, ⟨o, ho, hc, n, hd⟩, _⟩ := I.tuple h
  exact ⟨o, its.toArray, n, ho, hc, hd, by simpa using r⟩
/-- set(xs), xs a list of such tuples -/
def rSetN (K : PySem.W.Frag) (w : World) : List V → Hp → VK → Prop := fun xs H Q => ∃ (l : Addr) (ks : List (Addr × List Cell)), xs = [V.ref l] ∧ SqL K H l (ks.map fun p => V.ref p.1) ∧ (∀ p ∈ ks, SqT K H p.1 (p.2.map vc)) ∧ (∀ L : List (Addr × List Cell), (L.map (·.2)).Nodup → (∀ p ∈ L, p ∈ ks) → L.length < 63) ∧
  ∀ a L, H a = none → (L.map (·.2)).Nodup → (∀ p ∈ L, p ∈ ks) → (∀ p ∈ ks, p.2 ∈ L.map (·.2)) → Q (.ref a) (upd H a (SetN w a L))
theorem cr_setN (hc : X.calm = true) (hu : X.A.units + 64 < cLine) : CallR X (.type "set") (rSetN X.K X.w) := by
  intro pins s σ H xs us Q I r h
  obtain ⟨l, ks, rfl, hl, hk, hf, q⟩ := h
  rw [Vals.ref1 r]
  obtain ⟨its, rv, pl, hz⟩ := I.list hl
  have hn : H s.heap.objs.size = none := I.hok.fresh (Nat.le_refl _)
  refine set_of (P := X.prog) (w := X.w) ks (I.ok.hd hc) pl.isList (by simpa using refs_vals rv) (fun p hp => (tup_of I (hk p hp)).at) hf (by omega) fun h' tk L es ep t R g k => ?_
  refine ⟨.ref s.heap.objs.size, upd H s.heap.objs.size (SetN X.w s.heap.objs.size L), I.laid (t' := tk) k (Nat.le_refl _) (setN_ok R.bare), rfl, q _ L hn R.dif (fun p hp => List.mem_of_mem_take (g.inn p hp)) fun p hp => g.cov p (by rw [List.take_length]; exact hp)⟩
/-- sorted(set) -/
def rSortN (K : PySem.W.Frag) (w : World) : List V → Hp → VK → Prop := fun vs H Q => ∃ (a : Addr) (L : List (Addr × List Cell)) (sh : Nat → Bool), vs = [V.ref a] ∧ H a = some (SetN w a L) ∧ (∀ p ∈ L, SqT K H p.1 (p.2.map vc) ∧ Shp sh 0 p.2 ∧ p.2 ≠ []) ∧
  ∀ (L' : List (Addr × List Cell)) (p : Addr), L'.Perm L → (L'.map (·.2)).Nodup → L'.length < 64 → InOrder L' → H p = none → Q (.ref p) (upd H p (.lst (L'.map fun q => V.ref q.1)))
theorem cr_sortN (hc : X.calm = true) : CallR X (.builtin "sorted") (rSortN X.K X.w) := by
  intro pins s σ H vs us Q I r h
  obtain ⟨a, L, sh, rfl, ha, hk, q⟩ := h
  have R0 : Bare X.w a L s.heap := (I.hok a _ ha).1
  obtain ⟨es, ep, t, R⟩ := R0.full fun p hp => (tup_of I (hk p hp).1).at
  rw [Vals.ref1 r]
  refine sorted_set R (I.ok.hd hc) (fun p hp => ⟨tup_of I (hk p hp).1, (hk p hp).2⟩) fun s' p out c L' k g o hp hg hout pm pw => ?_
  have hfew : L'.length < 64 := by rw [pm.length_eq]; exact R.few
  have hlen : (L'.map fun q => V.ref q.1).length ≤ sizeLine := by rw [List.length_map, sizeLine_eq]; omega
  have hn : H p = none := I.hok.fresh hp
  have hv : Vals (L'.map fun q => V.ref q.1) out.toList := by rw [hout]; exact vals_refs L'
  have J : Inv X pins σ (upd H p (.lst (L'.map fun q => V.ref q.1))) s' :=
    I.call' (ch := []) o (Un.laid k hp hn) (I.hok.laid k hp ⟨hlen, out.toList, c, hv, hg⟩) (by rw [g]; exact I.bare) (fun _ z => nomatch z)
  exact ⟨.ref p, _, J, rfl, q L' p pm ((pm.map (·.2)).nodup_iff.mpr R.dif) hfew pw hn⟩
end
end NSet
set_option Elab.async false
set_option linter.all false
set_option maxRecDepth 100000
set_option maxHeartbeats 4000000
namespace NSet
open PySem PySem.Spec PyProof.Rows L2
/-! X35: {a tuple of numbers and texts for .. in ..} -/
/-- the tuple y put into the set at D -/
def putN (K : PySem.W.Frag) (w : World) (D : Addr) (y : V) (H : Hp) (Nx : Hp → Prop) : Prop := ∃ (x : Addr) (k : List Cell) (L : List (Addr × List Cell)), y = .ref x ∧ SqT K H x (k.map vc) ∧ H D = some (SetN w D L) ∧ (∀ p ∈ L, SqT K H p.1 (p.2.map vc)) ∧ L.length + 1 < 64 ∧
  ∀ L', (k ∈ L.map (·.2) → L' = L) → (k ∉ L.map (·.2) → L'.Perm ((x, k) :: L)) → Nx (upd H D (SetN w D L'))
section
variable {X : Cx}
theorem put_ok {pins : List (Addr × Obj)} {σ : L2.St} {H : Hp} {s : Shared} {E : Value → Shared → Prop} {D : Addr} {y : V} {z : Value} {Nx : Hp → Prop} {Q : Value → Shared → Prop} (I : Inv X pins σ H s) (hu : X.A.units + 64 < cLine) (r : RelV y z) (p : putN X.K X.w D y H Nx)
    (out : ∀ H' s', Inv X pins σ H' s' → Nx H' → Q .none s') : wpAny (model X.prog X.w) X.A (call (.builtin "set.add") [.ref D, z]) Q E s := by
  obtain ⟨x, k, L, rfl, hx, hD, hL, room, nx⟩ := p
  cases r
  obtain ⟨es, ep, t, R⟩ := (show Bare X.w D L s.heap from (I.hok D _ hD).1).full fun q hq => (tup_of I (hL q hq)).at
  have ax : At s.heap k x := (tup_of I hx).at
  obtain ⟨o, ho, hex, hd⟩ := R.obj
  refine wpAny_call_entry F.slot_set_add (show s.TypeIs (.ref D) "set" from ⟨o, ho, hex.1⟩) F.entry_set_add ?_ (F.args_set_add_2 _ _)
  unfold Builtin.«set.add» Builtin.Frozenset.oneOther
  simp only [List.isEmpty_nil, bind_assoc]
  unfold Builtin.Frozenset.addrOf setAdd
  refine wpAny_bind (wpAny_pure ?_)
  try dsimp only
  refine wpAny_bind (wpAny_pure ?_)
  try dsimp only
  refine wpAny_bind (wpAny_holding (wpAny_bind (ax.hashed (by show X.A.in1.units + 8 < cLine; have : X.A.in1.units ≤ X.A.units + 1 := Nat.le_refl _; omega) fun dn => ?_)))
  refine put_in (s := { s with toks := s.toks + dn }) R ax (by show X.A.in1.units + 8 < cLine; have : X.A.in1.units ≤ X.A.units + 1 := Nat.le_refl _; omega) room fun b h' L' es' ep' t' sb R2 c1 c2 => ?_
  show wpAny _ _ (ret Value.none) _ _ _
  have he : ∃ u, h'.get? D = some u := by
    obtain ⟨o2, ho2, _⟩ := R2.obj
    exact ⟨o2, ho2⟩
  exact wpAny_pure ⟨_, rfl, out _ _ (I.write (e := D) (t' := s.toks + dn) (by rw [hD]; trivial) (.inl rfl) (fun c u hc e => (sb.2 c hc).trans e) he (setN_ok R2.bare)) (nx L' c1 c2)⟩
/-- what the comprehension owes: D the new set -/
def tScN (K : PySem.W.Frag) (w : World) (wi : TI) (g : TG) (tt : TT) (te : TE) (vs : List Nat) : TE := fun σ H Q => wi σ H fun J H1 => ∀ D, H1 D = none → ∃ W : Nat → Nat → Hp → Prop, (∃ m, W 0 m (upd H1 D (SetN w D []))) ∧ ∀ i m H, W i m H →
  (J.stop i H ∧ Q (.ref D) H) ∨ (J.go i H ∧ ∃ Nx : Hp → Prop, (∀ H', Nx H' → ∃ m', m' < m ∧ W (i + 1) m' H') ∧ ∀ x H', J.yld i H x H' → g x (wipe σ vs) H' fun σ2 H2 => wipe σ2 vs = wipe σ vs ∧ tt σ2 H2 fun b H3 =>
    if b = true then te σ2 H3 fun y H4 => putN K w D y H4 Nx else Nx H3)
section
variable {elt tg iter : Expr} {ifs : List Expr} {scope : Scope} {own : List (PySem.Str × Nat)} {pos : Pos} {wi : TI} {g : TG} {tt : TT} {te : TE}
/-- the comprehension as a value -/
theorem pe_scN (hc : X.calm = true) (hu : X.A.units + 64 < cLine) (hN : X.N.Nodup) (hi : PI X tg iter wi) (ok : BlkOk X.N X.env.scope scope own)
    (hg : ∀ (s : Shared) (H : Hp) (C : Addr) (cl : List (PySem.Str × Addr)) (fp : List Addr), PG (X.blk s H scope (compEnvC scope cl C X.env) fp) tg g)
    (ht : ∀ (s : Shared) (H : Hp) (C : Addr) (cl : List (PySem.Str × Addr)) (fp : List Addr), PTs (X.blk s H scope (compEnvC scope cl C X.env) fp) ifs tt)
    (he : ∀ (s : Shared) (H : Hp) (C : Addr) (cl : List (PySem.Str × Addr)) (fp : List Addr), PE (X.blk s H scope (compEnvC scope cl C X.env) fp) elt te)
    (hs : ∀ x, foldedSetIterable iter X.env x = pure x := by intro _; rfl) :
    PE X (.SetComp elt [⟨tg, iter, ifs, 0⟩] scope pos) (tScN X.K X.w wi g tt te (own.map (·.2))) := by
  refine ⟨fun pins s σ H Q I h => ?_⟩
  rw [PpSet.eval_SetComp]
  have clo : ∀ y ∈ scope.names, y.2 = .free → ∃ c, X.env.cells.lookup y.1 = some c := fun y hy e => I.ok.has _ (ok.free y hy e)
  refine wpAny_comprehension_free (use := none) rfl hs (closure_ok clo) ok.kind (fun y hy e => by rw [ok.uniq y hy, e]) (thn (hi.run pins s σ H _ I h) fun xv s1 hx => thn hx fun itv s2 h2 => ?_)
  obtain ⟨it, fp, tn, J, H2, rfl, I2, T, st2, f2, q⟩ := h2
  refine PpSet.newSet_ok (newEnv_comp ?_)
  generalize hD : s2.heap.objs.size = D
  have nD : H2 D = none := I2.hok.fresh (Nat.le_of_eq hD)
  obtain ⟨W, ⟨m0, w0⟩, turn⟩ := q D nD
  -- the empty set stands
  obtain ⟨s3, e3⟩ : ∃ s3 : Shared, s3 = { s2 with heap := s2.heap.push (blank X.w) } := ⟨_, rfl⟩
  have hp3 : s3.heap = s2.heap.push (blank X.w) := by rw [e3]
  obtain ⟨H3, eH⟩ : ∃ H3 : Hp, H3 = upd H2 D (SetN X.w D []) := ⟨_, rfl⟩
  have at3 : s3.heap.get? D = some (blank X.w) := by rw [hp3, ← hD]; exact Heap.get?_push_size _ rfl
  have I3 : Inv X pins σ H3 s3 := by
    rw [eH, e3]
    exact I2.laid (t' := s2.toks) (fun b o e => Heap.get?_push_of_some _ e) (Nat.le_of_eq hD) (setN_ok (Tups.new (by rw [hp3] at at3; exact at3)).bare)
  rw [← eH] at w0
  have under : ∀ b ∈ fp, b < s2.heap.objs.size := fun b hb => by
    obtain ⟨o, e, _⟩ := T.obj _ _ st2 b hb
    exact Heap.lt_size e
  have f3 : ∀ b ∈ fp, FpOk X pins H3 b ∧ b < s3.heap.objs.size := fun b hb => by
    have lt := under b hb
    refine ⟨⟨?_, (f2 b hb).2⟩, by rw [hp3, Heap.size_push]; exact Nat.lt_succ_of_lt lt⟩
    rw [eH, upd_ne (by rw [← hD]; exact Nat.ne_of_lt lt)]
    exact (f2 b hb).1
  have st3 : tn 0 s3.heap := T.keep _ _ _ st2 fun b _ o e => by rw [hp3]; exact Heap.get?_push_of_some _ e
  have I4 := block_start I3 ok hN f3
  have pg := hg s3 H3 s3.heap.objs.size (cellsFrom (s3.heap.objs.size + 1) scope.names (cloFrom X.env.cells scope.names [])) fp
  have pt := ht s3 H3 s3.heap.objs.size (cellsFrom (s3.heap.objs.size + 1) scope.names (cloFrom X.env.cells scope.names [])) fp
  have pe := he s3 H3 s3.heap.objs.size (cellsFrom (s3.heap.objs.size + 1) scope.names (cloFrom X.env.cells scope.names [])) fp
  subst e3
  show codeAny _ _ (.compStart _ 0 (.ref it) (.ref D) (compEnvC scope (cellsFrom ((s2.heap.push (blank X.w)).objs.size + 1) scope.names (cloFrom X.env.cells scope.names [])) (s2.heap.push (blank X.w)).objs.size X.env)) (compPost (model X.prog X.w) X.A X.xe none (EP X pins σ Q) (.ref D) (s2.heap.push (blank X.w)).objs.size) { s2 with heap := pushCells ((s2.heap.push (blank X.w)).push { cls := .type "dict", data := .dict #[] }) scope.names }
  generalize e3 : ({ s2 with heap := s2.heap.push (blank X.w) } : Shared) = s3 at *
  rw [← hp3]
  have none3 : ∀ b ∈ fp, H3 b = none := fun b hb => (f3 b hb).1.1
  generalize hce : compEnvC scope (cellsFrom (s3.heap.objs.size + 1) scope.names (cloFrom X.env.cells scope.names [])) s3.heap.objs.size X.env = ce at I4 pg pt pe ⊢
  have cL : ce.locals = s3.heap.objs.size := by rw [← hce]; rfl
  have es : ({ s2 with heap := pushCells (s3.heap.push { cls := .type "dict", data := .dict #[] }) scope.names } : Shared) = { s3 with heap := pushCells (s3.heap.push { cls := .type "dict", data := .dict #[] }) scope.names } := by rw [← e3]
  rw [es]
  generalize hs4 : ({ s3 with heap := pushCells (s3.heap.push { cls := .type "dict", data := .dict #[] }) scope.names } : Shared) = s4 at I4 ⊢
  have st4 : tn 0 s4.heap := T.keep _ _ _ st3 fun b _ o e => by rw [← hs4]; exact pushCells_keeps _ _ _ _ (Heap.get?_push_of_some _ e)
  have foot : ∀ {σ' : L2.St} {H' : Hp} {s' : Shared}, Inv (X.blk s3 H3 scope ce fp) [] σ' H' s' → (∀ b ∈ fp, H' b = none) → ∀ b ∈ fp, FpOk (X.blk s3 H3 scope ce fp) [] H' b := fun {σ' H' s'} I' hn b hb =>
    ⟨hn b hb, (I'.ok.exf b hb).1, I'.ok.exfs b hb, .inl hb, fun x c e => (I'.ok.exf b hb).2 x c e, fun p hp => nomatch (show p ∈ ([] : List (Addr × Obj)) from by simpa using hp)⟩
  have loop : codeAny (model X.prog X.w) X.A (.compLoop (.SetComp elt [⟨tg, iter, ifs, 0⟩] scope pos) 0 (.ref it) (.ref D) ce) (compPost (model X.prog X.w) X.A X.xe none (EP X pins σ Q) (.ref D) s3.heap.objs.size) s4 := by
    refine PpSet.compLoopS_any (fun n s' => ∃ i H', Inv (X.blk s3 H3 scope ce fp) [] (wipe σ (own.map (·.2))) H' s' ∧ tn i s'.heap ∧ (∀ b ∈ fp, H' b = none) ∧ W i n H') ?_ m0 ⟨0, H3, I4, st4, none3, w0⟩
    rintro n s5 ⟨i, H5, I5, st5, n5, w5⟩
    rcases turn i n H5 w5 with ⟨stop, qq⟩ | ⟨go, Nx, hNx, step⟩
    · refine thnF (T.done (X.blk s3 H3 scope ce fp) rfl rfl rfl hc i [] s5 _ H5 (fun _ _ => False) I5 (foot I5 n5) st5 stop) fun r s6 ⟨hr, I6⟩ => ?_
      subst hr
      have I7 : Inv X pins σ H5 s6 := I3.call' (ch := fp) I6.os I6.base I6.hok I6.bare fun b hb => ⟨(f3 b hb).1.2.2.2.1, (f3 b hb).1.2.1, (f3 b hb).1.2.2.2.2.1, (f3 b hb).1.2.2.2.2.2⟩
      have nC : H5 s3.heap.objs.size = none := by
        have z : H5 ce.locals = none := I6.free
        rwa [cL] at z
      obtain ⟨m, hn, _⟩ := I6.loc
      have hn2 : s6.heap.Ns ce.locals m := hn
      rw [cL] at hn2
      refine ⟨m, hn2, fun h'' sb => ?_⟩
      obtain ⟨g0, g1, g2, g3, g4, g5⟩ := I3.fpOk (Nat.le_refl _) nC
      exact ⟨.ref D, H5, I7.turned (t' := s6.toks) (fun b o hb e => (sb.2 b hb).trans e) g0 g1 g3 g4 g5, rfl, qq⟩
    · refine thnF (T.item (X.blk s3 H3 scope ce fp) rfl rfl rfl hc i [] s5 _ H5 (fun _ _ => False) I5 (foot I5 n5) st5 go) fun r s6 ⟨u, hr, h6⟩ => ?_
      subst hr
      refine thnF h6 fun _ s7 ⟨x, H7, I7, r7, y7, st7, n7⟩ => ?_
      refine thnF (pg.run _ s7 _ H7 x u _ (I7.pinned (foot I7 n7) (T.obj _ _ st7)) r7 (step x H7 y7)) fun _ s8 ⟨σ8, H8, I8, hw8, q8⟩ => ?_
      refine thnF (pt.run _ s8 σ8 H8 _ I8 q8) fun b s9 ⟨H9, I9, q9⟩ => ?_
      have next : ∀ {s' : Shared} {H' : Hp}, Inv (X.blk s3 H3 scope ce fp) ([] ++ pinsAt fp s7.heap) σ8 H' s' → Nx H' → ∃ m, m < n ∧ ∃ i H', Inv (X.blk s3 H3 scope ce fp) [] (wipe σ (own.map (·.2))) H' s' ∧ tn i s'.heap ∧ (∀ b ∈ fp, H' b = none) ∧ W i m H' := fun {s' H'} I' nx => by
        obtain ⟨m', hm, w'⟩ := hNx H' nx
        have fixed : ∀ b ∈ fp, ∀ o, s7.heap.get? b = some o → s'.heap.get? b = some o ∧ H' b = none := fun b hb o e =>
          let z := I'.pin (b, o) (List.mem_append_right _ (List.mem_append_right _ (mem_pinsAt hb e)))
          ⟨z.1, z.2.1⟩
        refine ⟨m', hm, i + 1, H', (I'.unpinned (pins := [])).weak (by rw [← hw8, wipe_length]) (fun j v e => ?_), T.keep _ _ _ st7 fun b hb o e => (fixed b hb o e).1, fun b hb => ?_, w'⟩
        · rw [← hw8] at e
          exact (wipe_some e).1
        · obtain ⟨o, e, _⟩ := T.obj _ _ st7 b hb
          exact (fixed b hb o e).2
      cases b with
      | false =>
        simp only [Bool.false_eq_true, if_false] at q9 ⊢
        exact next I9 q9
      | true =>
        simp only [if_true] at q9 ⊢
        refine thnF (pe.run _ s9 σ8 H9 _ I9 q9) fun z s10 ⟨yv, H10, I10, r10, pp⟩ => ?_
        exact put_ok (X := X.blk s3 H3 scope ce fp) I10 hu r10 pp fun H11 s11 I11 nx => next I11 nx
  exact PpSet.codeAny_compStart_set loop (T.self X.A 0 _ _ _ st4 loop)
end
end
end NSet
set_option Elab.async false
set_option linter.all false
set_option maxRecDepth 100000
set_option maxHeartbeats 4000000
namespace NSet
open PySem PySem.Spec PyProof.Rows L2
/-! X36: the set comprehension over a list that stays -/
theorem scN_list {w : World} {K : PySem.W.Frag} {a : Addr} {xs : List V} {g : TG} {tt : TT} {te : TE} {vs : List Nat} {σ : L2.St} {H1 : Hp} {D : Addr} {Fin : Hp → Prop} (Pv : Nat → Hp → Prop) (first : Pv 0 (upd H1 D (SetN w D []))) (here : ∀ i H, i ≤ xs.length → Pv i H → SqL K H a xs)
    (turn : ∀ i x H, xs[i]? = some x → Pv i H → g x (wipe σ vs) H fun σ2 H2 => wipe σ2 vs = wipe σ vs ∧ tt σ2 H2 fun b H3 => if b = true then te σ2 H3 fun y H4 => putN K w D y H4 (Pv (i + 1)) else Pv (i + 1) H3) (last : ∀ H, Pv xs.length H → Fin H) :
    ∃ W : Nat → Nat → Hp → Prop, (∃ m, W 0 m (upd H1 D (SetN w D []))) ∧ ∀ i m H, W i m H →
      ((Itl K a).stop i H ∧ Fin H) ∨ ((Itl K a).go i H ∧ ∃ Nx : Hp → Prop, (∀ H', Nx H' → ∃ m', m' < m ∧ W (i + 1) m' H') ∧ ∀ x H', (Itl K a).yld i H x H' → g x (wipe σ vs) H' fun σ2 H2 => wipe σ2 vs = wipe σ vs ∧ tt σ2 H2 fun b H3 =>
        if b = true then te σ2 H3 fun y H4 => putN K w D y H4 Nx else Nx H3) := by
  refine ⟨fun i m H => m + i = xs.length ∧ Pv i H, ⟨xs.length, rfl, first⟩, fun i m H ⟨hm, p⟩ => ?_⟩
  have q := here i H (by omega) p
  rcases Nat.lt_or_ge i xs.length with lt | ge
  · refine .inr ⟨⟨xs, xs[i], q, by simp [lt]⟩, Pv (i + 1), fun H' p' => ⟨m - 1, by omega, by omega, p'⟩, fun x H' y => ?_⟩
    obtain ⟨e, y⟩ := y
    subst e
    exact turn i x _ (y xs q) p
  · obtain rfl : i = xs.length := by omega
    exact .inl ⟨⟨xs, q, Nat.le_refl _⟩, last H p⟩
end NSet
set_option Elab.async false
set_option linter.all false
set_option maxRecDepth 100000
set_option maxHeartbeats 4000000
namespace Vk
open PySem PySem.Spec PyProof.Rows L2
/-! X37: x != y by an own __eq__ alone; ~x and x op y by own methods, y of the same class -/
section
variable {M : Model} {prog : Program} {w : World} {A : Around} {E : Value → Shared → Prop} {s : Shared} {K : PySem.W.Frag} {x C g : Addr} {ox : Obj} {od : Option Obj}
theorem bound_ne {args : List Value} {Q : Option Value → Shared → Prop} (X : K.In s.heap) (I : PySem.W.InstAt s.heap x ox C od) (hs : PySem.W.findIn K (.ref C) "__ne__" = some (some (.builtin "object.__ne__")))
    (h : wpAny M A (call (.builtin "object.__ne__") (.ref x :: args)) (fun v => Q (some v)) E s) : wpAny M A (callSpecialIfBound? (.ref x) "__ne__" args) Q E s := by
  simp only [callSpecialIfBound?, bindSpecialIfBound?]
  have last : wpAny M A (call (.builtin "object.__ne__") ([.ref x] ++ args) >>= fun v => pure (some v)) Q E s := wpAny_bind (wpAny_mono h (fun v s' z => wpAny_pure z) fun _ _ z => z)
  refine wpAny_holding (wpAny_bind (wpAny_bind (wpAny_bind (I.type.here ((PySem.W.looks_findIn X hs).here ?_)))))
  refine wpAny_bind (wpAny_askSetting (wpAny_ite ?_))
  split
  · exact wpAny_bind (wpAny_of_eq (F.cmp_object.ne.bind _) (wpAny_pure (by exact last)))
  · exact wpAny_tryCatch (wpAny_bind (wpAny_of_eq (F.cmp_object.ne.bind _) (wpAny_pure (by exact last))))
theorem turned_eq {b : Value} {Q : Fin → Shared → Prop} (hu : A.units < cLine) (X : K.In s.heap) (I : PySem.W.InstAt s.heap x ox C od) (hs : PySem.W.findIn K (.ref C) "__eq__" = some (some (.ref g))) (hf : PySem.W.isFn K (.ref g) = true)
    (h : wpAny (model prog w) A (call (.ref g) [.ref x, b]) (fun v s' => ∃ c, v = .bool c ∧ Q (.done (.ret (.bool (!c)))) s') E s) : wpAny (model prog w) A (Builtin.«object.__ne__» ⟨[.ref x, b], []⟩) Q E s := by
  unfold Builtin.«object.__ne__»
  repeat (first
    | with_reducible refine wpAny_cRoomFor hu ?_
    | (refine wpAny_bind (m := callSpecialIfBound? (.ref x) (Str.ofString "__eq__") [b]) (PySem.W.ifBound_K X I hs hf (wpAny_mono h (fun r s' hr => by
        obtain ⟨c, rfl, hq⟩ := hr
        repeat (first | exact hq | exact wpAny_pure hq | exact wpAny_truthy_bool hq | (refine wpAny_bind (m := truthy (.bool _)) (wpAny_truthy_bool ?_)) | wp_step)) fun _ _ z => z)))
    | wp_step)
end
def rNeI (K : PySem.W.Frag) (C : Addr) (sp : Sp) (E : XK) : R2 := fun x y H Q => ∃ a dx fs b C' dy gs, x = .ref a ∧ y = .ref b ∧ H a = some (.ins C dx fs) ∧ H b = some (.ins C' dy gs) ∧ PySem.W.notFirst K C (.ref C') = true ∧ sp [x, y] H (fun z H' => ∃ c, z = .bl c ∧ Q (.bl (!c)) H') E
section
variable {X : Cx} {CX : CXT} {k : Nat} {g C : Addr} {sp : Sp} {E : XK}
theorem op_neI (hne : PySem.W.findIn X.K (.ref C) "__ne__" = some (some (.builtin "object.__ne__"))) (hm : PySem.W.mroIn X.K C (.type "object") = some true) (hs : PySem.W.findIn X.K (.ref C) "__eq__" = some (some (.ref g))) (hf : PySem.W.isFn X.K (.ref g) = true)
    (G : FnR X.prog X.w X.K X.mg X.base CX k g sp) (hr : Room (k + 1) X.A) (hx : Passes CX X E) : OpR X (compareOp .NotEq) (rNeI X.K C sp E) := by
  intro pins s σ H x y v u Q I rx ry h
  obtain ⟨a, dx, fs, b, C', dy, gs, rfl, rfl, ha, hbb, hn, q⟩ := h
  cases (show v = Value.ref a from rx)
  cases (show u = Value.ref b from ry)
  obtain ⟨mA, O, _⟩ := ins_get I.hok ha
  obtain ⟨od, J, _⟩ := O.look
  obtain ⟨mB, O2, _⟩ := ins_get I.hok hbb
  obtain ⟨od2, J2, _⟩ := O2.look
  have hr1 : Room k X.A.in1 := Room.in1 hr
  have one : wpAny (model X.prog X.w) X.A (tryCompare (.ref a) "__ne__" (.ref b)) (fun r s' => ∃ v, r = some v ∧ EP X pins σ Q v s') X.xe s := by
    unfold tryCompare
    refine wpAny_bind (bound_ne I.kIn J hne (wpAny_call (codeAny_call_builtin F.cmp_object.ne.plain F.cmpEntry_ne (PySem.W.check_slot F.cmpKind_ne F.cmpSplit_ne (J.type.andThen (PySem.W.looks_mroIn I.kIn hm)) (F.cmpArgs_ne _ _) (turned_eq hr1.units0 I.kIn J hs hf ?_)))))
    refine wpAny_mono (wpAny_call (SlX.run_at (us := [.ref a, .ref b]) (ws := [.ref a, .ref b]) G hr1 I.env0.in1 hx I (.cons rfl (.cons rfl .nil)) q)) (fun w s' z => ?_) fun _ _ x => x
    obtain ⟨z', H', I', rz, c, ei, qz⟩ := z
    subst ei
    cases (show w = Value.bool c from rz)
    exact ⟨c, rfl, wpAny_pure ⟨_, rfl, .bl (!c), H', I', rfl, qz⟩⟩
  show wpAny _ _ (richCompare .NotEq (.ref a) (.ref b)) _ _ s
  unfold richCompare
  simp only [oneThing_ref]
  refine wpAny_holding (wpAny_bind (wpAny_cRoomFor hr.units0 ?_))
  rw [cmpInfo_NotEq]
  dsimp only
  refine wpAny_bind (J.type.here (wpAny_bind (J2.type.here ?_)))
  split
  · rename_i z
    have e : PySem.W.subIn X.K (.ref C') (.ref C) = some false := by
      rcases Bool.or_eq_true_iff.mp hn with e | e
      · rw [beq_iff_eq.mp e] at z; simp at z
      · exact beq_iff_eq.mp e
    refine wpAny_bind ((PySem.W.looks_subIn I.kIn e).here ?_)
    simp only [Bool.false_eq_true, if_false]
    refine wpAny_bind (wpAny_mono one (fun r s' z => ?_) fun _ _ e => e)
    obtain ⟨v, rfl, hq⟩ := z
    exact wpAny_pure hq
  · refine wpAny_bind (wpAny_pure ?_)
    simp only [Bool.false_eq_true, if_false]
    refine wpAny_bind (wpAny_mono one (fun r s' z => ?_) fun _ _ e => e)
    obtain ⟨v, rfl, hq⟩ := z
    exact wpAny_pure hq
/-- ~x -/
def rInvI (C : Addr) (sp : Sp) (E : XK) : V → Hp → VK → Prop := fun x H Q => ∃ a dx fs, x = .ref a ∧ H a = some (.ins C dx fs) ∧ sp [x] H Q E
theorem un_invI (hs : PySem.W.findIn X.K (.ref C) "__invert__" = some (some (.ref g))) (hf : PySem.W.isFn X.K (.ref g) = true) (G : FnR X.prog X.w X.K X.mg X.base CX k g sp) (hr : Room k X.A) (hx : Passes CX X E) : UnR X (unaryOp .Invert) (rInvI C sp E) := by
  intro pins s σ H x v Q I rx h
  obtain ⟨a, dx, fs, rfl, ha, q⟩ := h
  cases (show v = Value.ref a from rx)
  obtain ⟨mA, O, _⟩ := ins_get I.hok ha
  obtain ⟨od, J, _⟩ := O.look
  obtain ⟨m, hF⟩ := I.fr
  exact PySem.W.ksp_inv hF I.ok.mod.kin J hs hf (wpAny_call (SlX.run_at (us := [.ref a]) (ws := [.ref a]) G hr I.env0 hx I (.cons rfl .nil) q))
end
/-- x op y, y of the same class; what it raises is wished for at the slots -/
def tBinO (C : Addr) (sp : Sp) (E : L2.St → XK) (ta tb : TE) : TE := fun σ H Q => ta σ H fun x H1 => tb σ H1 fun y H2 => ∃ a dx fs b dy gs, x = .ref a ∧ y = .ref b ∧ H2 a = some (.ins C dx fs) ∧ H2 b = some (.ins C dy gs) ∧ sp [x, y] H2 Q (E σ)
section
variable {X : Cx} {CX : CXT} {k : Nat} {g C : Addr} {fd : FuncData} {ps : List Str} {sp : Sp} {E : L2.St → XK} {pos : Pos} {e f : Expr} {ta tb : TE} {op : Operator}
theorem pe_binO (hc : PySem.W.selfFirst X.K C = true) (hs : PySem.W.findIn X.K (.ref C) (PySem.dunder op.info.2) = some (some (.ref g))) (hf : PySem.W.isFn X.K (.ref g) = true) (G : FnOk X.prog X.w X.K X.mg X.base CX k g fd ps sp) (hr : Room k X.A) (hb : Binds X.K fd ps [])
    (hx : ∀ σ, PassesAt CX X σ (E σ)) (he : PE X e ta) (hg : PE X f tb) : PE X (.BinOp e op f pos) (tBinO C sp E ta tb) := by
  refine ⟨fun pins s σ H Q I h => ?_⟩
  refine wpAny_BinOp (binT he hg (R := fun x y H2 => ∃ a dx fs b dy gs, x = .ref a ∧ y = .ref b ∧ H2 a = some (.ins C dx fs) ∧ H2 b = some (.ins C dy gs) ∧ sp [x, y] H2 Q (E σ)) I h fun v u s2 x y H2 I2 rx ry q => ?_)
  obtain ⟨a, dx, fs, b, dy, gs, rfl, rfl, ha, hbb, q⟩ := q
  cases (show v = Value.ref a from rx)
  cases (show u = Value.ref b from ry)
  obtain ⟨mA, O, _⟩ := ins_get I2.hok ha
  obtain ⟨od, J, _⟩ := O.look
  obtain ⟨mB, O2, _⟩ := ins_get I2.hok hbb
  obtain ⟨od2, J2, _⟩ := O2.look
  obtain ⟨m, hF⟩ := I2.fr
  refine PySem.W.binop_K hF I2.ok.mod.kin J J2.type hc hs hf ?_
  refine wpAny_mono (run_fnS (us := [.ref a, .ref b]) (vs := [.ref a, .ref b]) G hr hb (hx σ) I2 (.cons rfl (.cons rfl .nil)) q) (fun w s1 z => ?_) fun _ _ z => z
  obtain ⟨z1, H1, I1, rz, qz⟩ := z
  exact SlX.cmpback rz ⟨z1, H1, I1, rz, qz⟩
end
end Vk
set_option Elab.async false
set_option linter.all false
set_option maxRecDepth 100000
set_option maxHeartbeats 4000000
namespace Vk
open PySem PySem.Spec PyProof.Rows L2
/-! X38: f(e, ..), where the name f holds an own class -/
def tMakeV (C : Addr) (sp : Sp) (dvs : List V) (E : XK) (tf : TE) (t : TA) : TE := fun σ H Q => tf σ H fun v H0 => v = .ref C ∧ tMake C sp dvs E t σ H0 Q
theorem pe_makeV {X : Cx} {CX : CXT} {k : Nat} {f C : Addr} {fd : FuncData} {ps : List Str} {sp : Sp} {dvs : List V} {ds : List Value} {E : XK} {x : Str} {p pos : Pos} {e : Expr} {es : List Expr} {t : TA} {tf : TE} (hn : PE X (.Name x p) tf) (M : Mk X.K C f) (F : FnOk X.prog X.w X.K X.mg X.base CX k f fd ps sp) (hr : Room (k + 1) X.A) (hb : Binds X.K fd ps ds) (hd : Vals dvs ds) (hx : Passes CX X E)
    (ha : PA X (e :: es) t) (he : starEach (e :: es) X.env = (false, eval e X.env) :: starEach es X.env := by rfl) (hpl : (backTo pos (starEach es X.env)).any (·.1) = false := by rfl) :
    PE X (.Call (.Name x p) (e :: es) [] pos) (tMakeV C sp dvs E tf t) := by
  refine ⟨fun pins s σ H Q I h => ?_⟩
  refine wpAny_Call_Name_kw (thn (hn.run pins s σ H _ I h) fun u s0 hh => ?_)
  obtain ⟨v, H0, I0, rv, rfl, q0⟩ := hh
  obtain rfl : u = Value.ref C := rv
  refine PySem.W.callWith_K (h₀ := X.base) I0.ok.mod.kin M.kp (thn (ha.run pos pins s0 σ H0 _ I0 q0) fun us s1 ⟨vs, H1, I1, r, q⟩ => ⟨I1.kIn, ?_⟩) he hpl
  exact run_make M F hr hb hd hx I1 r q
end Vk
set_option Elab.async false
set_option linter.all false
set_option maxRecDepth 100000
set_option maxHeartbeats 4000000
namespace Vk
open PySem PySem.Spec PyProof.Rows L2
/-! X39: an own error without arguments -/
theorem pmk_bare {X : Cx} {C : Addr} {bmB : List Value} {B newId initId : String} {x : Str} {p pos : Pos} (F : ExcBaseFacts B newId initId bmB) (q : PySem.W.excIn X.K C bmB newId = true) (gC : X.mg x = some (.ref C)) (kC : PySem.W.keepIn X.K (.ref C) = true) (r : Raises X (.ref C)) (hg : Gl X x)
    (hdb : (x == ("__debug__" : Str)) = false := by decide) : PMk X (.Call (.Name x p) [] [] pos) (fun _ H Q => Q (.ref C) none H) := by
  intro pins s σ H Q I h
  refine wpAny_Call_Name_kw (ld_glob I hg gC ?_ hdb)
  refine PySem.W.callWith_K0 I.kIn kC ?_
  obtain ⟨bm, N, nm, qn, bs, hdct, sn, sub, ab, col, dd, k0, k1, k2, k3, k5, mN, hC, hN, hni, T⟩ := exc_obj I.kIn q
  refine wpAny_call_exc_subT F T hC hN hni (fun h' e hm => ?_) (by show 0 ≤ sizeLine; exact Nat.zero_le _)
  exact mk_of I hm r h (I.hok.gone hm.new)
end Vk
set_option Elab.async false
set_option linter.all false
set_option maxRecDepth 100000
set_option maxHeartbeats 4000000
/-! sorted(text): the signs of a text in order; list(text) -/
namespace Vk
open PySem PySem.Spec PyProof.Rows L2
def signsOf (z : Str) : List Str := z.cps.toList.map fun c => (⟨#[c]⟩ : Str)
theorem signs_strs {z : Str} {acc : Array Value} (h : ItemsOf (SignAt z) acc z.cps.size) : StrsAre acc.toList (signsOf z) := by
  have hsz : acc.size = z.cps.size := h.1
  have hL : acc.toList.length = (signsOf z).length := by
    rw [Array.length_toList, hsz]
    unfold signsOf
    rw [List.length_map, Array.length_toList]
  refine strs_at hL fun j v e => ?_
  have e1 : acc[j]? = some v := by rw [← Array.getElem?_toList]; exact e
  obtain ⟨c, u, hc, ev⟩ := h.2 j v e1
  refine ⟨⟨#[c]⟩, u, ?_, ev⟩
  unfold signsOf
  rw [List.getElem?_map, Array.getElem?_toList, hc]
  rfl
section
variable {X : Cx}
def rSortT : List V → Hp → VK → Prop := fun vs H Q => ∃ z : Str, vs = [.str z] ∧ z.length < 64 ∧
  ∀ ys p, ys.Perm (signsOf z) → sortedS ys = true → H p = none → Q (.ref p) (upd H p (.lst (ys.map V.str)))
theorem cr_sortT (hcalm : X.calm = true) : CallR X (.builtin "sorted") rSortT := by
  intro pins s σ H xs us Q I r q
  obtain ⟨z, ex, h64, q⟩ := q
  subst ex
  obtain ⟨u, eu, rx⟩ := vals1 r
  subst eu
  obtain ⟨t, rfl⟩ := rx
  have hz2 : z.cps.size < 64 := h64
  refine Calls.call_function_entry PyProof.Rows.kind_sorted PyProof.Rows.plain_sorted PyProof.Rows.entry_sorted (PyProof.Rows.args_sorted1 _) ?_
  unfold Builtin.«sorted»
  refine wpAny_bind (m := checkCount "sorted" 1 1 _) (wpAny_pure ?_)
  refine wpAny_bind (wpAny_collect_str (A := X.A.in1) (I.ok.hd hcalm) z t (fun s1 acc hk hg hd ho hacc => ?_) (by rw [sizeLine_eq]; omega))
  obtain ⟨h1, g1, d1, tk1, os1⟩ := s1
  have eg : g1 = s.gens := hg
  have ed : d1 = s.drawn := hd
  have eo : os1 = s.os := ho
  subst eg; subst ed; subst eo
  have hS := signs_strs hacc
  have hal : acc.toList.length = z.cps.size := by rw [Array.length_toList]; exact hacc.1
  have I1 : Inv X pins σ H { s with heap := h1, toks := tk1 } := I.kept hk
  refine wpAny_bind (wpAny_newList ?_ (by rw [hal, sizeLine_eq]; omega))
  have hoL : (h1.push (seqObj "list" acc.toList.toArray 0)).get? h1.objs.size = some (seqObj "list" acc.toList.toArray 0) := Heap.get?_push_size _ rfl
  show wpAny _ _ _ _ _ { s with heap := h1.push (seqObj "list" acc.toList.toArray 0), toks := tk1 }
  refine wpAny_bind (wpAny_holding (wpAny_call_entry PyProof.Rows.slot_list_sort ⟨_, hoL, rfl⟩ PyProof.Rows.entry_list_sort
    (list_sort_treeK strKind_oneLt (s := { s with heap := h1.push (seqObj "list" acc.toList.toArray 0), toks := tk1 }) hoL hS.keysOf (fun v₁ v₂ more e => keyKind_strs (by rw [← e]; exact hS)) (by rw [hal]; exact hz2) fun st2 hp hs => ⟨_, rfl, ?_⟩)
    (PyProof.Rows.args_list_sort _)))
  obtain ⟨ys, g1, g2, g3⟩ := sorted_out_str hS hp hs
  obtain ⟨e', he'⟩ := PyProof.Rows.sortedHeap_at (vs := acc.toList) (out := (arrOf st2).map (·.2)) hoL
  have hlen : (ys.map V.str).length ≤ sizeLine := by
    rw [List.length_map, g2.length_eq]
    unfold signsOf
    rw [List.length_map, Array.length_toList, sizeLine_eq]
    omega
  refine wpAny_pure ⟨_, rfl, .ref h1.objs.size, upd H h1.objs.size (.lst (ys.map V.str)), I1.laid (t' := tk1) (fun b u e => ?_) (Nat.le_refl _)
    (show ObjOk X.prog X.w _ _ _ (.lst (ys.map V.str)) from ⟨hlen, ((arrOf st2).map (·.2)).toList, e', vals_of_strs g1, by rw [Array.toArray_toList]; exact he'⟩), rfl, q ys _ g2 g3 (I1.hok.fresh (Nat.le_refl _))⟩
  have hb : b < h1.objs.size := Heap.lt_size e
  rw [PyProof.Rows.sortedHeap_old (Nat.ne_of_lt hb) (by rw [size_push']; exact Nat.lt_succ_of_lt hb)]
  exact Heap.get?_push_of_some _ e
/-- list(x), x a text -/
def rListT : List V → Hp → VK → Prop := fun vs H Q => ∃ z : Str, vs = [.str z] ∧ z.length ≤ 4000 ∧ ∀ p, H p = none → Q (.ref p) (upd H p (.lst ((signsOf z).map V.str)))
end
/-! sorted texts: two arrangements of the same texts are one -/
theorem lt_irr (a : List Nat) : ltCps a a = false := by
  rw [ltCps_eq]
  exact decide_eq_false (List.lt_irrefl a)
end Vk
set_option Elab.async false
set_option linter.all false
set_option maxRecDepth 100000
set_option maxHeartbeats 1000000
/-! texts as lists of codes; comprehensions over a text -/
namespace Vk
open PySem PySem.Spec PyProof.Rows L2
/-- the text of these codes -/
def S (l : List Nat) : Str := ⟨l.toArray⟩
theorem S_of (z : Str) : z = S z.cps.toList := by
  obtain ⟨a⟩ := z
  simp [S]
theorem S_len (l : List Nat) : (S l).length = l.length := by
  show l.toArray.size = l.length
  simp
theorem S_cps (l : List Nat) : (S l).cps.toList = l := by simp [S]
theorem S_size (l : List Nat) : (S l).cps.size = l.length := S_len l
theorem S_inj {a b : List Nat} : S a = S b ↔ a = b := by
  constructor
  · intro h
    have := congrArg (fun z : Str => z.cps.toList) h
    simpa [S] using this
  · rintro rfl
    rfl
theorem S_one (c : Nat) : (⟨#[c]⟩ : Str) = S [c] := rfl
theorem S_app (a b : List Nat) : S a ++ S b = S (a ++ b) := by
  show (⟨a.toArray ++ b.toArray⟩ : Str) = ⟨(a ++ b).toArray⟩
  simp
theorem S_get {l : List Nat} {i c : Nat} : (S l).cps[i]? = some c ↔ l[i]? = some c := by
  show l.toArray[i]? = some c ↔ _
  simp
theorem signs_S (l : List Nat) : signsOf (S l) = l.map fun c => S [c] := by
  unfold signsOf
  rw [S_cps]
  rfl
theorem S_cut (l : List Nat) (lo hi : Option Int) : cutS (S l) lo hi = S ((l.drop (HT.sIx l.length 0 lo)).take (HT.sIx l.length l.length hi - HT.sIx l.length 0 lo)) := by
  unfold cutS
  rw [S_cps, S_len]
  rfl
theorem S_to (l : List Nat) (k : Nat) : cutS (S l) none (some (k : Int)) = S (l.take k) := by
  rw [S_cut, HT.sIx_none, HT.sIx_nat, List.drop_zero, Nat.sub_zero]
  congr 1
  rw [← List.take_take, List.take_length]
theorem S_from (l : List Nat) (k : Nat) : cutS (S l) (some (k : Int)) none = S (l.drop k) := by
  rw [S_cut, HT.sIx_none, HT.sIx_nat]
  congr 1
  by_cases h : k ≤ l.length
  · rw [Nat.min_eq_left h]
    exact List.take_of_length_le (by rw [List.length_drop]; exact Nat.le_refl _)
  · rw [Nat.min_eq_right (by omega), Nat.sub_self, List.take_zero, List.drop_eq_nil_of_le (by omega)]
/-- what join does of single signs -/
theorem join_signs : ∀ l : List Nat, Txt.join (S []) (l.map fun c => S [c]) = S l := by
  have key : ∀ l : List Nat, Str.join (S []) (l.map fun c => S [c]) = S l := by
    intro l
    induction l with
    | nil => rfl
    | cons c r ih =>
      cases r with
      | nil => rfl
      | cons d r =>
        show S [c] ++ S [] ++ Str.join (S []) ((d :: r).map fun c => S [c]) = _
        rw [ih, S_app, S_app]
        rfl
  intro l
  exact (PySem.StrLaws.glued_eq_join _ _).trans (key l)
/-! sorted -/
def srtL (l : List Nat) : List Nat := l.mergeSort fun a b => decide (a ≤ b)
theorem srtL_perm (l : List Nat) : (srtL l).Perm l := List.mergeSort_perm _ _
theorem srtL_le (l : List Nat) : (srtL l).Pairwise (· ≤ ·) := by
  have h := List.pairwise_mergeSort (le := fun a b : Nat => decide (a ≤ b)) (by simp; omega) (by simp; omega) l
  exact h.imp fun h => by simpa using h
theorem srtL_len (l : List Nat) : (srtL l).length = l.length := (srtL_perm l).length_eq
theorem srtL_mem {l : List Nat} {c : Nat} : c ∈ srtL l ↔ c ∈ l := (srtL_perm l).mem_iff
theorem srtL_nodup {l : List Nat} : (srtL l).Nodup ↔ l.Nodup := (srtL_perm l).nodup_iff
theorem srt_eq {a b : List Nat} (p : a.Perm b) (ha : a.Pairwise (· ≤ ·)) : a = srtL b :=
  List.Perm.eq_of_pairwise (le := (· ≤ ·)) (fun x y _ _ h1 h2 => Nat.le_antisymm h1 h2) ha (srtL_le b) (p.trans (srtL_perm b).symm)
theorem srtL_congr {a b : List Nat} : srtL a = srtL b ↔ a.Perm b := by
  constructor
  · intro h
    exact (srtL_perm a).symm.trans (h ▸ srtL_perm b)
  · intro p
    exact srt_eq ((srtL_perm a).trans p) (srtL_le a)
theorem rising_le : ∀ (c : Nat) (l : List Nat), risingS (S [c]) (l.map fun c => S [c]) = true → (c :: l).Pairwise (· ≤ ·)
  | c, [], _ => by simp
  | c, d :: l, h => by
    have h' : (!ltCps (S [d]).cps.toList (S [c]).cps.toList && risingS (S [d]) (l.map fun c => S [c])) = true := h
    obtain ⟨h1, h2⟩ := Bool.and_eq_true_iff.mp h'
    have ih := rising_le d l h2
    have hcd : c ≤ d := by
      rw [ltCps_eq] at h1
      simp [S] at h1
      exact Nat.le_of_not_lt fun z => of_decide_eq_false h1 (List.Lex.rel z)
    rw [List.pairwise_cons]
    refine ⟨fun x hx => ?_, ih⟩
    rcases List.mem_cons.mp hx with rfl | hx
    · exact hcd
    · exact Nat.le_trans hcd ((List.pairwise_cons.mp ih).1 x hx)
theorem sorted_signs {l : List Nat} {ys : List Str} (p : ys.Perm (l.map fun c => S [c])) (h : sortedS ys = true) : ys = (srtL l).map fun c => S [c] := by
  have hq : ∃ zs : List Nat, ys = zs.map fun c => S [c] := by
    refine ⟨ys.map fun z => z.cps.toList.headD 0, ?_⟩
    rw [List.map_map]
    refine (List.map_id ys).symm.trans (List.map_congr_left fun y hy => ?_)
    obtain ⟨c, _, rfl⟩ := List.mem_map.mp (p.mem_iff.mp hy)
    simp [S]
  obtain ⟨zs, rfl⟩ := hq
  have hp : zs.Perm l := by
    have q := p.map fun z : Str => z.cps.toList.headD 0
    rw [List.map_map, List.map_map] at q
    have e : ∀ l : List Nat, l.map ((fun z : Str => z.cps.toList.headD 0) ∘ fun c => S [c]) = l := fun l => (List.map_congr_left fun c _ => by simp [S]).trans (List.map_id l)
    rw [e, e] at q
    exact q
  have hs : zs.Pairwise (· ≤ ·) := by
    cases zs with
    | nil => exact .nil
    | cons c r => exact rising_le c r h
  rw [srt_eq hp hs]
/-! a comprehension over a text -/
theorem lc_text {l : List Nat} {j : Nat} {tt : TT} {te : TE} {vs : List Nat} {σ : L2.St} {H1 : Hp} {D : Addr} {Qd : Hp → Prop} (p : Nat → Bool) (v : Nat → V) (hl : l.length ≤ 4000)
    (hw : ∀ x, wipe ((wipe σ vs).set j (some x)) vs = wipe σ vs)
    (ht : ∀ c ∈ l, ∀ (H2 : Hp) (Q : Bool → Hp → Prop), (∀ b, b ≠ D → H2 b = H1 b) → Q (p c) H2 → tt ((wipe σ vs).set j (some (.str (S [c])))) H2 Q)
    (he : ∀ c ∈ l, p c = true → ∀ (H2 : Hp) (Q : VK), (∀ b, b ≠ D → H2 b = H1 b) → Q (v c) H2 → te ((wipe σ vs).set j (some (.str (S [c])))) H2 Q)
    (hq : Qd (upd H1 D (.lst ((l.filter p).map v)))) :
    ∃ W : Nat → Nat → Hp → Prop, (∃ m, W 0 m (upd H1 D (.lst []))) ∧ ∀ i m H, W i m H →
      ((Its (S l)).stop i H ∧ Qd H) ∨ ((Its (S l)).go i H ∧ ∃ Nx : Hp → Prop, (∀ H', Nx H' → ∃ m', m' < m ∧ W (i + 1) m' H') ∧ ∀ x H', (Its (S l)).yld i H x H' → gName j x (wipe σ vs) H' fun σ2 H2 => wipe σ2 vs = wipe σ vs ∧ tt σ2 H2 fun b H3 =>
        if b = true then te σ2 H3 fun y H4 => ∃ acc, H4 D = some (.lst acc) ∧ acc.length < sizeLine ∧ Nx (upd H4 D (.lst (acc ++ [y]))) else Nx H3) := by
  have hz : (S l).cps.size = l.length := S_size l
  refine lc_it walk_str (fun i H => H = upd H1 D (.lst (((l.take i).filter p).map v))) rfl (fun _ _ _ _ => trivial) ?_ ?_
  · rintro i x H H' hi hP ⟨rfl, c, hc, rfl⟩
    subst hP
    have hc2 : l[i]? = some c := S_get.mp hc
    have hm : c ∈ l := List.mem_of_getElem? hc2
    have off : ∀ b, b ≠ D → (upd H1 D (.lst (((l.take i).filter p).map v))) b = H1 b := fun b hb => upd_ne hb
    have e1 : l.take (i + 1) = l.take i ++ [c] := by
      rw [List.take_add_one, hc2]
      rfl
    refine ⟨hw _, ht c hm _ _ off ?_⟩
    by_cases hp : p c = true
    · rw [if_pos hp]
      refine he c hm hp _ _ off ⟨_, upd_same, ?_, ?_⟩
      · rw [List.length_map, sizeLine_eq]
        have h1 := List.length_filter_le p (l.take i)
        rw [List.length_take] at h1
        omega
      · rw [upd_upd, e1, List.filter_append, List.filter_cons_of_pos hp, List.filter_nil, List.map_append]
        rfl
    · rw [if_neg hp, e1, List.filter_append, List.filter_cons_of_neg hp, List.filter_nil, List.append_nil]
  · rintro H rfl
    rw [hz, List.take_length]
    exact hq
end Vk
set_option Elab.async false
set_option linter.all false
set_option maxRecDepth 100000
set_option maxHeartbeats 4000000
namespace Vk
open PySem PySem.Spec PyProof.Rows L2
/-! V0: the readings, one step each, said the way a walk uses them -/
section
variable {D : Ends} {σ : L2.St} {H : Hp} {t u : TS} {te ta tb : TE} {c : TT} {Q : VK} {K : PySem.W.Frag}
theorem iSeq (h : t { nx := u D, rt := D.rt, bk := D.bk, ct := D.ct } σ H) : tSeq t u D σ H := h
theorem iNext (h : D.nx σ H) : tNext D σ H := h
theorem iBreak (h : D.bk σ H) : tBreak D σ H := h
theorem iCont (h : D.ct σ H) : tCont D σ H := h
theorem iDrop (h : te σ H fun _ H1 => D.nx σ H1) : tDrop te D σ H := h
theorem iRet (h : te σ H D.rt) : tRet te D σ H := h
theorem iRetN (h : D.rt .non H) : tRetN D σ H := h
theorem iIfS (h : c σ H fun b H1 => if b = true then t D σ H1 else u D σ H1) : tIfS c t u D σ H := h
theorem iAsg {g : TG} (h : te σ H fun x H1 => g x σ H1 D.nx) : tAsg te g D σ H := h
theorem iName {i : Nat} {v : V} {Q : L2.St → Hp → Prop} (h : Q (σ.set i (some v)) H) : gName i v σ H Q := h
theorem iSub {to ti : TE} {tt : TSet} {v : V} {Q : L2.St → Hp → Prop} (h : to σ H fun o H1 => ti σ H1 fun i H2 => tt o i v H2 fun H3 => Q σ H3) : gSub to ti tt v σ H Q := h
theorem iVar {i : Nat} {v : V} (e : σ[i]? = some (some v)) (h : Q v H) : tVar i σ H Q := ⟨v, e, h⟩
theorem iC {v : V} (h : Q v H) : tC v σ H Q := h
theorem iOp {r : R2} (h : ta σ H fun x H1 => tb σ H1 fun y H2 => r x y H2 Q) : tOp r ta tb σ H Q := h
theorem iUn {r : V → Hp → VK → Prop} (h : ta σ H fun x H1 => r x H1 Q) : tUn r ta σ H Q := h
theorem iI0 {g : Int → Int → V} {i j : Int} (h : Q (g i j) H) : rI0 g (.int i) (.int j) H Q := ⟨i, j, rfl, rfl, h⟩
theorem iI {C : Int → Int → Prop} {g : Int → Int → V} {i j : Int} (hc : C i j) (h : Q (g i j) H) : rI C g (.int i) (.int j) H Q := ⟨i, j, rfl, rfl, hc, h⟩
theorem iU {g : Int → V} {i : Int} (h : Q (g i) H) : rU g (.int i) H Q := ⟨i, rfl, h⟩
theorem iEq {x y : V} (hs : scal x y = true) (h : Q (.bl (decide (x = y))) H) : rEq x y H Q := ⟨hs, h⟩
theorem iNe {x y : V} (hs : scal x y = true) (h : Q (.bl (!decide (x = y))) H) : rNe x y H Q := ⟨hs, h⟩
theorem iB {Q : Bool → Hp → Prop} (h : te σ H fun x H1 => ∃ c, x = .bl c ∧ Q c H1) : tB te σ H Q := h
theorem iTest {Q : Bool → Hp → Prop} (h : te σ H fun x H1 => ∃ c, x = .bl c ∧ Q c H1) : tTest te σ H Q := h
theorem iAnd {t u : TT} {Q : Bool → Hp → Prop} (h : t σ H fun c H1 => if c = true then u σ H1 Q else Q false H1) : tAnd t u σ H Q := h
theorem iOr {t u : TT} {Q : Bool → Hp → Prop} (h : t σ H fun c H1 => if c = true then Q true H1 else u σ H1 Q) : tOr t u σ H Q := h
theorem iNot {t : TT} {Q : Bool → Hp → Prop} (h : t σ H fun c H1 => Q (!c) H1) : tNot t σ H Q := h
theorem iAndV (h : ta σ H fun x H1 => ∃ c, x = .bl c ∧ if c = true then tb σ H1 Q else Q (.bl false) H1) : tAndV ta tb σ H Q := h
theorem iOrV (h : ta σ H fun x H1 => ∃ c, x = .bl c ∧ if c = true then Q (.bl true) H1 else tb σ H1 Q) : tOrV ta tb σ H Q := h
theorem iNotV (h : ta σ H fun x H1 => ∃ c, x = .bl c ∧ Q (.bl (!c)) H1) : tNotV ta σ H Q := h
theorem iIfE (h : c σ H fun b H1 => if b = true then ta σ H1 Q else tb σ H1 Q) : tIf c ta tb σ H Q := h
theorem iNil {Q : List V → Hp → Prop} (h : Q [] H) : tNil σ H Q := h
theorem iCons {tr : TA} {Q : List V → Hp → Prop} (h : ta σ H fun x H1 => tr σ H1 fun xs H2 => Q (x :: xs) H2) : tCons ta tr σ H Q := h
theorem iTup {ts : TA} (h : ts σ H fun xs H1 => xs.length ≤ sizeLine ∧ ∀ p, H1 p = none → Q (.ref p) (upd H1 p (.tup xs))) : tTup ts σ H Q := h
theorem iLst {ts : TA} (h : ts σ H fun xs H1 => xs.length ≤ sizeLine ∧ ∀ p, H1 p = none → Q (.ref p) (upd H1 p (.lst xs))) : tLst ts σ H Q := h
theorem iCB {r : List V → Hp → VK → Prop} {ts : TA} (h : ts σ H fun vs H1 => r vs H1 Q) : tCB r ts σ H Q := h
theorem iCall {sp : Sp} {dvs : List V} {E : XK} {ts : TA} (h : ts σ H fun vs H1 => sp (vs ++ dvs) H1 Q E) : tCall sp dvs E ts σ H Q := h
theorem iFld {f : Str} (h : ta σ H fun x H1 => ∃ a C dx fs v, x = .ref a ∧ H1 a = some (.ins C dx fs) ∧ Cls K C ∧ NoAttr K C f ∧ fs.lookup f = some v ∧ Q v H1) : tFld K ta f σ H Q := h
theorem iM1 {r : V → List V → Hp → VK → Prop} {to : TE} (h : to σ H fun x H1 => (∃ a, x = .str a) ∧ te σ H1 fun y H2 => r x [y] H2 Q) : tM1 r to te σ H Q := h
theorem iBM {T : String} {r : V → List V → Hp → VK → Prop} {to : TE} {ts : TA} (h : to σ H fun x H1 => tyV K T x H1 ∧ ts σ H1 fun xs H2 => r x xs H2 Q) : tBM K T r to ts σ H Q := h
theorem iSl {r : V → Option Int → Option Int → Hp → VK → Prop} {tl th : TO} (h : te σ H fun x H1 => tl σ H1 fun l H2 => th σ H2 fun u H3 => r x l u H3 Q) : tSl r te tl th σ H Q := h
theorem iIxL {p : Addr} {xs : List V} {i : Int} {v : V} (hq : SqL K H p xs) (e : atI xs i = some v) (h : Q v H) : rIxL K (.ref p) (.int i) H Q := ⟨p, xs, i, v, rfl, rfl, hq, e, h⟩
theorem iIxT {p : Addr} {xs : List V} {i : Int} {v : V} (hq : SqT K H p xs) (e : atI xs i = some v) (h : Q v H) : rIxT K (.ref p) (.int i) H Q := ⟨p, xs, i, v, rfl, rfl, hq, e, h⟩
theorem iIxS {l : List Nat} {i : Int} {c : Nat} (hz : l.length ≤ 100000) (e : atI l i = some c) (h : Q (.str (S [c])) H) : rIxS (.str (S l)) (.int i) H Q :=
  ⟨S l, i, c, rfl, rfl, (by rw [S_len, sizeLine_eq]; omega), (by rw [S_cps]; exact e), h⟩
theorem iSlS {l : List Nat} {lo hi : Option Int} (hz : l.length ≤ 100000) (h : Q (.str (cutS (S l) lo hi)) H) : rSlS (.str (S l)) lo hi H Q :=
  ⟨S l, rfl, (by rw [S_len, sizeLine_eq]; omega), h⟩
theorem iBd {P : Prop} [Decidable P] {A B : Prop} (h1 : P → A) (h2 : ¬ P → B) : if decide P = true then A else B := ite2 (fun h => h1 (of_decide_eq_true h)) fun h => h2 fun p => h (decide_eq_true p)
theorem iBnd {P : Prop} [Decidable P] {A B : Prop} (h1 : ¬ P → A) (h2 : P → B) : if (!decide P) = true then A else B := ite2 (fun h => h1 (by simpa using h)) fun h => h2 (by simpa using h)
theorem iBb {b : Bool} {A B : Prop} (h1 : b = true → A) (h2 : b = false → B) : if b = true then A else B := ite2 h1 fun h => h2 (by simpa using h)
theorem iBbn {b : Bool} {A B : Prop} (h1 : b = false → A) (h2 : b = true → B) : if (!b) = true then A else B := ite2 (fun h => h1 (by simpa using h)) fun h => h2 (by simpa using h)
theorem iTT {A B : Prop} (h : A) : if true = true then A else B := iteT h
theorem iFF {A B : Prop} (h : B) : if false = true then A else B := iteF h
theorem iNTT {A B : Prop} (h : B) : if (!true) = true then A else B := iteF h
theorem iNFF {A B : Prop} (h : A) : if (!false) = true then A else B := iteT h
theorem iEx {α : Sort _} {p : α → Prop} (w : α) (h : p w) : ∃ x, p x := ⟨w, h⟩
theorem iSetL {p : Addr} {xs ys : List V} {i : Int} {j : Nat} {v : V} {Q : Hp → Prop} (h : H p = some (.lst xs)) (hj : ixN xs.length i = some j) (e : xs.set j v = ys) (k : Q (upd H p (.lst ys))) : rSetL (.ref p) (.int i) v H Q :=
  ⟨p, xs, i, j, rfl, rfl, h, hj, (by rw [e]; exact k)⟩
theorem iNoPart {Q : Option Int → Hp → Prop} (h : Q none H) : tNoPart σ H Q := h
theorem iPart {Q : Option Int → Hp → Prop} (h : te σ H fun x H1 => ∃ i, x = .int i ∧ Q (some i) H1) : tPart te σ H Q := h
theorem pe_strS {X : Cx} {x : Str} {l : List Nat} {j : Nat} {pos : Pos} (h : x = S l) : PE X (.Constant (.str x) j pos) (tC (.str (S l))) := h ▸ pe_str
theorem iSFld {tv : TE} {f : Str} (h : tv σ H fun y H1 => ta σ H1 fun x H2 => ∃ a C dx fs, x = .ref a ∧ H2 a = some (.ins C dx fs) ∧ Cls K C ∧ NoAttr K C f ∧ fs.length < 1000 ∧ D.nx σ (upd H2 a (.ins C dx (putF f y fs)))) : sFld K ta tv f D σ H := h
theorem eSFld {a C dx : Addr} {fs fs' : List (Str × V)} {f : Str} {y : V} (e1 : H a = some (.ins C dx fs)) (c : Cls K C) (n : NoAttr K C f) (hl : fs.length < 1000) (ep : putF f y fs = fs') (h : D.nx σ (upd H a (.ins C dx fs'))) :
    ∃ (b C dx : Addr) (gs : List (Str × V)), V.ref a = .ref b ∧ H b = some (.ins C dx gs) ∧ Cls K C ∧ NoAttr K C f ∧ gs.length < 1000 ∧ D.nx σ (upd H b (.ins C dx (putF f y gs))) := ⟨a, C, dx, fs, rfl, e1, c, n, hl, by rw [ep]; exact h⟩
theorem iCon {f : Str} (h : ta σ H fun x H1 => ∃ a C dx fs v u, x = .ref a ∧ H1 a = some (.ins C dx fs) ∧ Cls K C ∧ Con K C f v u ∧ fs.lookup f = none ∧ Q v H1) : tCon K ta f σ H Q := h
theorem iProp {C : Addr} {sp : Sp} {dvs : List V} {E : XK} (h : ta σ H fun x H1 => ∃ a dx fs, x = .ref a ∧ H1 a = some (.ins C dx fs) ∧ sp (.ref a :: dvs) H1 Q E) : tProp C sp dvs E ta σ H Q := h
theorem iMeth {C : Addr} {m : Str} {sp : Sp} {dvs : List V} {E : XK} {t : TA} (h : ta σ H fun x H1 => ∃ a dx fs, x = .ref a ∧ H1 a = some (.ins C dx fs) ∧ fs.lookup m = none ∧ t σ H1 fun vs H2 => sp (x :: (vs ++ dvs)) H2 Q E) : tMeth C m sp dvs E ta t σ H Q := h
theorem iCall0 {sp : Sp} {E : XK} {ts : TA} (h : ts σ H fun vs H1 => sp vs H1 Q E) : tCall sp [] E ts σ H Q := by
  have e : (fun (vs : List V) (H1 : Hp) => sp (vs ++ []) H1 Q E) = fun vs H1 => sp vs H1 Q E := by
    funext vs H1
    rw [List.append_nil]
  show ts σ H fun vs H1 => sp (vs ++ []) H1 Q E
  rw [e]
  exact h
theorem iMeth0 {C : Addr} {m : Str} {sp : Sp} {E : XK} {t : TA} (h : ta σ H fun x H1 => ∃ a dx fs, x = .ref a ∧ H1 a = some (.ins C dx fs) ∧ fs.lookup m = none ∧ t σ H1 fun vs H2 => sp (x :: vs) H2 Q E) : tMeth C m sp [] E ta t σ H Q := by
  have e : (fun (x : V) (H1 : Hp) => ∃ a dx fs, x = .ref a ∧ H1 a = some (.ins C dx fs) ∧ fs.lookup m = none ∧ t σ H1 fun vs H2 => sp (x :: (vs ++ [])) H2 Q E) = fun x H1 => ∃ a dx fs, x = .ref a ∧ H1 a = some (.ins C dx fs) ∧ fs.lookup m = none ∧ t σ H1 fun vs H2 => sp (x :: vs) H2 Q E := by
    funext x H1
    simp only [List.append_nil]
  show ta σ H fun (x : V) (H1 : Hp) => ∃ a dx fs, x = .ref a ∧ H1 a = some (.ins C dx fs) ∧ fs.lookup m = none ∧ t σ H1 fun vs H2 => sp (x :: (vs ++ [])) H2 Q E
  rw [e]
  exact h
/-- here the walk stands still -/
def Stop (p : Prop) : Prop := p
/-! while, by an invariant -/
def Less (W : Nat → L2.St → Hp → Prop) (m : Nat) : L2.St → Hp → Prop := fun σ' H' => ∃ m', m' < m ∧ W m' σ' H'
def WB (W : Nat → L2.St → Hp → Prop) (m : Nat) (tb : TS) (D : Ends) (b : Bool) (σ : L2.St) (H1 : Hp) : Prop :=
  if b = true then ∃ N : L2.St → Hp → Prop, (∀ σ' H', N σ' H' → ∃ m', m' < m ∧ W m' σ' H') ∧ tb { D with nx := N, ct := N, bk := D.nx } σ H1 else D.nx σ H1
theorem iWT {W : Nat → L2.St → Hp → Prop} {m : Nat} {tb : TS} (h : tb { nx := Less W m, rt := D.rt, bk := D.nx, ct := Less W m } σ H) : WB W m tb D true σ H := iteT ⟨Less W m, fun _ _ z => z, h⟩
theorem iWF {W : Nat → L2.St → Hp → Prop} {m : Nat} {tb : TS} (h : D.nx σ H) : WB W m tb D false σ H := iteF h
theorem iWD {P : Prop} [Decidable P] {W : Nat → L2.St → Hp → Prop} {m : Nat} {tb : TS} (h1 : P → tb { nx := Less W m, rt := D.rt, bk := D.nx, ct := Less W m } σ H) (h2 : ¬ P → D.nx σ H) : WB W m tb D (decide P) σ H := by
  by_cases h : P
  · rw [decide_eq_true h]
    exact iWT (h1 h)
  · rw [decide_eq_false h]
    exact iWF (h2 h)
theorem iWDN {P : Prop} [Decidable P] {W : Nat → L2.St → Hp → Prop} {m : Nat} {tb : TS} (h1 : ¬ P → tb { nx := Less W m, rt := D.rt, bk := D.nx, ct := Less W m } σ H) (h2 : P → D.nx σ H) : WB W m tb D (!decide P) σ H := by
  by_cases h : P
  · rw [decide_eq_true h]
    exact iWF (h2 h)
  · rw [decide_eq_false h]
    exact iWT (h1 h)
theorem while_w {c : TT} {tb : TS} (W : Nat → L2.St → Hp → Prop) (h0 : ∃ m, W m σ H) (hs : ∀ m σ H, W m σ H → c σ H fun b H1 => WB W m tb D b σ H1) : tWhile c tb D σ H := ⟨W, h0, hs⟩
/-! heaps -/
theorem upd_old {p x : Addr} {o u : HO} (hp : H p = none) (h : H x = some u) : upd H p o x = some u := by
  rw [upd_ne (ne_of_none h hp)]
  exact h
theorem upd_oth {p x : Addr} {o u : HO} (hp : x ≠ p) (h : H x = some u) : upd H p o x = some u := by rw [upd_ne hp]; exact h
theorem Same.get {H' : Hp} {x : Addr} {u : HO} (s : Same H H') (h : H x = some u) : H' x = some u := s _ _ h
/-- all but the listed stand as they stood -/
def Fr (L : List Addr) (H H' : Hp) : Prop := ∀ x u, x ∉ L → H x = some u → H' x = some u
theorem Fr.get {H' : Hp} {L : List Addr} {x : Addr} {u : HO} (s : Fr L H H') (hx : x ∉ L) (h : H x = some u) : H' x = some u := s _ _ hx h
theorem Fr.refl (L : List Addr) (H : Hp) : Fr L H H := fun _ _ _ h => h
theorem Fr.trans {L : List Addr} {H H1 H2 : Hp} (a : Fr L H H1) (b : Fr L H1 H2) : Fr L H H2 := fun x u n h => b x u n (a x u n h)
theorem Fr.of_same {L : List Addr} {H H1 : Hp} (a : Same H H1) : Fr L H H1 := fun x u _ h => a x u h
theorem Fr.upd_in {L : List Addr} {H : Hp} {p : Addr} {o : HO} (hp : p ∈ L) : Fr L H (upd H p o) := fun x u n h => upd_oth (fun z => n (z ▸ hp)) h
theorem Fr.upd_new {L : List Addr} {H : Hp} {p : Addr} {o : HO} (hp : H p = none) : Fr L H (upd H p o) := fun x u _ h => upd_old hp h
theorem Fr.mono {L M : List Addr} {H H1 : Hp} (a : Fr L H H1) (h : ∀ x ∈ L, x ∈ M) : Fr M H H1 := fun x u n e => a x u (fun z => n (h x z)) e
theorem Fr.in0 {L : List Addr} {H : Hp} {p : Addr} {o : HO} : Fr (p :: L) H (upd H p o) := Fr.upd_in List.mem_cons_self
theorem Fr.in1 {L : List Addr} {H : Hp} {p q : Addr} {o : HO} : Fr (q :: p :: L) H (upd H p o) := Fr.upd_in (List.mem_cons_of_mem _ List.mem_cons_self)
theorem Fr.in2 {L : List Addr} {H : Hp} {p q r : Addr} {o : HO} : Fr (q :: r :: p :: L) H (upd H p o) := Fr.upd_in (List.mem_cons_of_mem _ (List.mem_cons_of_mem _ List.mem_cons_self))
theorem Fr.wk {L : List Addr} {H H1 : Hp} {p : Addr} (h : Fr L H H1) : Fr (p :: L) H H1 := h.mono fun _ hx => List.mem_cons_of_mem _ hx
theorem Fr.wk1 {H H1 : Hp} {p q : Addr} (h : Fr [p] H H1) : Fr [p, q] H H1 := h.mono fun x hx => by
  rw [List.mem_singleton] at hx
  subst hx
  exact List.mem_cons_self
theorem Same.upd_new {H : Hp} {p : Addr} {o : HO} (hp : H p = none) : Same H (upd H p o) := fun x u h => upd_old hp h
theorem Same.tr {H H1 H2 : Hp} (a : Same H H1) (b : Same H1 H2) : Same H H2 := fun x u h => b x u (a x u h)
theorem Fr.same {H H1 : Hp} (a : Fr [] H H1) : Same H H1 := fun x u h => a x u (List.not_mem_nil) h
theorem Fr.none {L : List Addr} {H H1 : Hp} {x : Addr} (a : Fr L H H1) (hx : x ∉ L) (h : H1 x = none) : H x = none := by
  cases e : H x with
  | none => rfl
  | some u => rw [a x u hx e] at h; cases h
end
end Vk
/-! the walk -/
section
open Vk L2
local macro_rules | `(tactic| walk_at "lk") => `(tactic| first
  | assumption
  | exact upd_same
  | (refine upd_old (by assumption) ?_; walk_at "lk")
  | (refine upd_oth (by first | assumption | (apply Ne.symm; assumption)) ?_; walk_at "lk")
  | (refine Same.get (by assumption) ?_; walk_at "lk"))
example {H : L2.Hp} {a p : PySem.Addr} {o u : L2.HO} (h : H a = some u) (hp : H p = none) : L2.upd H p o a = some u := by walk_at "lk"
end
set_option Elab.async false
set_option linter.all false
set_option maxRecDepth 100000
set_option maxHeartbeats 4000000
namespace Vk
open PySem PySem.Spec PyProof.Rows L2
/-! V1: texts as lists of signs -/
theorem S_le {l : List Nat} (h : l.length ≤ 100000) : (S l).length ≤ sizeLine := by rw [S_len, sizeLine_eq]; omega
def rAddS : R2 := fun x y H Q => ∃ a b : List Nat, x = .str (S a) ∧ y = .str (S b) ∧ a.length + b.length ≤ 100000 ∧ Q (.str (S (a ++ b))) H
theorem op_addS {X : Cx} : OpR X (binaryOp .Add) rAddS := by
  intro pins s σ H x y v u Q I rx ry h
  obtain ⟨a, b, rfl, rfl, hz, q⟩ := h
  refine op_add_str pins s σ H _ _ v u Q I rx ry ⟨S a, S b, rfl, rfl, ?_, ?_⟩
  · rw [S_len, S_len, sizeLine_eq]; omega
  · rw [S_app]; exact q
def rLenS1 : List V → Hp → VK → Prop := fun xs H Q => ∃ l : List Nat, xs = [.str (S l)] ∧ l.length ≤ 100000 ∧ Q (.int (l.length : Nat)) H
theorem call_lenS {X : Cx} : CallR X (.builtin "len") rLenS1 := by
  intro pins s σ H xs us Q I r h
  obtain ⟨l, rfl, hz, q⟩ := h
  refine call_len_str pins s σ H _ us Q I r ⟨S l, rfl, S_le hz, ?_⟩
  rw [S_len]
  exact q
def rInS (neg : Bool) : R2 := fun x y H Q => ∃ (c : Nat) (l : List Nat), x = .str (S [c]) ∧ y = .str (S l) ∧ Q (.bl (if neg then !decide (c ∈ l) else decide (c ∈ l))) H
theorem op_inS {X : Cx} : OpR X (compareOp .In) (rInS false) := by
  intro pins s σ H x y v u Q I rx ry h
  obtain ⟨c, l, rfl, rfl, q⟩ := h
  exact op_in_sign pins s σ H _ _ v u Q I rx ry ⟨c, S l, rfl, rfl, by simpa [S_cps] using q⟩
theorem op_notInS {X : Cx} : OpR X (compareOp .NotIn) (rInS true) := by
  intro pins s σ H x y v u Q I rx ry h
  obtain ⟨c, l, rfl, rfl, q⟩ := h
  exact op_notIn_sign pins s σ H _ _ v u Q I rx ry ⟨c, S l, rfl, rfl, by simpa [S_cps] using q⟩
/-! the place of a sign -/
def n1 (l : List Nat) (c : Nat) : Nat := (l.takeWhile (· != c)).length
theorem n1_le (l : List Nat) (c : Nat) : n1 l c ≤ l.length := (List.takeWhile_prefix _).length_le
theorem n1_nil (c : Nat) : n1 [] c = 0 := rfl
theorem n1_cons (x : Nat) (l : List Nat) (c : Nat) : n1 (x :: l) c = if x = c then 0 else n1 l c + 1 := by
  unfold n1
  rw [List.takeWhile_cons]
  by_cases h : x = c
  · rw [if_pos h]
    simp [h]
  · rw [if_neg h]
    simp [h]
theorem n1_mem {l : List Nat} {c : Nat} : c ∈ l ↔ n1 l c < l.length := by
  induction l with
  | nil => simp [n1]
  | cons x r ih =>
    rw [n1_cons, List.mem_cons, List.length_cons]
    by_cases h : x = c
    · rw [if_pos h]
      simp [h]
    · rw [if_neg h]
      have h2 : ¬ c = x := fun z => h z.symm
      simp only [h2, false_or, ih]
      omega
theorem n1_not {l : List Nat} {c : Nat} (h : c ∉ l) : n1 l c = l.length := by
  have h1 := n1_le l c
  have h2 : ¬ n1 l c < l.length := fun z => h (n1_mem.mpr z)
  omega
theorem n1_at {l : List Nat} {c : Nat} (h : c ∈ l) : l[n1 l c]? = some c := by
  induction l with
  | nil => cases h
  | cons x r ih =>
    rw [n1_cons]
    by_cases hx : x = c
    · rw [if_pos hx, hx]
      rfl
    · rw [if_neg hx, List.getElem?_cons_succ]
      refine ih ?_
      rcases List.mem_cons.mp h with h | h
      · exact absurd h.symm hx
      · exact h
theorem n1_before {l : List Nat} {c k : Nat} (h : k < n1 l c) : l[k]? ≠ some c := by
  induction l generalizing k with
  | nil => simp
  | cons x r ih =>
    rw [n1_cons] at h
    by_cases hx : x = c
    · rw [if_pos hx] at h
      omega
    · rw [if_neg hx] at h
      cases k with
      | zero => simpa using hx
      | succ k =>
        rw [List.getElem?_cons_succ]
        exact ih (by omega)
theorem n1_eq {l : List Nat} {c k : Nat} (h : l[k]? = some c) (hb : ∀ j, j < k → l[j]? ≠ some c) : n1 l c = k := by
  have hm : c ∈ l := List.mem_of_getElem? h
  have h1 := n1_at hm
  rcases Nat.lt_trichotomy (n1 l c) k with h2 | h2 | h2
  · exact absurd h1 (hb _ h2)
  · exact h2
  · exact absurd h (n1_before h2)
theorem at_one (l : List Nat) (c i : Nat) : StrLaws.At (S l) (S [c]) (S l).length i ↔ l[i]? = some c := by
  have h := StrLaws.subAt_one (S l) c i
  rw [show (⟨#[c]⟩ : Str) = S [c] from rfl] at h
  rw [S_cps] at h
  exact h
theorem findS (l : List Nat) (c : Nat) : Txt.find (S l) (S [c]) = if c ∈ l then (n1 l c : Int) else -1 := by
  unfold Txt.find
  rcases StrLaws.occ_head (S l) (S [c]) 1 (Nat.le_refl 1) with ⟨h0, hn⟩ | ⟨i, r, h0, hi, hn⟩
  · rw [h0]
    have hc : c ∉ l := fun hm => by
      obtain ⟨j, hj⟩ := List.getElem?_of_mem hm
      exact hn j ((at_one l c j).mpr hj)
    rw [if_neg hc]
  · rw [h0]
    have h1 := (at_one l c i).mp hi
    rw [if_pos (List.mem_of_getElem? h1), n1_eq h1 fun j hj e => hn j hj ((at_one l c j).mpr e)]
theorem startsS (l : List Nat) (c : Nat) : Txt.startswith (S l) (S [c]) = decide (l[0]? = some c) := by
  have h := at_one l c 0
  unfold StrLaws.At at h
  unfold Txt.startswith
  rw [Bool.eq_iff_iff, Bool.and_eq_true, decide_eq_true_eq, decide_eq_true_eq]
  exact h
theorem partS (l : List Nat) (c : Nat) : (Txt.partition (S l) (S [c])).1 = S (l.take (n1 l c)) := by
  have ey : TL.tl (S [c]) = c :: [] := by simp [TL.tl, S]
  by_cases h : c ∈ l
  · have h1 := n1_at h
    have hlt : n1 l c < l.length := n1_mem.mp h
    have e : S l = S (l.take (n1 l c)) ++ S [c] ++ S (l.drop (n1 l c + 1)) := by
      rw [S_app, S_app]
      congr 1
      have e2 : l.drop (n1 l c) = c :: l.drop (n1 l c + 1) := by
        rw [List.drop_eq_getElem_cons hlt]
        rw [List.getElem?_eq_getElem hlt] at h1
        rw [Option.some.inj h1]
      rw [List.append_assoc, List.singleton_append, ← e2, List.take_append_drop]
    have hno : c ∉ TL.tl (S (l.take (n1 l c))) := by
      have : TL.tl (S (l.take (n1 l c))) = l.take (n1 l c) := by simp [TL.tl, S]
      rw [this]
      intro hm
      obtain ⟨j, hj⟩ := List.getElem?_of_mem hm
      have hj2 : j < n1 l c := by
        have := (List.getElem?_eq_some_iff.mp hj).1
        rw [List.length_take] at this
        omega
      rw [List.getElem?_take_of_lt hj2] at hj
      exact n1_before hj2 hj
    have q := TL.partition_app (y := S [c]) ey (a := S (l.take (n1 l c))) (b := S (l.drop (n1 l c + 1))) hno
    rw [← e] at q
    rw [q]
  · have hno : c ∉ TL.tl (S l) := by
      have : TL.tl (S l) = l := by simp [TL.tl, S]
      rw [this]
      exact h
    rw [TL.partition_none ey hno, n1_not h, List.take_length]
/-! cuts -/
section
variable {H : Hp} {Q : VK} {l : List Nat} {i j : Int} {m n : Nat}
theorem iSlTo (hz : l.length ≤ 100000) (e : i = (n : Int)) (h : Q (.str (S (l.take n))) H) : rSlS (.str (S l)) none (some i) H Q := by
  subst e
  refine ⟨S l, rfl, S_le hz, ?_⟩
  rw [S_to]
  exact h
theorem iSlFrom (hz : l.length ≤ 100000) (e : i = (n : Int)) (h : Q (.str (S (l.drop n))) H) : rSlS (.str (S l)) (some i) none H Q := by
  subst e
  refine ⟨S l, rfl, S_le hz, ?_⟩
  rw [S_from]
  exact h
theorem S_mid (l : List Nat) (m n : Nat) : cutS (S l) (some (m : Int)) (some (n : Int)) = S ((l.take n).drop m) := by
  rw [S_cut]
  have e1 : HT.sIx l.length 0 (some (m : Int)) = min m l.length := by
    have q := S_from l m
    unfold HT.sIx
    simp only []
    split
    · omega
    · omega
  have e2 : HT.sIx l.length l.length (some (n : Int)) = min n l.length := by
    unfold HT.sIx
    simp only []
    split
    · omega
    · omega
  rw [e1, e2]
  congr 1
  rw [List.drop_take]
  by_cases h : m ≤ l.length
  · rw [Nat.min_eq_left h]
    by_cases h2 : n ≤ l.length
    · rw [Nat.min_eq_left h2]
    · rw [Nat.min_eq_right (Nat.le_of_not_le h2)]
      have h3 : (l.drop m).length = l.length - m := List.length_drop
      rw [List.take_of_length_le (Nat.le_of_eq h3), List.take_of_length_le (by omega)]
  · rw [Nat.min_eq_right (Nat.le_of_not_le h), List.drop_of_length_le (Nat.le_refl _), List.drop_of_length_le (Nat.le_of_not_le h)]
    simp
theorem iSlMid (hz : l.length ≤ 100000) (e1 : i = (m : Int)) (e2 : j = (n : Int)) (h : Q (.str (S ((l.take n).drop m))) H) : rSlS (.str (S l)) (some i) (some j) H Q := by
  subst e1 e2
  refine ⟨S l, rfl, S_le hz, ?_⟩
  rw [S_mid]
  exact h
end
theorem iAddS {a b : List Nat} {H : Hp} {Q : VK} (hz : a.length + b.length ≤ 100000) (h : Q (.str (S (a ++ b))) H) : rAddS (.str (S a)) (.str (S b)) H Q := ⟨a, b, rfl, rfl, hz, h⟩
theorem iLenS1 {l : List Nat} {H : Hp} {Q : VK} (hz : l.length ≤ 100000) (h : Q (.int (l.length : Nat)) H) : rLenS1 [.str (S l)] H Q := ⟨l, rfl, hz, h⟩
theorem iInS {c : Nat} {l : List Nat} {H : Hp} {Q : VK} (h : Q (.bl (decide (c ∈ l))) H) : rInS false (.str (S [c])) (.str (S l)) H Q := ⟨c, l, rfl, rfl, by simpa using h⟩
theorem iNotInS {c : Nat} {l : List Nat} {H : Hp} {Q : VK} (h : Q (.bl (!decide (c ∈ l))) H) : rInS true (.str (S [c])) (.str (S l)) H Q := ⟨c, l, rfl, rfl, by simpa using h⟩
def rFindS : V → List V → Hp → VK → Prop := fun x xs H Q => ∃ (l : List Nat) (c : Nat), x = .str (S l) ∧ xs = [.str (S [c])] ∧ Q (.int (if c ∈ l then (n1 l c : Int) else -1)) H
theorem mt_findS {X : Cx} : MtR X "str.find" rFindS := by
  intro pins s σ H x xs v us Q I rx rs h
  obtain ⟨l, c, rfl, rfl, q⟩ := h
  exact mt_find pins s σ H _ _ v us Q I rx rs ⟨_, _, rfl, rfl, by rw [findS]; exact q⟩
def rStartS : V → List V → Hp → VK → Prop := fun x xs H Q => ∃ (l : List Nat) (c : Nat), x = .str (S l) ∧ xs = [.str (S [c])] ∧ Q (.bl (decide (l[0]? = some c))) H
theorem mt_startS {X : Cx} : MtR X "str.startswith" rStartS := by
  intro pins s σ H x xs v us Q I rx rs h
  obtain ⟨l, c, rfl, rfl, q⟩ := h
  exact mt_startswith pins s σ H _ _ v us Q I rx rs ⟨_, _, rfl, rfl, by rw [startsS]; exact q⟩
def rPartS : V → List V → Hp → VK → Prop := fun x xs H Q => ∃ (l : List Nat) (c : Nat), x = .str (S l) ∧ xs = [.str (S [c])] ∧ l.length ≤ 100000 ∧ ∀ p, H p = none → ∀ y z : V, Q (.ref p) (upd H p (.tup [.str (S (l.take (n1 l c))), y, z]))
theorem mt_partS {X : Cx} : MtR X "str.partition" rPartS := by
  intro pins s σ H x xs v us Q I rx rs h
  obtain ⟨l, c, rfl, rfl, hz, q⟩ := h
  exact mt_partition pins s σ H _ _ v us Q I rx rs ⟨_, _, rfl, rfl, rfl, S_le hz, fun p hp => by rw [partS]; exact q p hp _ _⟩
theorem iFindS {c : Nat} {l : List Nat} {H : Hp} {Q : VK} (h : Q (.int (if c ∈ l then (n1 l c : Int) else -1)) H) : rFindS (.str (S l)) [.str (S [c])] H Q := ⟨l, c, rfl, rfl, h⟩
theorem iFindYes {c : Nat} {l : List Nat} {H : Hp} {Q : VK} (hc : c ∈ l) (h : Q (.int (n1 l c : Nat)) H) : rFindS (.str (S l)) [.str (S [c])] H Q := iFindS (by rw [if_pos hc]; exact h)
theorem iFindNo {c : Nat} {l : List Nat} {H : Hp} {Q : VK} (hc : ¬ c ∈ l) (h : Q (.int (-1)) H) : rFindS (.str (S l)) [.str (S [c])] H Q := iFindS (by rw [if_neg hc]; exact h)
theorem iStartS {c : Nat} {l : List Nat} {H : Hp} {Q : VK} (h : Q (.bl (decide (l[0]? = some c))) H) : rStartS (.str (S l)) [.str (S [c])] H Q := ⟨l, c, rfl, rfl, h⟩
theorem iPartS {c : Nat} {l : List Nat} {H : Hp} {Q : VK} (hz : l.length ≤ 100000) (h : ∀ p, H p = none → ∀ y z : V, Q (.ref p) (upd H p (.tup [.str (S (l.take (n1 l c))), y, z]))) : rPartS (.str (S l)) [.str (S [c])] H Q := ⟨l, c, rfl, rfl, hz, h⟩
theorem inV_S (t : List Nat) : ∀ us : List (List Nat), inV (.str (S t)) (us.map fun l => V.str (S l)) = decide (t ∈ us)
  | [] => rfl
  | u :: r => by
    have ih := inV_S t r
    unfold inV at ih ⊢
    rw [List.map_cons, List.any_cons, ih]
    have e : eqV (V.str (S u)) (V.str (S t)) = decide (t = u) := by
      show (S u == S t) = _
      by_cases h : t = u
      · subst h
        simp
      · have h2 : S u ≠ S t := fun e => h (S_inj.mp e).symm
        rw [beq_eq_false_iff_ne.mpr h2, decide_eq_false h]
    rw [e, Bool.eq_iff_iff]
    simp
/-- a text among written texts -/
theorem iInL {K : PySem.W.Frag} {p : Addr} {t : List Nat} {us : List (List Nat)} {xs : List V} {H : Hp} {Q : VK} (hq : SqL K H p xs ∨ SqT K H p xs) (hx : xs = us.map fun l => V.str (S l)) (h : Q (.bl (decide (t ∈ us))) H) : rIn K false (.str (S t)) (.ref p) H Q := by
  subst hx
  refine ⟨p, _, rfl, hq, rfl, ?_, ?_⟩
  · rw [List.all_map]
    simp [flatV]
  · rw [if_neg Bool.false_ne_true, inV_S]
    exact h
theorem iNInL {K : PySem.W.Frag} {p : Addr} {t : List Nat} {us : List (List Nat)} {xs : List V} {H : Hp} {Q : VK} (hq : SqL K H p xs ∨ SqT K H p xs) (hx : xs = us.map fun l => V.str (S l)) (h : Q (.bl (!decide (t ∈ us))) H) : rIn K true (.str (S t)) (.ref p) H Q := by
  subst hx
  refine ⟨p, _, rfl, hq, rfl, ?_, ?_⟩
  · rw [List.all_map]
    simp [flatV]
  · rw [if_pos rfl, inV_S]
    exact h
end Vk
set_option Elab.async false
set_option linter.all false
set_option maxRecDepth 100000
set_option maxHeartbeats 4000000
namespace Vk
open PySem PySem.Spec PyProof.Rows L2
/-! V2: isinstance -/
section
variable {K : PySem.W.Frag} {H : Hp} {Q : VK}
theorem isi_int_int {i : Int} (h : Q (.bl true) H) : rIsi K [.int i, .ty "int"] H Q := ⟨_, _, _, _, true, rfl, .ty "int", .base (.int i), rfl, h⟩
theorem isi_int_bool {i : Int} (h : Q (.bl false) H) : rIsi K [.int i, .ty "bool"] H Q := ⟨_, _, _, _, false, rfl, .ty "bool", .base (.int i), rfl, h⟩
theorem isi_int_str {i : Int} (h : Q (.bl false) H) : rIsi K [.int i, .ty "str"] H Q := ⟨_, _, _, _, false, rfl, .ty "str", .base (.int i), rfl, h⟩
theorem isi_str_str {z : Str} (h : Q (.bl true) H) : rIsi K [.str z, .ty "str"] H Q := ⟨_, _, _, _, true, rfl, .ty "str", .base (.str z), rfl, h⟩
theorem isi_str_int {z : Str} (h : Q (.bl false) H) : rIsi K [.str z, .ty "int"] H Q := ⟨_, _, _, _, false, rfl, .ty "int", .base (.str z), rfl, h⟩
theorem isi_str_bool {z : Str} (h : Q (.bl false) H) : rIsi K [.str z, .ty "bool"] H Q := ⟨_, _, _, _, false, rfl, .ty "bool", .base (.str z), rfl, h⟩
theorem isi_bl_bool {b : Bool} (h : Q (.bl true) H) : rIsi K [.bl b, .ty "bool"] H Q := ⟨_, _, _, _, true, rfl, .ty "bool", .base (.bl b), rfl, h⟩
theorem isi_bl_int {b : Bool} (h : Q (.bl true) H) : rIsi K [.bl b, .ty "int"] H Q := ⟨_, _, _, _, true, rfl, .ty "int", .base (.bl b), rfl, h⟩
theorem isi_bl_str {b : Bool} (h : Q (.bl false) H) : rIsi K [.bl b, .ty "str"] H Q := ⟨_, _, _, _, false, rfl, .ty "str", .base (.bl b), rfl, h⟩
end
end Vk
set_option Elab.async false
set_option linter.all false
set_option maxRecDepth 100000
set_option maxHeartbeats 4000000
namespace Vk
open PySem PySem.Spec PyProof.Rows L2
/-! V3: comprehensions, loops, texts joined -/
theorem SqL.off {K : PySem.W.Frag} {H1 H2 : Hp} {a D : Addr} {xs : List V} (h : SqL K H1 a xs) (hD : H1 D = none) (off : ∀ b, b ≠ D → H2 b = H1 b) : SqL K H2 a xs := by
  rcases h with h | h
  · refine .inl ?_
    rcases h with h | ⟨o, h⟩
    · exact .inl ((off a (ne_of_none h hD)).trans h)
    · exact .inr ⟨o, (off a (ne_of_none h hD)).trans h⟩
  · exact .inr h
theorem SqL.same {K : PySem.W.Frag} {H1 H2 : Hp} {a : Addr} {xs : List V} (h : SqL K H1 a xs) (s : Same H1 H2) : SqL K H2 a xs := by
  rcases h with h | h
  · refine .inl ?_
    rcases h with h | ⟨o, h⟩
    · exact .inl (s _ _ h)
    · exact .inr ⟨o, s _ _ h⟩
  · exact .inr h
section
variable {K : PySem.W.Frag} {σ : L2.St} {H H1 : Hp} {Q : VK} {te tl : TE} {tt : TT} {vs : List Nat} {g : TG} {ta : TA}
/-- the loop of a comprehension, for the walk to stop at -/
def LcG (J : It) (g : TG) (tt : TT) (te : TE) (vs : List Nat) (σ : L2.St) (H1 : Hp) (D : Addr) (Q : VK) : Prop := ∃ W : Nat → Nat → Hp → Prop, (∃ m, W 0 m (upd H1 D (.lst []))) ∧ ∀ i m H, W i m H →
  (J.stop i H ∧ Q (.ref D) H) ∨ (J.go i H ∧ ∃ Nx : Hp → Prop, (∀ H', Nx H' → ∃ m', m' < m ∧ W (i + 1) m' H') ∧ ∀ x H', J.yld i H x H' → g x (wipe σ vs) H' fun σ2 H2 => wipe σ2 vs = wipe σ vs ∧ tt σ2 H2 fun b H3 =>
    if b = true then te σ2 H3 fun y H4 => ∃ acc, H4 D = some (.lst acc) ∧ acc.length < sizeLine ∧ Nx (upd H4 D (.lst (acc ++ [y]))) else Nx H3)
theorem iLcL (h : tl σ H fun x H1 => ∃ a, x = .ref a ∧ (∃ xs, SqL K H1 a xs) ∧ ∀ D, H1 D = none → LcG (Itl K a) g tt te vs σ H1 D Q) : tLc (iList K tl) g tt te vs σ H Q := h
theorem iLcS (h : tl σ H fun x H1 => ∃ z, x = .str z ∧ ∀ D, H1 D = none → LcG (Its z) g tt te vs σ H1 D Q) : tLc (iStr tl) g tt te vs σ H Q := h
theorem iLcR1 (h : ta σ H fun ws H1 => ∃ j : Int, ws = [.int j] ∧ -(2 ^ 62) ≤ j ∧ j < 2 ^ 62 ∧ ∀ D, H1 D = none → LcG (Itr 0 j.toNat) g tt te vs σ H1 D Q) : tLc (iRng1 ta) g tt te vs σ H Q := h
/-- a comprehension over a list that stands still, nothing else done -/
theorem lcg_list {a D : Addr} {xs : List V} {j : Nat} (p : V → Bool) (v : V → V) (hl : xs.length ≤ 4000) (hx : SqL K H1 a xs) (hD : H1 D = none)
    (hw : ∀ x, wipe ((wipe σ vs).set j (some x)) vs = wipe σ vs)
    (ht : ∀ x ∈ xs, ∀ (H2 : Hp) (Q : Bool → Hp → Prop), (∀ b, b ≠ D → H2 b = H1 b) → Q (p x) H2 → tt ((wipe σ vs).set j (some x)) H2 Q)
    (he : ∀ x ∈ xs, p x = true → ∀ (H2 : Hp) (Q : VK), (∀ b, b ≠ D → H2 b = H1 b) → Q (v x) H2 → te ((wipe σ vs).set j (some x)) H2 Q)
    (hq : Q (.ref D) (upd H1 D (.lst ((xs.filter p).map v)))) : LcG (Itl K a) (gName j) tt te vs σ H1 D Q := by
  refine lc_it (walk_list (K := K) (a := a) (xs := xs)) (fun i H => H = upd H1 D (.lst (((xs.take i).filter p).map v))) rfl (fun i H hi e => ?_) ?_ ?_
  · subst e
    exact SqL.off hx hD fun b hb => upd_ne hb
  · rintro i x H H' hi hP ⟨rfl, hc⟩
    subst hP
    have hm : x ∈ xs := List.mem_of_getElem? hc
    have off : ∀ b, b ≠ D → (upd H1 D (.lst (((xs.take i).filter p).map v))) b = H1 b := fun b hb => upd_ne hb
    have e1 : xs.take (i + 1) = xs.take i ++ [x] := by
      rw [List.take_add_one, hc]
      rfl
    refine ⟨hw _, ht x hm _ _ off ?_⟩
    by_cases hp : p x = true
    · rw [if_pos hp]
      refine he x hm hp _ _ off ⟨_, upd_same, ?_, ?_⟩
      · rw [List.length_map, sizeLine_eq]
        have h1 := List.length_filter_le p (xs.take i)
        rw [List.length_take] at h1
        omega
      · rw [upd_upd, e1, List.filter_append, List.filter_cons_of_pos hp, List.filter_nil, List.map_append]
        rfl
    · rw [if_neg hp, e1, List.filter_append, List.filter_cons_of_neg hp, List.filter_nil, List.append_nil]
  · rintro H rfl
    rw [List.take_length]
    exact hq
/-! for -/
/-- the loop of a for, for the walk to stop at -/
def ForG (J : It) (g : TG) (tb : TS) (D : Ends) (σ : L2.St) (H1 : Hp) : Prop := ∃ W : Nat → Nat → L2.St → Hp → Prop, (∃ m, W 0 m σ H1) ∧ ∀ i m σ H, W i m σ H →
  (J.stop i H ∧ D.nx σ H) ∨ (J.go i H ∧ ∃ N : L2.St → Hp → Prop, (∀ σ' H', N σ' H' → ∃ m', m' < m ∧ W (i + 1) m' σ' H') ∧ ∀ x H', J.yld i H x H' → g x σ H' fun σ2 H2 => tb { D with nx := N, ct := N, bk := D.nx } σ2 H2)
theorem iForL {D : Ends} {tb : TS} (h : tl σ H fun x H1 => ∃ a, x = .ref a ∧ (∃ xs, SqL K H1 a xs) ∧ ForG (Itl K a) g tb D σ H1) : tFor (iList K tl) g tb D σ H := h
theorem iForS {D : Ends} {tb : TS} (h : tl σ H fun x H1 => ∃ z, x = .str z ∧ ForG (Its z) g tb D σ H1) : tFor (iStr tl) g tb D σ H := h
theorem iForR1 {D : Ends} {tb : TS} (h : ta σ H fun ws H1 => ∃ j : Int, ws = [.int j] ∧ -(2 ^ 62) ≤ j ∧ j < 2 ^ 62 ∧ ForG (Itr 0 j.toNat) g tb D σ H1) : tFor (iRng1 ta) g tb D σ H := h
theorem iForR2 {D : Ends} {tb : TS} (h : ta σ H fun ws H1 => ∃ i j : Int, ws = [.int i, .int j] ∧ (-(2 ^ 62) ≤ i ∧ i < 2 ^ 62 ∧ -(2 ^ 62) ≤ j ∧ j < 2 ^ 62) ∧ ForG (Itr i (j - i).toNat) g tb D σ H1) : tFor (iRng2 ta) g tb D σ H := h
/-- a loop over a text -/
theorem for_S {D : Ends} {tb : TS} {l : List Nat} (Pv : Nat → L2.St → Hp → Prop) (h0 : Pv 0 σ H)
    (hs : ∀ i c σ H, l[i]? = some c → Pv i σ H → g (.str (S [c])) σ H fun σ2 H2 => tb { nx := Pv (i + 1), rt := D.rt, bk := D.nx, ct := Pv (i + 1) } σ2 H2) (hd : ∀ σ H, Pv l.length σ H → D.nx σ H) : ForG (Its (S l)) g tb D σ H := by
  refine for_it walk_str Pv h0 (fun _ _ _ _ _ => trivial) ?_ ?_
  · rintro i x σ H H' hi hP ⟨rfl, c, hc, rfl⟩
    exact hs i c σ _ (S_get.mp hc) hP
  · intro σ H h
    rw [S_size] at h
    exact hd σ H h
/-- a loop over range(n) -/
theorem for_R {D : Ends} {tb : TS} {lo : Int} {n : Nat} (Pv : Nat → L2.St → Hp → Prop) (h0 : Pv 0 σ H)
    (hs : ∀ i σ H, i < n → Pv i σ H → g (.int (lo + (i : Int))) σ H fun σ2 H2 => tb { nx := Pv (i + 1), rt := D.rt, bk := D.nx, ct := Pv (i + 1) } σ2 H2) (hd : ∀ σ H, Pv n σ H → D.nx σ H) : ForG (Itr lo n) g tb D σ H :=
  for_range Pv h0 hs hd
/-- a loop over a list -/
theorem for_L {D : Ends} {tb : TS} {a : Addr} {xs : List V} (Pv : Nat → L2.St → Hp → Prop) (h0 : Pv 0 σ H) (hl : ∀ i σ H, i ≤ xs.length → Pv i σ H → SqL K H a xs)
    (hs : ∀ i x σ H, xs[i]? = some x → Pv i σ H → g x σ H fun σ2 H2 => tb { nx := Pv (i + 1), rt := D.rt, bk := D.nx, ct := Pv (i + 1) } σ2 H2) (hd : ∀ σ H, Pv xs.length σ H → D.nx σ H) : ForG (Itl K a) g tb D σ H :=
  for_list Pv h0 hl hs hd
/-- a comprehension over range(n), which may change the heap -/
theorem lcg_R {D : Addr} {n j : Nat} {lo : Int} (Pv : Nat → Hp → Prop) (h0 : Pv 0 (upd H1 D (.lst []))) (hw : ∀ x, wipe ((wipe σ vs).set j (some x)) vs = wipe σ vs)
    (hs : ∀ i H, i < n → Pv i H → tt ((wipe σ vs).set j (some (.int (lo + (i : Int))))) H fun b H3 => if b = true then te ((wipe σ vs).set j (some (.int (lo + (i : Int))))) H3 fun y H4 => ∃ acc, H4 D = some (.lst acc) ∧ acc.length < sizeLine ∧ Pv (i + 1) (upd H4 D (.lst (acc ++ [y]))) else Pv (i + 1) H3)
    (hd : ∀ H, Pv n H → Q (.ref D) H) : LcG (Itr lo n) (gName j) tt te vs σ H1 D Q := by
  refine lc_it walk_range Pv h0 (fun _ _ _ _ => trivial) ?_ hd
  rintro i x H H' hi hP ⟨rfl, rfl⟩
  exact ⟨hw _, hs i _ hi hP⟩
/-- .. over a text -/
theorem lcg_S {D : Addr} {j : Nat} {l : List Nat} (Pv : Nat → Hp → Prop) (h0 : Pv 0 (upd H1 D (.lst []))) (hw : ∀ x, wipe ((wipe σ vs).set j (some x)) vs = wipe σ vs)
    (hs : ∀ i c H, l[i]? = some c → Pv i H → tt ((wipe σ vs).set j (some (.str (S [c])))) H fun b H3 => if b = true then te ((wipe σ vs).set j (some (.str (S [c])))) H3 fun y H4 => ∃ acc, H4 D = some (.lst acc) ∧ acc.length < sizeLine ∧ Pv (i + 1) (upd H4 D (.lst (acc ++ [y]))) else Pv (i + 1) H3)
    (hd : ∀ H, Pv l.length H → Q (.ref D) H) : LcG (Its (S l)) (gName j) tt te vs σ H1 D Q := by
  refine lc_it walk_str Pv h0 (fun _ _ _ _ => trivial) ?_ ?_
  · rintro i x H H' hi hP ⟨rfl, c, hc, rfl⟩
    exact ⟨hw _, hs i c _ (S_get.mp hc) hP⟩
  · intro H h
    rw [S_size] at h
    exact hd H h
theorem iYes {Q : Bool → Hp → Prop} (h : Q true H) : tYes σ H Q := h
end
/-- what was new is forgotten -/
theorem Fr.forget {L M : List Addr} {H H' : Hp} (f : Fr M H H') (h : ∀ x ∈ M, x ∈ L ∨ H x = Option.none) : Fr L H H' := fun x u hx e => f x u (fun hm => by
  rcases h x hm with h | h
  · exact hx h
  · rw [e] at h
    cases h) e
theorem Fr.forget2 {b D : Addr} {H H' : Hp} (f : Fr [b, D] H H') (h : H D = Option.none) : Fr [b] H H' := f.forget fun x hx => by
  rcases List.mem_cons.mp hx with rfl | hx
  · exact .inl List.mem_cons_self
  · rw [List.mem_singleton] at hx
    subst hx
    exact .inr h
theorem Fr.forget1 {D : Addr} {H H' : Hp} (f : Fr [D] H H') (h : H D = Option.none) : Same H H' := (f.forget (L := []) fun x hx => by
    rw [List.mem_singleton] at hx
    subst hx
    exact .inr h).same
/-- '' joins signs -/
theorem join_S {l : List Nat} (hl : l.length ≤ 4000) : (((l.map fun c => S [c]).map (·.length)).sum + (l.map fun c => S [c]).length * (S []).length ≤ 16777216) ∧ Txt.join (S []) (l.map fun c => S [c]) = S l := by
  refine ⟨?_, join_signs _⟩
  rw [S_len, List.length_nil, Nat.mul_zero, Nat.add_zero, List.map_map]
  have e1 : l.map ((fun x : Str => x.length) ∘ fun c => S [c]) = l.map fun _ => 1 := List.map_congr_left fun c _ => S_len [c]
  rw [e1]
  have e2 : (l.map fun _ => 1).sum = l.length := by
    clear hl e1
    induction l with
    | nil => rfl
    | cons x xs ih => rw [List.map_cons, List.sum_cons, ih, List.length_cons, Nat.add_comm]
  rw [e2]
  omega
theorem iJoinS {K : PySem.W.Frag} {p : Addr} {l : List Nat} {H : Hp} {Q : VK} (hq : SqL K H p (l.map fun c => V.str (S [c]))) (hl : l.length ≤ 4000) (h : Q (.str (S l)) H) :
    ∃ (a : Str) (q : Addr) (ys : List Str), V.str (S []) = .str a ∧ [V.ref p] = [.ref q] ∧ (SqL K H q (ys.map V.str) ∨ SqT K H q (ys.map V.str)) ∧ (ys.map (·.length)).sum + ys.length * a.length ≤ 16777216 ∧ Q (.str (Txt.join a ys)) H := by
  obtain ⟨h1, h2⟩ := join_S hl
  refine ⟨S [], p, l.map fun c => S [c], rfl, rfl, .inl ?_, h1, ?_⟩
  · rw [List.map_map]
    exact hq
  · rw [h2]
    exact h
end Vk
set_option Elab.async false
set_option linter.all false
set_option maxRecDepth 100000
set_option maxHeartbeats 4000000
namespace Vk
open PySem PySem.Spec PyProof.Rows L2
section
variable {X : Cx}
/-- list(text): its signs -/
theorem call_listT (hc : X.calm = true) : CallR X (.type "list") rListT := by
  intro pins s σ H xs us Q I r q
  obtain ⟨z, ex, hz, q⟩ := q
  subst ex
  obtain ⟨u, eu, rx⟩ := vals1 r
  subst eu
  obtain ⟨t, rfl⟩ := rx
  have hz2 : z.cps.size ≤ 4000 := hz
  refine call_list_str (hn := by rw [sizeLine_eq]; omega) (I.ok.hd hc) z t fun h' tk acc c' hk he hacc => ?_
  have hS := signs_strs hacc
  have hlen : ((signsOf z).map V.str).length ≤ sizeLine := by
    rw [List.length_map]
    unfold signsOf
    rw [List.length_map, Array.length_toList, sizeLine_eq]
    omega
  refine ⟨.ref s.heap.objs.size, upd H s.heap.objs.size (.lst ((signsOf z).map V.str)), I.laid (t' := tk) hk (Nat.le_refl _)
    (show ObjOk X.prog X.w _ _ _ (.lst ((signsOf z).map V.str)) from ⟨hlen, acc.toList, c', vals_of_strs hS, by rw [Array.toArray_toList]; exact he⟩), rfl, q _ (I.hok.fresh (Nat.le_refl _))⟩
def repL (n : Nat) (l : List Nat) : List Nat := (List.replicate n l).flatten
theorem repL_len (n : Nat) (l : List Nat) : (repL n l).length = n * l.length := by
  unfold repL
  rw [List.length_flatten, List.map_replicate, List.sum_replicate_nat]
theorem fold_rep (a : Array Nat) : ∀ (n : Nat) (acc : Array Nat), ((List.replicate n a).foldl (· ++ ·) acc).toList = acc.toList ++ (List.replicate n a.toList).flatten
  | 0, acc => by simp
  | n + 1, acc => by
    rw [List.replicate_succ, List.foldl_cons, fold_rep a n, List.replicate_succ, List.flatten_cons, Array.toList_append, List.append_assoc]
/-- text * number -/
def rMulT : R2 := fun x y H Q => ∃ (l : List Nat) (n : Nat), x = .str (S l) ∧ y = .int (n : Int) ∧ l.length * n ≤ 4000 ∧ n ≤ 4000 ∧ Q (.str (S (repL n l))) H
theorem op_mulT : OpR X (binaryOp .Mult) rMulT := by
  intro pins s σ H x y v u Q I rx ry h
  obtain ⟨l, n, rfl, rfl, hln, hn, q⟩ := h
  obtain ⟨t, rfl⟩ := rx
  obtain ⟨t', rfl⟩ := ry
  have hl := S_len l
  refine PySem.P.mul_str ?_ (fun h1 h2 => ?_) (fun h1 h2 => ?_) ?_
  · rw [decide_eq_false (by omega), decide_eq_false (by omega)]
    rfl
  · rw [hl]
    have h3 : (l.length : Int) ≤ (2 ^ 63 - 1) / (n : Int) := by
      refine Int.le_ediv_of_mul_le (by omega) ?_
      have : ((l.length * n : Nat) : Int) ≤ 4000 := by omega
      rw [Int.natCast_mul] at this
      omega
    omega
  · unfold PySem.Builtin.Str.tooLong
    rw [hl, Int.toNat_natCast, sizeLine_eq]
    exact decide_eq_false (by omega)
  · by_cases h1 : (n : Int) < 1
    · rw [if_pos h1]
      have e : n = 0 := by omega
      subst e
      exact ⟨by decide, ⟨.str (S (repL 0 l)), H, I.tok _, ⟨_, rfl⟩, q⟩⟩
    · rw [if_neg h1]
      by_cases h2 : ((n : Int) == 1 || (S l).length == 0) = true
      · rw [if_pos h2]
        have e : repL n l = l := by
          rcases Bool.or_eq_true_iff.mp h2 with h | h
          · have : n = 1 := by
              have := beq_iff_eq.mp h
              omega
            subst this
            unfold repL
            simp
          · have h3 := beq_iff_eq.mp h
            rw [hl] at h3
            have : l = [] := List.length_eq_zero_iff.mp h3
            subst this
            unfold repL
            simp
        rw [e] at q
        exact ⟨.str (S l), H, I, ⟨_, rfl⟩, q⟩
      · rw [if_neg h2]
        have e : (⟨(List.replicate (n : Int).toNat (S l).cps).foldl (· ++ ·) #[]⟩ : Str) = S (repL n l) := by
          rw [Int.toNat_natCast, S_of (⟨_⟩ : Str)]
          congr 1
          show ((List.replicate n (S l).cps).foldl (· ++ ·) #[]).toList = _
          rw [fold_rep, S_cps]
          rfl
        rw [e]
        refine ⟨?_, ⟨.str (S (repL n l)), H, I.tok _, ⟨_, rfl⟩, q⟩⟩
        rw [S_len, repL_len, sizeLine_eq, Nat.mul_comm]
        omega
end
end Vk
set_option Elab.async false
set_option linter.all false
set_option maxRecDepth 100000
set_option maxHeartbeats 4000000
namespace Vk
open PySem PySem.Spec PyProof.Rows L2
section
variable {K : PySem.W.Frag} {H : Hp} {Q : VK} {a : Addr} {xs : List V}
theorem iSlL {lo hi : Option Int} (hq : SqL K H a xs) (h : ∀ p, H p = none → Q (.ref p) (upd H p (.lst (cutV xs lo hi)))) : rSlL K (.ref a) lo hi H Q := ⟨a, xs, rfl, hq, h⟩
theorem iCat {b : Addr} {ys : List V} (ha : H a = some (.lst xs)) (hb : H b = some (.lst ys)) (hz : xs.length + ys.length ≤ sizeLine) (h : ∀ p, H p = none → Q (.ref p) (upd H p (.lst (xs ++ ys)))) : rCat (.ref a) (.ref b) H Q := ⟨a, b, xs, ys, rfl, rfl, ha, hb, hz, h⟩
theorem iAppend {y : V} (ha : H a = some (.lst xs)) (hz : xs.length < sizeLine) (h : Q .non (upd H a (.lst (xs ++ [y])))) : rAppend (.ref a) [y] H Q := ⟨a, xs, y, rfl, rfl, ha, hz, h⟩
theorem iTruL {R : Bool → Prop} (hq : SqL K H a xs) (h : R (!xs.isEmpty)) : ∃ k, TruV K (.ref a) H k ∧ R k := ⟨_, .inl ⟨xs, hq, rfl⟩, h⟩
theorem iTruNil {R : Bool → Prop} (hq : SqL K H a []) (h : R false) : ∃ k, TruV K (.ref a) H k ∧ R k := ⟨_, .inl ⟨[], hq, rfl⟩, h⟩
theorem iTruCons {R : Bool → Prop} {x : V} (hq : SqL K H a (x :: xs)) (h : R true) : ∃ k, TruV K (.ref a) H k ∧ R k := ⟨_, .inl ⟨_, hq, rfl⟩, h⟩
theorem iListT {l : List Nat} (hl : l.length ≤ 4000) (h : ∀ p, H p = none → Q (.ref p) (upd H p (.lst (l.map fun c => V.str (S [c]))))) : rListT [.str (S l)] H Q := by
  refine ⟨S l, rfl, (by rw [S_len]; exact hl), fun p hp => ?_⟩
  have e : (signsOf (S l)).map V.str = l.map fun c => V.str (S [c]) := by
    rw [signs_S, List.map_map]
    rfl
  rw [e]
  exact h p hp
end
end Vk
set_option Elab.async false
set_option linter.all false
set_option maxRecDepth 100000
set_option maxHeartbeats 4000000
/-! set(text) and len(set(text)), whatever the text -/
namespace Vk
open PySem PySem.Spec PyProof.Rows L2

/-- the different codes, in the order in which they are met -/
def met : List Nat → List Nat
  | [] => []
  | c :: r => if (met r).contains c then met r else c :: met r
def metAt (l : List Nat) (i : Nat) : List Nat := met (l.take i).reverse
theorem metAt_succ {l : List Nat} {i c : Nat} (h : l[i]? = some c) : metAt l (i + 1) = if (metAt l i).contains c then metAt l i else c :: metAt l i := by
  unfold metAt
  have e : l.take (i + 1) = l.take i ++ [c] := by
    rw [List.take_add_one, h]
    rfl
  rw [e, List.reverse_append]
  rfl
theorem met_len : ∀ l : List Nat, (met l).length ≤ l.length
  | [] => Nat.le_refl _
  | c :: r => by
    have ih := met_len r
    unfold met
    split
    · exact Nat.le_succ_of_le ih
    · simp only [List.length_cons]
      omega
theorem mem_met : ∀ (l : List Nat) (c : Nat), c ∈ met l ↔ c ∈ l
  | [], c => Iff.rfl
  | a :: r, c => by
    have ih := mem_met r
    unfold met
    by_cases h : (met r).contains a = true
    · rw [if_pos h, ih]
      have ha : a ∈ r := (ih a).mp (by simpa using h)
      constructor
      · exact fun q => List.mem_cons_of_mem _ q
      · intro q
        rcases List.mem_cons.mp q with rfl | q
        · exact ha
        · exact q
    · rw [if_neg h]
      simp only [List.mem_cons, ih]
theorem met_full : ∀ l : List Nat, (met l).length = l.length ↔ l.Nodup
  | [] => by simp [met]
  | a :: r => by
    have ih := met_full r
    have hl := met_len r
    unfold met
    by_cases h : (met r).contains a = true
    · rw [if_pos h]
      have ha : a ∈ r := (mem_met r a).mp (by simpa using h)
      constructor
      · intro e
        simp only [List.length_cons] at e
        omega
      · intro q
        exact absurd ha (List.nodup_cons.mp q).1
    · rw [if_neg h]
      have ha : a ∉ r := fun q => h (by simpa using (mem_met r a).mpr q)
      simp only [List.length_cons, List.nodup_cons, ha, not_false_eq_true, true_and, Nat.add_right_cancel_iff]
      exact ih
theorem nodup_rev {l : List Nat} : l.reverse.Nodup ↔ l.Nodup := by
  refine (List.pairwise_reverse (R := fun a b : Nat => a ≠ b)).trans ?_
  exact ⟨fun h => h.imp Ne.symm, fun h => h.imp Ne.symm⟩
theorem metAt_end (l : List Nat) : (metAt l l.length).length = l.length ↔ l.Nodup := by
  unfold metAt
  rw [List.take_length]
  have h := met_full l.reverse
  rw [List.length_reverse] at h
  exact h.trans nodup_rev
/-- the set of the signs met -/
def metS (l : List Nat) (i : Nat) : Str → Bool := fun k => (metAt l i).any fun c => decide (k = (⟨#[c]⟩ : Str))
theorem metS_mem {l : List Nat} {i c : Nat} : metS l i ⟨#[c]⟩ = (metAt l i).contains c := by
  unfold metS
  rw [Bool.eq_iff_iff, List.any_eq_true]
  constructor
  · rintro ⟨d, hd, e⟩
    have e1 : [c] = [d] := congrArg (fun y : Str => y.cps.toList) (of_decide_eq_true e)
    have e2 : c = d := (List.cons.inj e1).1
    simpa [e2] using hd
  · intro h
    exact ⟨c, by simpa using h, by simp⟩
theorem metS_step {l : List Nat} {i c : Nat} (h : l[i]? = some c) (k : Str) : (metS l i k || decide (k = (⟨#[c]⟩ : Str))) = metS l (i + 1) k := by
  unfold metS
  rw [metAt_succ h]
  by_cases q : (metAt l i).contains c = true
  · rw [if_pos q]
    by_cases e : k = (⟨#[c]⟩ : Str)
    · subst e
      have := metS_mem (l := l) (i := i) (c := c)
      unfold metS at this
      rw [this, q]
      rfl
    · simp [e]
  · rw [if_neg q, List.any_cons, Bool.or_comm]
theorem metN_step {l : List Nat} {i c : Nat} (h : l[i]? = some c) : (if metS l i ⟨#[c]⟩ = true then (metAt l i).length else (metAt l i).length + 1) = (metAt l (i + 1)).length := by
  rw [metAt_succ h, metS_mem]
  split
  · rfl
  · rfl

section
variable {prog : Program} {w : World} {A : Around} {R : Result → Shared → Prop} {I : Addr} {fp wr : List Addr} {G : Array GenState → Array GenState → Prop} {P : Nat → Value → Prop} {St : Nat → Shared → Prop}
theorem upd_text {l : List Nat} (W : WalksS prog w A.in1 I fp wr G l.length P St) (S : Addr) (hSf : S ∉ fp)
    (hval : ∀ i v, P i v → ∃ c t, l[i]? = some c ∧ v = .str ⟨#[c]⟩ t) (hb : l.length + 1 < scanBound) :
    ∀ (k i : Nat) (s : Shared), l.length - i = k → i ≤ l.length → St i s → s.heap.SetOf (strKind prog w) S (metS l i) (metAt l i).length →
      (∀ s', Moved (S :: wr) G s s' → s'.heap.SetOf (strKind prog w) S (metS l l.length) (metAt l l.length).length → R (.ok (.ret .none)) s') → codeAny (model prog w) A (.builtin "set.update.loop" ⟨[.ref S, .ref I], []⟩) R s := by
  have hSw : S ∉ wr := fun h => hSf (W.sub _ h)
  have hsub : ∀ b ∈ wr, b ∈ S :: wr := fun b hb => List.mem_cons_of_mem _ hb
  intro k
  induction k with
  | zero =>
    intro i s hk hi hst hS hR
    obtain rfl : i = l.length := by omega
    refine codeAny_builtin PyProof.Rows.F.entry_set_update_loop ?_
    rw [Around.under_plainId PyProof.Rows.F.plain_set_update_loop _]
    show wpAny _ A.in1 (pyNext (.ref I) >>= _) _ _ s
    refine wpAny_bind (W.done s _ _ hst fun s1 hm => ?_)
    show wpAny _ A.in1 (ret Value.none) _ _ s1
    refine wpAny_pure (hR s1 (hm.mono hsub) ?_)
    obtain ⟨o, es, ep, t, ho, more⟩ := hS
    exact ⟨o, es, ep, t, hm.heap S _ hSw ho, more⟩
  | succ k ih =>
    intro i s hk hi hst hS hR
    have hlt : i < l.length := by omega
    refine codeAny_builtin PyProof.Rows.F.entry_set_update_loop ?_
    rw [Around.under_plainId PyProof.Rows.F.plain_set_update_loop _]
    show wpAny _ A.in1 (pyNext (.ref I) >>= _) _ _ s
    refine wpAny_bind (W.item i s _ _ hlt hst fun v s1 hP hst1 hm => ?_)
    obtain ⟨c, t, hc, rfl⟩ := hval i v hP
    have hS1 : s1.heap.SetOf (strKind prog w) S (metS l i) (metAt l i).length := by
      obtain ⟨o, es, ep, tb, ho, more⟩ := hS
      exact ⟨o, es, ep, tb, hm.heap S _ hSw ho, more⟩
    show wpAny _ A.in1 (holding [Value.str ⟨#[c]⟩ t] (setAdd S (.str ⟨#[c]⟩ t)) >>= _) _ _ s1
    refine wpAny_bind (wpAny_holding ?_)
    unfold setAdd
    refine wpAny_holding (wpAny_bind ((strKind prog w).pyHash (k := ⟨#[c]⟩) (strKind_is _ _ _ _) ?_))
    have hroom : (metAt l i).length + 1 < scanBound := by
      have h1 := met_len (l.take i).reverse
      rw [List.length_reverse, List.length_take] at h1
      have h2 : (metAt l i).length ≤ min i l.length := h1
      omega
    refine wpAny_setAddHashed_of (knd := strKind prog w) (s := { s1 with toks := s1.toks + 1 }) (strKind_is _ _ _ _) rfl hS1 hroom fun h2 hsb hS2 => ?_
    have hSi : h2.SetOf (strKind prog w) S (metS l (i + 1)) (metAt l (i + 1)).length := SetOf_congr hS2 (fun y => metS_step hc y) (metN_step hc)
    refine wpAny_pure ⟨plainId_quiet PyProof.Rows.F.plain_set_update_loop _, ih (i + 1) _ (by omega) hlt (W.frame _ s1 _ _ hst1 (Nat.le_succ _) fun b hb o e => ?_) hSi fun s3 hm3 hS3 => ?_⟩
    · rw [hsb.2 b (fun z : b = S => hSf (by rw [← z]; exact hb))]
      exact e
    · refine hR s3 (Moved.trans W.gtrans ((hm.mono hsub).then_heap (Nat.le_succ _) fun b o hb e => ?_) hm3) hS3
      rw [hsb.2 b (fun z : b = S => hb (by rw [z]; exact List.mem_cons_self))]
      exact e
end

section
variable {prog : Program} {w : World} {A : Around} {E : Value → Shared → Prop} {s : Shared}
theorem call_set_text {x : Str} {t : Tok} {Q : Value → Shared → Prop} (hh : A.handled = none) (hb : x.cps.size + 1 < scanBound)
    (h : ∀ (h2 : Heap) (tk : Nat), h2.SetOf (strKind prog w) s.heap.objs.size (metS x.cps.toList x.cps.size) (metAt x.cps.toList x.cps.size).length →
      (∀ b o, b < s.heap.objs.size → s.heap.get? b = some o → h2.get? b = some o) → Q (.ref s.heap.objs.size) { s with heap := h2, toks := tk }) :
    wpAny (model prog w) A (call (.type "set") [.str x t]) Q E s := by
  obtain ⟨c, tl, hmro⟩ := PySem.F.called_set.mro
  have hmade := PySem.F.called_set.made
  have hsub := PySem.F.called_set.sub
  refine wpAny_call (codeAny_of_tree ?_)
  show wpAny _ _ (callAny (.type "set") _) _ _ _
  refine wpAny_pure ⟨Code.quiet_builtin _ (by decide +kernel), codeAny_builtin PySem.F.entry_type_call ?_⟩
  rw [Around.under_plain (weight_type_call_type "set" [.str x t] []) rfl]
  have h1 := PySem.F.called_set.notType
  have h2 := PySem.F.called_set.canCreate
  have hct := PySem.F.typeCall_set_1 (.str x t)
  repeat (any_goals (first | assumption | wp_step))
  refine codeAny_mono (code_set_new_1 (.str x t) (E := E) (Q₁ := fun obj s₁ => ∃ led : Bool, obj = .ref s.heap.objs.size ∧ s₁ = { s with heap := s.heap.push { cls := .type "set", dict := none, data := .set #[] 0 (.fresh 0 0 led) } }) fun led => ⟨led, rfl, rfl⟩) fun r s₁ hr => ?_
  cases r with
  | error e => exact hr
  | ok fl =>
    cases fl with
    | ret obj =>
      obtain ⟨led, rfl, rfl⟩ := hr
      have hS : (s.heap.push { cls := .type "set", dict := none, data := .set #[] 0 (.fresh 0 0 led) }).get? s.heap.objs.size = some { cls := .type "set", dict := none, data := .set #[] 0 (.fresh 0 0 led) } := Heap.get?_push_size _ rfl
      have hT : Shared.TypeIs { s with heap := s.heap.push { cls := .type "set", dict := none, data := .set #[] 0 (.fresh 0 0 led) } } (.ref s.heap.objs.size) "set" := ⟨_, hS, rfl⟩
      have hli := PySem.F.called_set.init.lookup
      have hbi := PySem.F.called_set.init.bind (.ref s.heap.objs.size)
      repeat (any_goals (first | assumption | wp_step))
      refine codeAny_mono (codeAny_call_builtin (R := wants (fun r s₂ => r = .none ∧ ∃ h2 tk, s₂ = { s with heap := h2, toks := tk } ∧
          h2.SetOf (strKind prog w) s.heap.objs.size (metS x.cps.toList x.cps.size) (metAt x.cps.toList x.cps.size).length ∧
          (∀ b o, b < s.heap.objs.size → s.heap.get? b = some o → h2.get? b = some o)) E) PySem.F.called_set.init.plain PySem.F.entry_set_init (check_set_init_1 hT ?_)) fun r₂ s₂ hr₂ => ?_
      · unfold Builtin.«set.__init__» noKeywords Builtin.Frozenset.updateFrom
        generalize hPI : pyIter = PI
        have hTx : Shared.TypeIs { s with heap := s.heap.push { cls := .type "set", dict := none, data := .set #[] 0 (.fresh 0 0 led) } } (.str x t) "str" := rfl
        have hsS : isSubtype (.type "str") (.type "set") = pure false := by rw [isSubtype_type]; kernel_rfl
        have hsF : isSubtype (.type "str") (.type "frozenset") = pure false := by rw [isSubtype_type]; kernel_rfl
        have hne : (Value.type "str" == Value.type "dict") = false := by decide
        wp_walk
        subst hPI
        refine wpAny_pyIter_str fun o St W hst => wpAny_bind (wpAny_runValue ?_)
        generalize hH : s.heap.push { cls := .type "set", dict := none, data := .set #[] 0 (.fresh 0 0 led) } = Hq at W hst hS ⊢
        have hHs : Hq.objs.size = s.heap.objs.size + 1 := by rw [← hH, Heap.size_push]
        have hSf : s.heap.objs.size ∉ [Hq.objs.size] := fun hm => by
          rw [List.mem_singleton] at hm
          omega
        have hh3 : A.in1.in1.in1.handled = none := by simp [hh]
        refine upd_text (l := x.cps.toList) ((W A.in1.in1.in1 hh3).toS) s.heap.objs.size hSf (fun i v hv => ?_) hb (x.cps.toList.length - 0) 0 _ (by omega) (Nat.zero_le _) hst ?_ ?_
        · obtain ⟨c, u, hc, e⟩ := hv
          exact ⟨c, u, by rw [Array.getElem?_toList]; exact hc, e⟩
        · exact SetOf_congr ((PyProof.Rows.setObjOf_fresh (knd := strKind prog w) led).setOf (Heap.get?_push_of_some _ hS) (by unfold scanBound; omega)) (fun _ => rfl) rfl
        · intro s1 hm hS1
          obtain ⟨h2, g2, d2, tk2, os2⟩ := s1
          have eg : g2 = s.gens := hm.gens
          have ed : d2 = s.drawn := hm.drawn
          have eo : os2 = s.os := hm.os
          subst eg; subst ed; subst eo
          show wpAny _ _ _ _ _ _
          refine wpAny_pure ?_
          show wpAny _ _ (ret Value.none) _ _ _
          refine wpAny_pure ⟨rfl, h2, tk2, rfl, hS1, fun b o hb2 e => hm.heap b o (fun z => ?_) (Heap.get?_push_of_some _ (by rw [← hH]; exact Heap.get?_push_of_some _ e))⟩
          rcases List.mem_cons.mp z with z | z
          · rw [z] at hb2
            exact Nat.lt_irrefl _ hb2
          · rw [List.mem_singleton] at z
            rw [z, hHs] at hb2
            exact Nat.not_succ_lt_self hb2
      · cases r₂ with
        | error e => exact hr₂
        | ok fl₂ =>
          cases fl₂ with
          | ret r =>
            obtain ⟨rfl, h2, tk, rfl, hS', hk'⟩ := hr₂
            repeat (any_goals (first | assumption | wp_step))
            exact h _ _ hS' hk'
          | _ => exact hr₂.elim
    | _ => exact hr.elim
end

/-- len(set(x)), x a text -/
def tLenSetT (ta : TE) : TE := fun σ H Q => ta σ H fun x H1 => ∃ z : Str, x = .str z ∧ z.length ≤ 4000 ∧ Q (.int ((metAt z.cps.toList z.cps.toList.length).length : Nat)) H1
theorem pe_lenSetT {X : Cx} {a : Expr} {ta : TE} {p p2 q pos : Pos} (hg : Gl X "len") (hm : X.mg "len" = none) (hg2 : Gl X "set") (hm2 : X.mg "set" = none) (ha : PE X a ta) (hc : X.calm = true := by rfl)
    (na : starEach [a] X.env = (false, eval a X.env) :: starEach [] X.env := by rfl) : PE X (.Call (.Name "len" p) [.Call (.Name "set" p2) [a] [] q] [] pos) (tLenSetT ta) := by
  refine ⟨fun pins s σ H Q I h => ?_⟩
  refine Call_ (ld_blt I hg hm boot_len (PyProof.Rows.callWith_builtin1 (PyProof.Rows.args_cons ?_ rfl) rfl rfl))
  refine Call_ (ld_blt I hg2 hm2 boot_set ?_)
  refine PyProof.Rows.callWith_type1 (PyProof.Rows.args_cons (thn (ha.run pins s σ H _ I h) fun v s1 hh => PyProof.Rows.args_nil ?_) na) na rfl
  obtain ⟨x, H1, I1, r1, z, rfl, hz, q1⟩ := hh
  obtain ⟨t, rfl⟩ := r1
  have hz2 : z.cps.size ≤ 4000 := hz
  refine call_set_text (I1.ok.hd hc) (by unfold scanBound; omega) fun h2 tk hS hk => PyProof.Rows.args_nil ?_
  obtain ⟨o, es, ep, tb, ho, hex, hd, _, _, _, hf, hn⟩ := hS
  have I2 : Inv X pins σ H1 { s1 with heap := h2, toks := tk } := I1.kept fun b o e => hk b o (Heap.lt_size e) e
  have hle : (metAt z.cps.toList z.cps.size).length ≤ z.cps.size := by
    have h1 := met_len (z.cps.toList.take z.cps.size).reverse
    rw [List.length_reverse, List.length_take] at h1
    exact Nat.le_trans h1 (Nat.min_le_left _ _)
  exact call_len_set ho hex hd hf (by rw [hn]; omega) ⟨.int ((metAt z.cps.toList z.cps.toList.length).length : Nat), H1, I2.tok _, ⟨_, by rw [hn]; rfl⟩, q1⟩
end Vk
set_option Elab.async false
set_option linter.all false
set_option maxRecDepth 100000
set_option maxHeartbeats 4000000
namespace Vk
open PySem PySem.Spec PyProof.Rows L2
def top (i : Nat) : Stmt := PySem.Challenge.pw_talepost_k22_whole_greatest_tables.main.body.getD i (.Pass ⟨0, 0, 0, 0⟩)
abbrev sDiff : Stmt := top 11
/-- the built-in names stand for themselves -/
structure Zs (mg : Str → Option Value) : Prop where
  z_len : mg "len" = none
  z_set : mg "set" = none
  z_all : mg "all" = none
  z_abs : mg "abs" = none
  z_int : mg "int" = none
  z_range : mg "range" = none
  z_sorted : mg "sorted" = none
  z_isinstance : mg "isinstance" = none
  z_str : mg "str" = none
  z_bool : mg "bool" = none
  z_list : mg "list" = none
  z_tuple : mg "tuple" = none
  z_any : mg "any" = none
  z_enum : mg "enumerate" = none
  z_min : mg "min" = none
  z_max : mg "max" = none
  z_VE : mg "ValueError" = none
structure TxA (K : PySem.W.Frag) (mg : Str → Option Value) (aDiff : Addr) : Prop extends Zs mg where
  gDiff : mg "differ_within" = some (.ref aDiff)
theorem sz4 {n : Nat} (h : n ≤ 4000) : n ≤ sizeLine := by rw [sizeLine_eq]; omega
section
variable {P : Program} {w : World} {K : PySem.W.Frag} {mg : Str → Option Value} {base : Heap} {aDiff : Addr}
/-! differ_within -/
def Differ (t a : List Nat) : Prop := t.Nodup ∧ ∀ c ∈ t, c ∈ a
instance (t a : List Nat) : Decidable (Differ t a) := inferInstanceAs (Decidable (_ ∧ _))
def spDiff : Sp := fun vs H Q _ => ∃ t a : List Nat, vs = [.str (S t), .str (S a)] ∧ t.length ≤ 4000 ∧ ∀ H', Same H H' → Q (.bl (decide (Differ t a))) H'
theorem scDiff : FnScope ["text", "allowed", "letter"] ["text", "allowed"] (defScope sDiff) := ⟨rfl, rfl, rfl, by decide +kernel, rfl, by decide +kernel, by decide +kernel⟩
theorem ok_diff {f : Addr} {fd : FuncData} (F : Fun K "differ_within" "differ_within" sDiff f fd) (T : TxA K mg aDiff) : FnOk P w K mg base CX0 1 f fd ["text", "allowed"] spDiff := by
  refine F.ok scDiff (fun vs H Q E h => ?_) (fun cdv A outer s H vs Q E hr h => ?_)
  · obtain ⟨t, a, rfl, _⟩ := h
    rfl
  · obtain ⟨t, a, rfl, hl, k⟩ := h
    refine ⟨_, (pss_one (ps_ret (pe_and (pe_cmpR op_eq (pe_lenSetT (by rfl) T.z_len (by rfl) T.z_set (pv 0)) (pe_callB call_len_str (by rfl) T.z_len (by decide +kernel) (pa_cons (pv 0) pa_nil)) (nomark _)) (pe_one (pe_callB (cr_all rfl) (by rfl) T.z_all (by decide +kernel) (pa_cons (pe_lc (own := [("letter", 2)]) (g := gName 2) (by rfl) scDiff.nd (pi_str (pv 0)) (blkOk_by (own := [("letter", 2)]) (N := ["text", "allowed", "letter"]) (sc := defScope sDiff) (by decide +kernel)) (fun _ _ _ _ _ => pg_name (i := 2) scDiff.nd rfl (Or.inl rfl)) (fun _ _ _ _ _ => pts_nil) (fun _ _ _ _ _ => (pe_cmpR op_in_sign (pv 2) (pv 1) rfl))) pa_nil)))))), ?_⟩
    have e1 : ((metAt (S t).cps.toList (S t).cps.toList.length).length = t.length) ↔ t.Nodup := by
      rw [S_cps]
      exact metAt_end t
    refine ⟨_, rfl, _, rfl, by rw [S_len]; exact hl, _, rfl, _, rfl, sz4 (by rw [S_len]; exact hl), rfl, _, rfl, ?_⟩
    have e2 : ((V.int ((metAt (S t).cps.toList (S t).cps.toList.length).length : Nat)) = V.int ((S t).length : Nat)) ↔ t.Nodup := by
      rw [S_len, ← e1]
      constructor
      · intro h
        have h2 := V.int.inj h
        omega
      · intro h
        rw [h]
    refine ite2 (fun hn => ?_) (fun hn => ?_)
    · have hnd : t.Nodup := e2.mp (of_decide_eq_true hn)
      refine ⟨_, rfl, _, rfl, fun D hD => lc_text (fun _ => true) (fun c => V.bl (decide (c ∈ a))) hl (fun _ => rfl) (fun _ _ _ _ _ q => q) (fun c hc _ H2 Q2 _ q => ⟨_, rfl, _, rfl, c, S a, rfl, rfl, by rw [S_cps]; exact q⟩) ?_⟩
      refine ⟨D, t.map (fun c => decide (c ∈ a)), rfl, ?_, ?_⟩
      · rw [List.map_map]
        refine SqL.of ?_
        rw [upd_same, List.filter_eq_self.mpr (fun _ _ => rfl)]
        rfl
      · have e3 : (t.map fun c => decide (c ∈ a)).all id = decide (Differ t a) := by
          rw [Bool.eq_iff_iff]
          simp [Differ, hnd]
        rw [e3]
        exact k _ fun b o e => by rw [upd_ne (ne_of_none e hD)]; exact e
    · have hnd : ¬ t.Nodup := fun z => hn (decide_eq_true (e2.mpr z))
      have e3 : decide (Differ t a) = false := decide_eq_false fun z => hnd z.1
      have q := k H (Same.refl H)
      rw [e3] at q
      exact q
end
def Kp (b : Addr) (H H' : Hp) : Prop := ∀ c o, c ≠ b → H c = some o → H' c = some o
theorem Kp.refl (b : Addr) (H : Hp) : Kp b H H := fun _ _ _ h => h
theorem Kp.trans {b : Addr} {H H1 H2 : Hp} (a : Kp b H H1) (c : Kp b H1 H2) : Kp b H H2 := fun d o h e => c d o h (a d o h e)
theorem Kp.upd (b : Addr) (H : Hp) (o : HO) : Kp b H (upd H b o) := fun c u h e => by rw [upd_ne h]; exact e
def azL : List Nat := (PySem.Str.ofString "abcdefghijklmnopqrstuvwxyz").cps.toList
theorem az_S : PySem.Str.ofString "abcdefghijklmnopqrstuvwxyz" = S azL := S_of _
theorem az_len : azL.length = 26 := by decide +kernel
theorem az_nodup : azL.Nodup := by decide +kernel
theorem Differ.take {l a : List Nat} (h : Differ l a) (i : Nat) : Differ (l.take i) a := ⟨h.1.sublist (List.take_sublist i l), fun c hc => h.2 c (List.mem_of_mem_take hc)⟩
theorem differ_step {l a : List Nat} {i c : Nat} (hc : l[i]? = some c) : Differ (l.take (i + 1)) a ↔ (Differ (l.take i) a ∧ c ∈ a ∧ c ∉ l.take i) := by
  have hi : i < l.length := (List.getElem?_eq_some_iff.mp hc).1
  have e : l.take (i + 1) = l.take i ++ [c] := by
    rw [List.take_succ, hc]
    rfl
  unfold Differ
  rw [e, List.nodup_append]
  constructor
  · rintro ⟨⟨h1, _, h3⟩, h2⟩
    refine ⟨⟨h1, fun d hd => h2 d (List.mem_append_left _ hd)⟩, h2 c (List.mem_append_right _ (List.mem_singleton.mpr rfl)), fun z => h3 c z c (List.mem_singleton.mpr rfl) rfl⟩
  · rintro ⟨⟨h1, h2⟩, h3, h4⟩
    refine ⟨⟨h1, by simp, fun x hx y hy exy => ?_⟩, fun d hd => ?_⟩
    · rw [List.mem_singleton] at hy
      subst hy exy
      exact h4 hx
    · rcases List.mem_append.mp hd with h | h
      · exact h2 d h
      · rw [List.mem_singleton] at h
        subst h
        exact h3
def dueT (l v : List Nat) : Str := if l.length < 1 ∨ 4 < l.length ∨ ¬ Differ l azL then "letters" else if ¬ Differ v l then "vowels" else ""
abbrev sAlph : Stmt := top 10
abbrev sEq : Stmt := inClass (top 10) 3
def consL (l v : List Nat) : List Nat := (srtL l).filter fun c => !decide (c ∈ v)
/-- what an alphabet shows: letters, vowels, consonants, signs -/
def four (l v : List Nat) : List Str := [S (srtL l), S (srtL v), S (consL l v), S (45 :: srtL l)]
def alF (l v : List Nat) : List (Str × V) := [("letters", .str (S (srtL l))), ("vowels", .str (S (srtL v))), ("consonants", .str (S (consL l v))), ("signs", .str (S (45 :: srtL l)))]
def IsAl (C : Addr) (H : Hp) (a : Addr) (l v : List Nat) : Prop := ∃ dx, H a = some (.ins C dx (alF l v))
theorem IsAl.same {C a : Addr} {H H' : Hp} {l v : List Nat} (h : IsAl C H a l v) (s : Same H H') : IsAl C H' a l v := by
  obtain ⟨dx, e⟩ := h
  exact ⟨dx, s _ _ e⟩
structure AlF (K : PySem.W.Frag) (C : Addr) : Prop where
  cl : Cls K C
  nL : NoAttr K C "letters"
  nV : NoAttr K C "vowels"
  nC : NoAttr K C "consonants"
  nS : NoAttr K C "signs"
  ic : PySem.W.findIn K (.ref C) "__class__" = some (some (.builtin "object.__class__"))
  ig : PySem.W.specialIn K (.builtin "object.__class__") "__get__" = some (some (.builtin "getset_descriptor.__get__"))
  it : PySem.W.takesIn K (.builtin "object.__class__") = some true
  im : PySem.W.mroIn K C (.type "object") = some true
theorem joined {l : List Nat} {ys : List Str} (hl : l.length < 64) (hp : ys.Perm (signsOf (S l))) (hs : sortedS ys = true) :
    ((ys.map (·.length)).sum + ys.length * (PySem.Str.ofString "").length ≤ 16777216) ∧ Txt.join (PySem.Str.ofString "") ys = S (srtL l) := by
  rw [signs_S] at hp
  have e := sorted_signs hp hs
  subst e
  have e0 : PySem.Str.ofString "" = S [] := by decide +kernel
  rw [e0]
  refine ⟨?_, join_signs _⟩
  rw [S_len, List.length_nil, Nat.mul_zero, Nat.add_zero, List.map_map]
  have e1 : (srtL l).map ((fun x : Str => x.length) ∘ fun c => S [c]) = (srtL l).map fun _ => 1 := List.map_congr_left fun c _ => S_len [c]
  rw [e1]
  have e2 : ((srtL l).map fun _ => 1).sum = (srtL l).length := by
    induction srtL l with
    | nil => rfl
    | cons x xs ih => rw [List.map_cons, List.sum_cons, ih, List.length_cons, Nat.add_comm]
  rw [e2, srtL_len]
  omega
theorem joinedL {l : List Nat} (hl : l.length < 1000) : (((l.map fun c => S [c]).map (·.length)).sum + (l.map fun c => S [c]).length * (PySem.Str.ofString "").length ≤ 16777216) ∧ Txt.join (PySem.Str.ofString "") (l.map fun c => S [c]) = S l := by
  have e0 : PySem.Str.ofString "" = S [] := by decide +kernel
  rw [e0]
  refine ⟨?_, join_signs _⟩
  rw [S_len, List.length_nil, Nat.mul_zero, Nat.add_zero, List.map_map]
  have e1 : l.map ((fun x : Str => x.length) ∘ fun c => S [c]) = l.map fun _ => 1 := List.map_congr_left fun c _ => S_len [c]
  rw [e1]
  have e2 : (l.map fun _ => 1).sum = l.length := by
    clear hl e1
    induction l with
    | nil => rfl
    | cons x xs ih => rw [List.map_cons, List.sum_cons, ih, List.length_cons, Nat.add_comm]
  rw [e2]
  omega
theorem upd_laid {H : Hp} {p : Addr} {o : HO} (h : H p = none) : Same H (upd H p o) := fun b u e => by rw [upd_ne (ne_of_none e h)]; exact e
theorem Same.trans {A B C : Hp} (h : Same A B) (k : Same B C) : Same A C := fun b u e => k b u (h b u e)
section
variable {P : Program} {w : World} {K : PySem.W.Frag} {mg : Str → Option Value} {base : Heap} {aDiff : Addr}
end
theorem S_eq_iff {a b : List Nat} : decide ((V.str (S a)) = V.str (S b)) = decide (a = b) := by
  have e : ((V.str (S a)) = V.str (S b)) ↔ a = b := ⟨fun h => S_inj.mp (V.str.inj h), fun h => by rw [h]⟩
  rw [Bool.eq_iff_iff, decide_eq_true_iff, decide_eq_true_iff]
  exact e
def AlEq (l v l2 v2 : List Nat) : Bool := decide (srtL l = srtL l2) && decide (srtL v = srtL v2)
section
variable {P : Program} {w : World} {K : PySem.W.Frag} {mg : Str → Option Value} {base : Heap} {aDiff : Addr}
def spEq (C : Addr) : Sp := fun vs H Q _ => ∃ (a b : Addr) (l v l2 v2 : List Nat), vs = [.ref a, .ref b] ∧ IsAl C H a l v ∧ IsAl C H b l2 v2 ∧ Q (.bl (AlEq l v l2 v2)) H
theorem scEq : FnScope ["self", "other"] ["self", "other"] (defScope sEq) := ⟨rfl, rfl, rfl, by decide +kernel, rfl, by decide +kernel, by decide +kernel⟩
theorem ok_eq {f C : Addr} {fd : FuncData} (F : Fun K "__eq__" "Alphabet.__eq__" sEq f fd) (T : TxA K mg aDiff) (A : AlF K C) (hC : mg "Alphabet" = some (.ref C)) : FnOk P w K mg base CX0 1 f fd ["self", "other"] (spEq C) := by
  refine F.ok scEq (fun vs H Q E h => ?_) (fun cdv A0 outer s H vs Q E hr h => ?_)
  · obtain ⟨a, b, l, v, l2, v2, rfl, _⟩ := h
    rfl
  · obtain ⟨a, b, l, v, l2, v2, rfl, ⟨dx, ha⟩, ⟨dy, hb⟩, k⟩ := h
    refine ⟨_, pss_one (ps_ret (pe_and (pe_callB call_isi (by rfl) T.z_isinstance (by decide +kernel) (pa_cons (pv 1) (pa_cons (pe_glob (v := .ref C) (by rfl) hC rfl) pa_nil)))
      (pe_and (pe_cmpR op_eq (pe_fld (pv 0) rfl) (pe_fld (pv 1) rfl) (nomark _)) (pe_one (pe_cmpR op_eq (pe_fld (pv 0) rfl) (pe_fld (pv 1) rfl) (nomark _)))))), ?_⟩
    refine ⟨_, rfl, _, _, _, _, true, rfl, .own C, .base (.ins hb A.cl A.ic A.ig A.it A.im), ?_, true, rfl, iteT ?_⟩
    · show PySem.W.kitOne K (.ref C) (.ref C) = some true
      unfold PySem.W.kitOne
      rw [if_pos (beq_iff_eq.mpr rfl)]
    refine ⟨_, rfl, a, C, dx, _, _, rfl, ha, A.cl, A.nL, rfl, _, rfl, b, C, dy, _, _, rfl, hb, A.cl, A.nL, rfl, rfl, _, rfl, ?_⟩
    have q := k
    unfold AlEq at q
    rw [← S_eq_iff, ← S_eq_iff] at q
    refine ite2 (fun h => ?_) (fun h => ?_)
    · refine ⟨_, rfl, a, C, dx, _, _, rfl, ha, A.cl, A.nV, rfl, _, rfl, b, C, dy, _, _, rfl, hb, A.cl, A.nV, rfl, rfl, ?_⟩
      rw [h, Bool.true_and] at q
      exact q
    · rw [Bool.eq_false_iff.mpr h, Bool.false_and] at q
      exact q
end
abbrev sBA : Stmt := inClass (top 4) 0
def spBA (C : Addr) : Sp := fun vs H Q _ => ∃ (a : Addr) (z : Str), vs = [.ref a, .str z] ∧ z.length ≤ 100 ∧ H a = some (exo a C none) ∧
  ∀ dx, H dx = none → dx ≠ a → Q .non (upd (upd H dx (exd dx [("part", .str z)])) a (exo a C (some dx)))
theorem scBA : SScope ["self", "part"] (defScope sBA) := ⟨rfl, rfl, rfl, by decide +kernel, by decide +kernel, by decide +kernel, fun x h => (show ∀ y ∈ (defScope sBA).names, y.2 = .free → y.1 = "__class__" by decide +kernel) _ (PySem.mem_of_lookup h) rfl, by decide +kernel, by decide +kernel⟩
section
variable {P : Program} {w : World} {K : PySem.W.Frag} {mg : Str → Option Value} {base : Heap}
theorem ok_ba {f C cc cda : Addr} {dV kV doc pm ct oc : Value} {an od : Option Addr} {osl : Array (Option Value)} (T : SupC P K mg C cc cda) (hp : PySem.W.findIn K (.ref C) "part" = some none)
    (lk : K.lookup f = some ⟨oc, od, .func (PySem.W.ksFn "__init__" "BadAlphabet.__init__" (defArgs sBA) (defBody sBA) (defScope sBA) dV kV doc pm an (.ref cda) ct cc), osl⟩) (hcd : PySem.W.codeIn K (.ref cda) "BadAlphabet.__init__" = true) :
    FnOk P w K mg base CX0 1 f (PySem.W.ksFn "__init__" "BadAlphabet.__init__" (defArgs sBA) (defBody sBA) (defScope sBA) dV kV doc pm an (.ref cda) ct cc) ["self", "part"] (spBA C) := by
  refine fn_super (self := "self") (N' := ["part"]) T lk hcd scBA rfl rfl rfl rfl (fun _ => rfl) (fun _ => rfl) (fun vs H Q E h => ?_) (fun A outer s H vs Q E hr h => ?_)
  · obtain ⟨a, z, rfl, _⟩ := h
    rfl
  · obtain ⟨a, z, rfl, hz, ha, k⟩ := h
    refine ⟨_, _, pe_joined (.cons pe_str (.cons (pe_fmt (pv 1)) (.cons pe_str .nil))), pss_one (ps_ost (pv 0) (pv 1)), ⟨a, rfl, ha⟩, ?_⟩
    have e1 : (PySem.Str.ofString "not the ").length = 8 := by decide +kernel
    have e2 : (PySem.Str.ofString " of an alphabet").length = 15 := by decide +kernel
    have e3 : Str.empty.length = 0 := by decide +kernel
    have sl : ∀ {n : Nat}, n ≤ 1000 → n ≤ sizeLine := fun h => by rw [sizeLine_eq]; omega
    have al : ∀ a b : Str, (a ++ b).length = a.length + b.length := fun a b => by
      show (a.cps ++ b.cps).size = _
      rw [Array.size_append]
      rfl
    refine ⟨_, rfl, sl ?_, _, rfl, .inl ⟨z, rfl, sl (by omega), _, rfl, sl ?_, _, rfl, sl ?_, ⟨a, rfl, ha⟩, ?_⟩⟩
    · rw [al, e1, e3]
      decide
    · rw [al, al, e1, e3]
      omega
    · rw [al, al, al, e1, e2, e3]
      omega
    · exact ⟨_, rfl, _, rfl, a, C, rfl, T.oex, hp, .inl ⟨ha, fun dx hd hn => k dx hd hn⟩⟩
end
abbrev sAI : Stmt := inClass (top 10) 2
/-- BadAlphabet as the written part holds it -/
structure BaF (P : Program) (K : PySem.W.Frag) (mg : Str → Option Value) (B fB : Addr) : Prop where
  ox : OexC K B
  iC : PySem.W.findIn K (.ref B) "__init__" = some (some (.ref fB))
  tI : PySem.W.typeIn K (.ref fB) = some (.type "function")
  gB : mg "BadAlphabet" = some (.ref B)
/-- what else stands of Alphabet: its class values -/
structure AlV (K : PySem.W.Frag) (mg : Str → Option Value) (C : Addr) (mc : Value) (tm tj tl : Tok) : Prop where
  gC : mg "Alphabet" = some (.ref C)
  gL : mg "SMALL_LETTERS" = some (.str (S azL) tl)
  rd : ClX.CRead K C mc
  most : ClX.CVal K C mc "MOST" (.int 4) (.int 4 tm)
  joint : ClX.CVal K C mc "JOINT" (.str "-") (.str "-" tj)
def spAl (C B : Addr) : Sp := fun vs H Q E => ∃ (a dx : Addr) (l v : List Nat), vs = [.ref a, .str (S l), .str (S v)] ∧ H a = some (.ins C dx []) ∧ l.length ≤ 1000 ∧ v.length ≤ 1000 ∧
  (dueT l v = "" → ∀ H', IsAl C H' a l v → Kp a H H' → Q .non H') ∧
  (dueT l v ≠ "" → ∀ d H', H d = none → H' d = some (.xd [("part", .str (dueT l v))]) → Kp a H H' → E (.ref B) (some d) H')
theorem kp_exc {H : Hp} {b dx : Addr} {o : HO} {e0 e1 e2 : HO} (ha : H b = none) (hd : (upd H b e0) dx = none) (hn : dx ≠ b) : Same H (upd (del (upd (upd (upd H b e0) dx e1) b e2) b) dx o) := fun c u e => by
  have h1 : c ≠ b := ne_of_none e ha
  have h2 : c ≠ dx := fun z => by
    subst z
    rw [upd_ne h1, e] at hd
    cases hd
  rw [upd_ne h2, del_ne h1, upd_ne h1, upd_ne h2, upd_ne h1]
  exact e
theorem Same.kp {H H' : Hp} (h : Same H H') (a : Addr) : Kp a H H' := fun c o _ e => h c o e
theorem len_of_sub : ∀ {v l : List Nat}, v.Nodup → (∀ c ∈ v, c ∈ l) → v.length ≤ l.length
  | [], l, _, _ => Nat.zero_le _
  | c :: v, l, hn, hs => by
    obtain ⟨h1, h2⟩ := List.nodup_cons.mp hn
    have hc : c ∈ l := hs c List.mem_cons_self
    have ih := len_of_sub (v := v) (l := l.erase c) h2 fun d hd => (List.mem_erase_of_ne (fun (z : d = c) => h1 (z ▸ hd))).mpr (hs d (List.mem_cons_of_mem _ hd))
    rw [List.length_erase_of_mem hc] at ih
    have := List.length_pos_of_mem hc
    rw [List.length_cons]
    omega
theorem differ_len {v l : List Nat} (h : Differ v l) : v.length ≤ l.length := len_of_sub h.1 h.2
theorem put2 (x y : V) : putF "vowels" y [("letters", x)] = ([("letters", x), ("vowels", y)] : List (Str × V)) := by
  show (if ("letters" : Str) = "vowels" then _ else (("letters" : Str), x) :: putF "vowels" y []) = _
  rw [if_neg (by decide +kernel)]
  rfl
theorem put3 (x y z : V) : putF "consonants" z [("letters", x), ("vowels", y)] = ([("letters", x), ("vowels", y), ("consonants", z)] : List (Str × V)) := by
  show (if ("letters" : Str) = "consonants" then _ else (("letters" : Str), x) :: (if ("vowels" : Str) = "consonants" then _ else (("vowels" : Str), y) :: putF "consonants" z [])) = _
  rw [if_neg (by decide +kernel), if_neg (by decide +kernel)]
  rfl
theorem put4 (x y z t : V) : putF "signs" t [("letters", x), ("vowels", y), ("consonants", z)] = ([("letters", x), ("vowels", y), ("consonants", z), ("signs", t)] : List (Str × V)) := by
  show (if ("letters" : Str) = "signs" then _ else (("letters" : Str), x) :: (if ("vowels" : Str) = "signs" then _ else (("vowels" : Str), y) :: (if ("consonants" : Str) = "signs" then _ else (("consonants" : Str), z) :: putF "signs" t []))) = _
  rw [if_neg (by decide +kernel), if_neg (by decide +kernel), if_neg (by decide +kernel)]
  rfl
theorem scAI : FnScope ["self", "letters", "vowels", "letter"] ["self", "letters", "vowels"] (defScope sAI) := ⟨rfl, rfl, rfl, by decide +kernel, rfl, by decide +kernel, by decide +kernel⟩
section
variable {P : Program} {w : World} {K : PySem.W.Frag} {mg : Str → Option Value} {base : Heap} {aDiff : Addr}
theorem ok_alph {f C B fB : Addr} {mc : Value} {tm tj tl : Tok} {fd fdD fdB : FuncData} (F : FunD K "__init__" "Alphabet.__init__" (defArgs sAI) (defBody sAI) (defScope sAI) [.str ""] [] f fd) (T : TxA K mg aDiff) (A : AlF K C) (AV : AlV K mg C mc tm tj tl) (BA : BaF P K mg B fB)
    (FDiff : Fun K "differ_within" "differ_within" sDiff aDiff fdD) (bDiff : Binds K fdD ["text", "allowed"] []) (GB : FnOk P w K mg base CX0 1 fB fdB ["self", "part"] (spBA B)) (bB : Binds K fdB ["self", "part"] []) :
    FnOk P w K mg base (L2.CX P w) 3 f fd ["self", "letters", "vowels"] (spAl C B) := by
  have GDiff : FnOk P w K mg base CX0 1 aDiff fdD ["text", "allowed"] spDiff := ok_diff FDiff T
  refine F.ok scAI (fun vs H Q E h => ?_) (fun cdv A0 outer s H vs Q E hr h => ?_)
  · obtain ⟨a, dx, l, v, rfl, _⟩ := h
    rfl
  · obtain ⟨a, dx, l, v, rfl, ha, hl, hv, kq, ke⟩ := h
    refine ⟨_, (pss_cons (ps_if (PW.pt (pw_or (pt_not (pt_chain op_le op_le pe_int (pe_callB call_len_str (by rfl) T.z_len (by decide +kernel) (pa_cons (pv 1) pa_nil)) (ClX.pe_cval (pe_glob (v := .ref C) (by rfl) AV.gC rfl)))) (pw_or1 (pt_not (pt_val (pe_call GDiff (hr.mono (by decide)) (by rfl) T.gDiff FDiff.kp bDiff .nil pass0 (pa_cons (pv 1) (pa_cons (pe_glob (v := .str (S azL)) (by rfl) AV.gL ⟨_, rfl⟩) pa_nil)))))))) (pss_one (ps_raise rfl (takes_of rfl rfl rfl rfl) (pmk_oex BA.ox BA.iC BA.tI GB (hr.mono (by decide)) bB .nil pass0 (by rfl) BA.gB (pa_cons pe_str pa_nil)))) pss_nil)
      (pss_cons (ps_if (pt_not (pt_val (pe_call GDiff (hr.mono (by decide)) (by rfl) T.gDiff FDiff.kp bDiff .nil pass0 (pa_cons (pv 2) (pa_cons (pv 1) pa_nil))))) (pss_one (ps_raise rfl (takes_of rfl rfl rfl rfl) (pmk_oex BA.ox BA.iC BA.tI GB (hr.mono (by decide)) bB .nil pass0 (by rfl) BA.gB (pa_cons pe_str pa_nil)))) pss_nil)
      (pss_cons (ps_fld (pv 0) (pe_join pe_str (pe_callB (cr_sortT rfl) (by rfl) T.z_sorted (by decide +kernel) (pa_cons (pv 1) pa_nil))) rfl)
      (pss_cons (ps_fld (pv 0) (pe_join pe_str (pe_callB (cr_sortT rfl) (by rfl) T.z_sorted (by decide +kernel) (pa_cons (pv 2) pa_nil))) rfl)
      (pss_cons (ps_fld (pv 0) (pe_join pe_str (pe_lc (own := [("letter", 3)]) (g := gName 3) (by rfl) scAI.nd (pi_str (pe_fld (pv 0) rfl)) (blkOk_by (own := [("letter", 3)]) (N := ["self", "letters", "vowels", "letter"]) (sc := defScope sAI) (by decide +kernel)) (fun _ _ _ _ _ => pg_name (i := 3) scAI.nd rfl (Or.inl rfl)) (fun _ _ _ _ _ => (pts_one (pt_cmpR op_notIn_sign (pv 3) (pv 2) rfl))) (fun _ _ _ _ _ => (pv 3)))) rfl)
      (pss_one (ps_fld (pv 0) (pe_op op_add_str (ClX.pe_cval (pe_glob (v := .ref C) (by rfl) AV.gC rfl)) (pe_fld (pv 0) rfl)) rfl))))))), ?_⟩
    have hll : (S l).length ≤ sizeLine := sz4 (by rw [S_len]; omega)
    -- what a raise leaves
    have rz : ∀ (z : Str) (H1 : Hp), z.length ≤ 100 → z ≠ "" → dueT l v = z → Same H H1 → ∀ b, H1 b = none → spBA B [.ref b, .str z] (upd H1 b (exo b B none)) (fun v H2 => v = .non ∧ ∃ (d : Addr) (fs : List (Str × V)), H2 b = some (exo b B (some d)) ∧ H2 d = some (exd d fs) ∧ H1 d = none ∧ E (.ref B) (some d) (upd (del H2 b) d (.xd fs))) (fun _ _ _ => False) := by
      intro z H1 hz hne hdue hs b hb
      refine ⟨b, z, rfl, hz, upd_same, fun d hd hn => ⟨rfl, d, [("part", .str z)], upd_same, ?_, ?_, ?_⟩⟩
      · rw [upd_ne hn, upd_same]
      · rw [upd_ne hn] at hd
        exact hd
      · have h0 : H d = none := by
          cases e : H d with
          | none => rfl
          | some u =>
            have q := hs _ _ e
            rw [upd_ne hn, q] at hd
            cases hd
        refine ke (by rw [hdue]; exact hne) d _ h0 ?_ (Same.kp (Same.trans hs (kp_exc hb hd hn)) a)
        rw [hdue]
        exact upd_same
    have rl : dueT l v = "letters" → ∀ H1, Same H H1 → ([V.str "letters"] : List V).length ≤ 1000 ∧ ∀ b, H1 b = none → spBA B [.ref b, .str "letters"] (upd H1 b (exo b B none)) (fun v H2 => v = .non ∧ ∃ (d : Addr) (fs : List (Str × V)), H2 b = some (exo b B (some d)) ∧ H2 d = some (exd d fs) ∧ H1 d = none ∧ E (.ref B) (some d) (upd (del H2 b) d (.xd fs))) (fun _ _ _ => False) :=
      fun hd H1 hs => ⟨by show 1 ≤ 1000; decide, rz "letters" H1 (by decide +kernel) (by decide +kernel) hd hs⟩
    have rv : dueT l v = "vowels" → ∀ H1, Same H H1 → ([V.str "vowels"] : List V).length ≤ 1000 ∧ ∀ b, H1 b = none → spBA B [.ref b, .str "vowels"] (upd H1 b (exo b B none)) (fun v H2 => v = .non ∧ ∃ (d : Addr) (fs : List (Str × V)), H2 b = some (exo b B (some d)) ∧ H2 d = some (exd d fs) ∧ H1 d = none ∧ E (.ref B) (some d) (upd (del H2 b) d (.xd fs))) (fun _ _ _ => False) :=
      fun hd H1 hs => ⟨by show 1 ≤ 1000; decide, rz "vowels" H1 (by decide +kernel) (by decide +kernel) hd hs⟩
    have dl : (l.length < 1 ∨ 4 < l.length ∨ ¬ Differ l azL) → dueT l v = "letters" := fun h => if_pos h
    refine ⟨_, rfl, _, rfl, hll, _, _, rfl, rfl, _, rfl, ite2 (fun h1 => ⟨C, mc, _, _, rfl, AV.rd, AV.most, _, _, rfl, rfl, _, rfl, ?_⟩) (fun h1 => ⟨_, rfl, iteT (iteT (rl (dl (.inl ?_)) H (Same.refl H)))⟩)⟩
    rotate_left
    · have : ¬ (1 : Int) ≤ ((S l).length : Int) := fun z => h1 (decide_eq_true z)
      rw [S_len] at this
      omega
    refine ite2 (fun h2 => iteT (rl (dl (.inr (.inl ?_))) H (Same.refl H))) (fun h2 => ?_)
    · have h3 : decide (((S l).length : Int) ≤ 4) = false := by
        cases e : decide (((S l).length : Int) ≤ 4) with
        | false => rfl
        | true =>
          have h2' : (!decide (((S l).length : Int) ≤ 4)) = true := h2
          rw [e] at h2'
          cases h2'
      have := of_decide_eq_false h3
      rw [S_len] at this
      omega
    have g1 : 1 ≤ l.length := by
      have := of_decide_eq_true h1
      rw [S_len] at this
      omega
    have g2 : l.length ≤ 4 := by
      have h3 : decide (((S l).length : Int) ≤ 4) = true := by
        cases e : decide (((S l).length : Int) ≤ 4) with
        | true => rfl
        | false => exact absurd (show (!decide (((S l).length : Int) ≤ 4)) = true by rw [e]; rfl) h2
      have := of_decide_eq_true h3
      rw [S_len] at this
      omega
    refine ⟨_, rfl, l, azL, rfl, by omega, fun H1 s1 => ⟨_, rfl, ite2 (fun h3 => rl (dl (.inr (.inr ?_))) H1 s1) (fun h3 => ?_)⟩⟩
    · intro z
      rw [decide_eq_true z] at h3
      cases h3
    have hDl : Differ l azL := Classical.byContradiction fun z => h3 (by rw [decide_eq_false z]; rfl)
    have hnl : ¬ (l.length < 1 ∨ 4 < l.length ∨ ¬ Differ l azL) := fun z => z.elim (fun z => by omega) fun z => z.elim (fun z => by omega) fun z => z hDl
    refine ⟨_, rfl, _, rfl, v, l, rfl, by omega, fun H2 s2' => ⟨_, rfl, ite2 (fun h4 => rv ?_ H2 (Same.trans s1 s2')) (fun h4 => ?_)⟩⟩
    · unfold dueT
      rw [if_neg hnl, if_pos ?_]
      intro z
      rw [decide_eq_true z] at h4
      cases h4
    have hDv : Differ v l := Classical.byContradiction fun z => h4 (by rw [decide_eq_false z]; rfl)
    have hdue : dueT l v = "" := by
      unfold dueT
      rw [if_neg hnl, if_neg (fun z => z hDv)]
    have hvl := differ_len hDv
    have s2 := Same.trans s1 s2'
    have ha2 := s2 _ _ ha
    -- letters
    refine ⟨⟨_, rfl⟩, _, rfl, S l, rfl, (by rw [S_len]; omega), fun ys p1 hp hs n1 => ?_⟩
    obtain ⟨b1, e1⟩ := joined (by omega) hp hs
    refine ⟨_, p1, ys, rfl, rfl, .inl (SqL.of upd_same), b1, ?_⟩
    rw [e1]
    have k3 := Same.kp (Same.trans s2 (upd_laid (o := .lst (ys.map V.str)) n1)) a
    have ha3 : (upd H2 p1 (.lst (ys.map V.str))) a = some (.ins C dx []) := upd_laid n1 _ _ ha2
    generalize upd H2 p1 (.lst (ys.map V.str)) = H3 at k3 ha3
    refine ⟨_, rfl, a, C, dx, [], rfl, ha3, A.cl, A.nL, (by show 0 < 1000; decide), ?_⟩
    have k4 := k3.trans (Kp.upd a H3 (.ins C dx (putF "letters" (.str (S (srtL l))) [])))
    have ha4 : (upd H3 a (.ins C dx (putF "letters" (.str (S (srtL l))) []))) a = some (.ins C dx [("letters", .str (S (srtL l)))]) := upd_same
    generalize upd H3 a (.ins C dx (putF "letters" (.str (S (srtL l))) [])) = H4 at k4 ha4
    -- vowels
    refine ⟨⟨_, rfl⟩, _, rfl, S v, rfl, (by rw [S_len]; omega), fun zs p2 hp2 hs2 n2 => ?_⟩
    obtain ⟨b2, e2⟩ := joined (by omega) hp2 hs2
    refine ⟨_, p2, zs, rfl, rfl, .inl (SqL.of upd_same), b2, ?_⟩
    rw [e2]
    have k5 := k4.trans (Same.kp (upd_laid (o := .lst (zs.map V.str)) n2) a)
    have ha5 : (upd H4 p2 (.lst (zs.map V.str))) a = some (.ins C dx [("letters", .str (S (srtL l)))]) := upd_laid n2 _ _ ha4
    generalize upd H4 p2 (.lst (zs.map V.str)) = H5 at k5 ha5
    refine ⟨_, rfl, a, C, dx, _, rfl, ha5, A.cl, A.nV, (by show 1 < 1000; decide), ?_⟩
    rw [put2]
    have k6 := k5.trans (Kp.upd a H5 (.ins C dx [("letters", .str (S (srtL l))), ("vowels", .str (S (srtL v)))]))
    have ha6 : (upd H5 a (.ins C dx [("letters", .str (S (srtL l))), ("vowels", .str (S (srtL v)))])) a = some (.ins C dx [("letters", .str (S (srtL l))), ("vowels", .str (S (srtL v)))]) := upd_same
    generalize upd H5 a (.ins C dx [("letters", .str (S (srtL l))), ("vowels", .str (S (srtL v)))]) = H6 at k6 ha6
    -- consonants
    have hk4 : (srtL l).length ≤ 4000 := by rw [srtL_len]; omega
    refine ⟨⟨_, rfl⟩, _, rfl, a, C, dx, _, _, rfl, ha6, A.cl, A.nL, rfl, _, rfl, fun D hD => lc_text (fun c => !decide (c ∈ v)) (fun c => V.str (S [c])) hk4 (fun _ => rfl) (fun c hc H3 Q3 _ q => ⟨_, rfl, _, rfl, c, S v, rfl, rfl, _, rfl, by rw [S_cps]; exact q⟩) (fun c hc _ H3 Q3 _ q => ⟨_, rfl, q⟩) ?_⟩
    have hc64 : (consL l v).length < 1000 := by
      have := List.length_filter_le (fun c => !decide (c ∈ v)) (srtL l)
      rw [srtL_len] at this
      unfold consL
      omega
    obtain ⟨b3, e3⟩ := joinedL hc64
    refine ⟨_, D, (consL l v).map fun c => S [c], rfl, rfl, .inl (SqL.of (by rw [List.map_map]; exact upd_same)), b3, ?_⟩
    rw [e3]
    have k7 := k6.trans (Same.kp (upd_laid (o := .lst (((srtL l).filter fun c => !decide (c ∈ v)).map fun c => V.str (S [c]))) hD) a)
    have ha7 := upd_laid (o := .lst (((srtL l).filter fun c => !decide (c ∈ v)).map fun c => V.str (S [c]))) hD _ _ ha6
    generalize upd H6 D (.lst (((srtL l).filter fun c => !decide (c ∈ v)).map fun c => V.str (S [c]))) = H7 at k7 ha7
    refine ⟨_, rfl, a, C, dx, _, rfl, ha7, A.cl, A.nC, (by show 2 < 1000; decide), ?_⟩
    rw [put3]
    have k8 := k7.trans (Kp.upd a H7 (.ins C dx [("letters", .str (S (srtL l))), ("vowels", .str (S (srtL v))), ("consonants", .str (S (consL l v)))]))
    have ha8 : (upd H7 a (.ins C dx [("letters", .str (S (srtL l))), ("vowels", .str (S (srtL v))), ("consonants", .str (S (consL l v)))])) a = some (.ins C dx [("letters", .str (S (srtL l))), ("vowels", .str (S (srtL v))), ("consonants", .str (S (consL l v)))]) := upd_same
    generalize upd H7 a (.ins C dx [("letters", .str (S (srtL l))), ("vowels", .str (S (srtL v))), ("consonants", .str (S (consL l v)))]) = H8 at k8 ha8
    -- signs
    refine ⟨C, mc, _, _, rfl, AV.rd, AV.joint, _, rfl, a, C, dx, _, _, rfl, ha8, A.cl, A.nL, rfl, _, _, rfl, rfl, ?_, _, rfl, a, C, dx, _, rfl, ha8, A.cl, A.nS, (by show 3 < 1000; decide), ?_⟩
    · refine sz4 ?_
      rw [S_len, srtL_len]
      have : (PySem.Str.ofString "-").length = 1 := by decide +kernel
      omega
    have e4 : PySem.Str.ofString "-" ++ S (srtL l) = S (45 :: srtL l) := by
      have : PySem.Str.ofString "-" = S [45] := by decide +kernel
      rw [this, S_app]
      rfl
    rw [e4, put4]
    exact kq hdue _ ⟨dx, upd_same⟩ (k8.trans (Kp.upd a H8 _))
end
end Vk
set_option Elab.async false
set_option linter.all false
set_option maxRecDepth 100000
set_option maxHeartbeats 4000000
namespace L2
open PySem PySem.Spec PyProof.Rows
/-! X40: a comprehension with two fors, by walks -/
def Inner (J1 : It) (g1 : TG) (tt1 : TT) (te : TE) (vs1 : List Nat) (σ2 : L2.St) (H4 : Hp) (D : Addr) (N : Hp → Prop) : Prop := ∃ W1 : Nat → Nat → Hp → Prop, (∃ m, W1 0 m H4) ∧ ∀ j k H, W1 j k H →
  (J1.stop j H ∧ N H) ∨ (J1.go j H ∧ ∃ Nx1 : Hp → Prop, (∀ H', Nx1 H' → ∃ k', k' < k ∧ W1 (j + 1) k' H') ∧ ∀ x H', J1.yld j H x H' → g1 x (wipe σ2 vs1) H' fun σ3 H5 => wipe σ3 vs1 = wipe σ2 vs1 ∧ tt1 σ3 H5 fun b H6 =>
    if b = true then te σ3 H6 fun y H7 => ∃ acc, H7 D = some (.lst acc) ∧ acc.length < sizeLine ∧ Nx1 (upd H7 D (.lst (acc ++ [y]))) else Nx1 H6)
def Lc2G (J : It) (g : TG) (tt : TT) (wi1 : TI) (g1 : TG) (tt1 : TT) (te : TE) (vs vs1 : List Nat) (σ : L2.St) (H1 : Hp) (D : Addr) (Q : VK) : Prop := ∃ W : Nat → Nat → Hp → Prop, (∃ m, W 0 m (upd H1 D (.lst []))) ∧ ∀ i m H, W i m H →
  (J.stop i H ∧ Q (.ref D) H) ∨ (J.go i H ∧ ∃ Nx : Hp → Prop, (∀ H', Nx H' → ∃ m', m' < m ∧ W (i + 1) m' H') ∧ ∀ x H', J.yld i H x H' → g x (wipe σ vs) H' fun σ2 H2 => wipe σ2 vs = wipe σ vs ∧ tt σ2 H2 fun b H3 =>
    if b = true then wi1 σ2 H3 fun J1 H4 => Inner J1 g1 tt1 te vs1 σ2 H4 D Nx else Nx H3)
section
variable {J J1 : It} {n : Nat} {G : Hp → Prop} {Y : Nat → Hp → V → Hp → Prop} {g g1 : TG} {tt tt1 : TT} {te : TE} {wi1 : TI} {vs vs1 : List Nat} {σ σ2 : L2.St} {H1 H4 : Hp} {D : Addr} {N : Hp → Prop} {Q : VK} {tl : TE}
theorem inner_it (w : Walk J1 n G Y) (Pw : Nat → Hp → Prop) (h0 : Pw 0 H4) (hG : ∀ i H, i ≤ n → Pw i H → G H)
    (hs : ∀ i x H H', i < n → Pw i H → Y i H x H' → g1 x (wipe σ2 vs1) H' fun σ3 H5 => wipe σ3 vs1 = wipe σ2 vs1 ∧ tt1 σ3 H5 fun b H6 =>
      if b = true then te σ3 H6 fun y H7 => ∃ acc, H7 D = some (.lst acc) ∧ acc.length < sizeLine ∧ Pw (i + 1) (upd H7 D (.lst (acc ++ [y]))) else Pw (i + 1) H6) (hd : ∀ H, Pw n H → N H) : Inner J1 g1 tt1 te vs1 σ2 H4 D N := by
  refine ⟨fun i m H => m = n - i ∧ i ≤ n ∧ Pw i H, ⟨n, by simp, Nat.zero_le _, h0⟩, ?_⟩
  rintro i m H ⟨rfl, hi, p⟩
  have q := hG i H hi p
  by_cases hlt : i < n
  · exact .inr ⟨w.goes i H hlt q, Pw (i + 1), fun H' p' => ⟨n - (i + 1), by omega, rfl, hlt, p'⟩, fun x H' y => hs i x H H' hlt p (w.yields i H x H' hlt q y)⟩
  · have e : i = n := by omega
    subst e
    exact .inl ⟨w.stops H q, hd H p⟩
theorem lc2_it (w : Walk J n G Y) (Pv : Nat → Hp → Prop) (h0 : Pv 0 (upd H1 D (.lst []))) (hG : ∀ i H, i ≤ n → Pv i H → G H)
    (hs : ∀ i x H H', i < n → Pv i H → Y i H x H' → g x (wipe σ vs) H' fun σ2 H2 => wipe σ2 vs = wipe σ vs ∧ tt σ2 H2 fun b H3 =>
      if b = true then wi1 σ2 H3 fun J1 H4 => Inner J1 g1 tt1 te vs1 σ2 H4 D (Pv (i + 1)) else Pv (i + 1) H3) (hd : ∀ H, Pv n H → Q (.ref D) H) : Lc2G J g tt wi1 g1 tt1 te vs vs1 σ H1 D Q := by
  refine ⟨fun i m H => m = n - i ∧ i ≤ n ∧ Pv i H, ⟨n, by simp, Nat.zero_le _, h0⟩, ?_⟩
  rintro i m H ⟨rfl, hi, p⟩
  have q := hG i H hi p
  by_cases hlt : i < n
  · exact .inr ⟨w.goes i H hlt q, Pv (i + 1), fun H' p' => ⟨n - (i + 1), by omega, rfl, hlt, p'⟩, fun x H' y => hs i x H H' hlt p (w.yields i H x H' hlt q y)⟩
  · have e : i = n := by omega
    subst e
    exact .inl ⟨w.stops H q, hd H p⟩
theorem iLc2S (h : tl σ H1 fun x H1 => ∃ z, x = .str z ∧ ∀ D, H1 D = none → Lc2G (Its z) g tt wi1 g1 tt1 te vs vs1 σ H1 D Q) : tLc2 (iStr tl) g tt wi1 g1 tt1 te vs vs1 σ H1 Q := h
theorem iLc2L {K : PySem.W.Frag} (h : tl σ H1 fun x H1 => ∃ a, x = .ref a ∧ (∃ xs, SqL K H1 a xs) ∧ ∀ D, H1 D = none → Lc2G (Itl K a) g tt wi1 g1 tt1 te vs vs1 σ H1 D Q) : tLc2 (iList K tl) g tt wi1 g1 tt1 te vs vs1 σ H1 Q := h
theorem iIStr {R : It → Hp → Prop} (h : tl σ H1 fun x H1 => ∃ z, x = .str z ∧ R (Its z) H1) : iStr tl σ H1 R := h
theorem iMakeD {C : Addr} {sp : Sp} {dvs : List V} {E : XK} {t : TA} {H : Hp} {Q : VK} (h : t σ H fun vs H1 => ∀ x dx, H1 x = none → H1 dx = none → dx ≠ x → sp (.ref x :: (vs ++ dvs)) (upd (upd H1 dx (.own x)) x (.ins C dx [])) (fun v H2 => v = .non ∧ Q (.ref x) H2) E) : tMake C sp dvs E t σ H Q := h
end
end L2
namespace Vk
open PySem PySem.Spec PyProof.Rows L2
theorem walk_S {l : List Nat} : Walk (Its (S l)) l.length (fun _ => True) (fun i H v H' => H' = H ∧ ∃ c, l[i]? = some c ∧ v = .str (S [c])) := by
  have w := walk_str (z := S l)
  rw [S_size] at w
  exact w.mono (fun _ h => h) fun i H x H' hi _ h => by
    obtain ⟨rfl, c, hc, rfl⟩ := h
    exact ⟨rfl, c, S_get.mp hc, rfl⟩
theorem iMakeV {C : Addr} {σ : L2.St} {sp : Sp} {dvs : List V} {E : XK} {tf : TE} {t : TA} {H : Hp} {Q : VK} (h : tf σ H fun v H0 => v = .ref C ∧ tMake C sp dvs E t σ H0 Q) : tMakeV C sp dvs E tf t σ H Q := h
end Vk
set_option Elab.async false
set_option linter.all false
set_option maxRecDepth 100000
set_option maxHeartbeats 4000000
namespace Vk
open PySem PySem.Spec PyProof.Rows L2 PySem.Builtin.Str
/-! X41: xs[::2], text[::-1] -/
/-- the first, the third, .. -/
def pick2 {α : Type} (xs : List α) : List α := (sliceRange (sliceBounds none none (some 2) xs.length).1 (sliceBounds none none (some 2) xs.length).2.1 (sliceBounds none none (some 2) xs.length).2.2).filterMap (xs[·]?)
theorem pick2_mem {α : Type} {xs : List α} {x : α} (h : x ∈ pick2 xs) : x ∈ xs := by
  unfold pick2 at h
  obtain ⟨i, _, e⟩ := List.mem_filterMap.mp h
  exact List.mem_of_getElem? e
theorem pick2_len {α : Type} (xs : List α) : (pick2 xs).length ≤ xs.length := by
  unfold pick2
  refine Nat.le_trans (List.length_filterMap_le _ _) (sliceRange_length_le _ _ _ _ (fun _ => ?_) fun hc => ?_)
  · simp [sliceBounds]
  · simp [sliceBounds] at hc
theorem pick2_map {α β : Type} (f : α → β) (xs : List α) : pick2 (xs.map f) = (pick2 xs).map f := by
  unfold pick2
  rw [List.length_map, List.map_filterMap]
  congr 1
  funext i
  rw [List.getElem?_map]
theorem vals_pick : ∀ (is : List Nat) {xs : List V} {us : List Value}, Vals xs us → Vals (is.filterMap (xs[·]?)) (is.filterMap (us[·]?))
  | [], _, _, _ => .nil
  | i :: is, xs, us, r => by
    have ih := vals_pick is r
    have hl := r.length
    by_cases h : i < xs.length
    · have e1 : xs[i]? = some xs[i] := List.getElem?_eq_getElem h
      obtain ⟨u, e2, ru⟩ := r.get e1
      rw [List.filterMap_cons, List.filterMap_cons, e1, e2]
      exact .cons ru ih
    · have e1 : xs[i]? = none := List.getElem?_eq_none (by omega)
      have e2 : us[i]? = none := List.getElem?_eq_none (by omega)
      rw [List.filterMap_cons, List.filterMap_cons, e1, e2]
      exact ih
def tStep2 (K : PySem.W.Frag) (te : TE) : TE := fun σ H Q => te σ H fun x H1 => ∃ a xs, x = .ref a ∧ SqL K H1 a xs ∧ ∀ p, H1 p = none → Q (.ref p) (upd H1 p (.lst (pick2 xs)))
section
variable {X : Cx}
theorem pe_step2L {e : Expr} {te : TE} {k : Nat} {p1 p3 pos : Pos} (he : PE X e te) : PE X (.Subscript e (.Slice none none (some (.Constant (.int 2) k p1)) p3) pos) (tStep2 X.K te) := by
  refine ⟨fun pins s σ H Q I h => ?_⟩
  refine Subscript_ (thn (he.run pins s σ H _ I h) fun v s1 ⟨x, H1, I1, r1, q1⟩ => ?_)
  obtain ⟨a, xs, rfl, hx, q⟩ := q1
  cases r1
  have hst : PO X (some (.Constant (.int 2) k p1)) (tPart (tC (.int 2))) := po_some pe_int
  refine wpAny_Slice (thn (po_none.run pins s1 σ H1 (fun o H2 => o = none ∧ H2 = H1) I1 ⟨rfl, rfl⟩) fun vl s2 ⟨l, H2, I2, pl, el, e2⟩ => ?_)
  subst el e2
  refine thn (po_none.run pins s2 σ H2 (fun o H3 => o = none ∧ H3 = H2) I2 ⟨rfl, rfl⟩) fun vu s3 ⟨u, H3, I3, pu, eu, e3⟩ => ?_
  subst eu e3
  refine thn (hst.run pins s3 σ H3 (fun o H4 => o = some 2 ∧ H4 = H3) I3 ⟨2, rfl, rfl, rfl⟩) fun vs s4 ⟨o, H4, I4, ps, eo, e4⟩ => ?_
  subst eo e4
  have I5 : Inv X pins σ H4 { s4 with heap := s4.heap.push { cls := .type "slice", data := .fields #[vl, vu, vs] } } := I4.kept (t' := s4.toks) fun b ob q => Heap.get?_push_of_some _ q
  obtain ⟨its, r, ht, hz⟩ := I5.list hx
  have hlen := r.length
  refine tail_any (ops := [.ref a, .ref s4.heap.objs.size]) ht.isList.typeIs (PySem.slot_list_getitem.lookup) ?_ (by with_unfolding_all rfl)
  refine wpAny_getItem_list_slice ht.isList (Heap.IsSliceOf.new _ vl vu vs) pl pu ps (by decide) ?_ (by rw [List.size_toArray]; omega)
  have hp := vals_pick (sliceRange (sliceBounds none none (some 2) xs.length).1 (sliceBounds none none (some 2) xs.length).2.1 (sliceBounds none none (some 2) xs.length).2.2) r
  have el : slicePick its.toArray none none (some 2) = ((sliceRange (sliceBounds none none (some 2) xs.length).1 (sliceBounds none none (some 2) xs.length).2.1 (sliceBounds none none (some 2) xs.length).2.2).filterMap (its[·]?)).toArray := by
    unfold slicePick
    rw [List.size_toArray, hlen]
    simp
  rw [el]
  refine ⟨.ref _, _, I5.laid (t' := s4.toks) (o := .lst (pick2 xs)) (fun b ob q => Heap.get?_push_of_some _ q) (Nat.le_refl _) ?_, rfl, q _ (I5.hok.fresh (Nat.le_refl _))⟩
  exact ⟨Nat.le_trans (pick2_len xs) hz, _, 0, hp, Heap.get?_push_size _ rfl⟩
def tRevS (te : TE) : TE := fun σ H Q => te σ H fun x H1 => ∃ l : List Nat, x = .str (S l) ∧ l.length ≤ 100000 ∧ Q (.str (S l.reverse)) H1
theorem rev_S (l : List Nat) : (⟨((strSliceIndices none none (-1) (S l).length).filterMap ((S l).cps[·]?)).toArray⟩ : Str) = S l.reverse := by
  have e : strSliceIndices none none (-1) (S l).length = (List.range (S l).cps.size).reverse := by
    show sliceRange (((S l).cps.size : Int) - 1) (-1) (-1) = _
    rw [PySem.W.krv_sliceRange, PySem.W.krv_range]
  rw [e, List.filterMap_reverse, PySem.W.krv_all, S_cps]
  rfl
theorem pe_revS {e : Expr} {te : TE} {k : Nat} {p1 p2 p3 pos : Pos} (he : PE X e te) : PE X (.Subscript e (.Slice none none (some (.UnaryOp .USub (.Constant (.int 1) k p1) p2)) p3) pos) (tRevS te) := by
  refine ⟨fun pins s σ H Q I h => ?_⟩
  refine Subscript_ (thn (he.run pins s σ H _ I h) fun v s1 ⟨x, H1, I1, r1, q1⟩ => ?_)
  obtain ⟨z, rfl, hz, q⟩ := q1
  obtain ⟨t, rfl⟩ := r1
  have hst : PO X (some (.UnaryOp .USub (.Constant (.int 1) k p1) p2)) (tPart (tUn (rU fun i => .int (-i)) (tC (.int 1)))) := po_some (pe_un un_neg pe_int)
  refine wpAny_Slice (thn (po_none.run pins s1 σ H1 (fun o H2 => o = none ∧ H2 = H1) I1 ⟨rfl, rfl⟩) fun vl s2 ⟨l, H2, I2, pl, el, e2⟩ => ?_)
  subst el e2
  refine thn (po_none.run pins s2 σ H2 (fun o H3 => o = none ∧ H3 = H2) I2 ⟨rfl, rfl⟩) fun vu s3 ⟨u, H3, I3, pu, eu, e3⟩ => ?_
  subst eu e3
  refine thn (hst.run pins s3 σ H3 (fun o H4 => o = some (-1) ∧ H4 = H3) I3 ⟨1, rfl, -1, rfl, rfl, rfl⟩) fun vs s4 ⟨o, H4, I4, ps, eo, e4⟩ => ?_
  subst eo e4
  have I5 : Inv X pins σ H4 { s4 with heap := s4.heap.push { cls := .type "slice", data := .fields #[vl, vu, vs] } } := I4.kept (t' := s4.toks) fun b ob q => Heap.get?_push_of_some _ q
  refine tail_any (ops := [.str (S z) t, .ref s4.heap.objs.size]) (typeIs_str _ _ _) F.slot_str_getitem.lookup ?_ (by with_unfolding_all rfl)
  obtain ⟨os, hos, hcs, hds⟩ := Heap.IsSliceOf.new s4.heap vl vu vs
  obtain ⟨l, rfl, el⟩ := IsPart.raw pl
  obtain ⟨u, rfl, eu⟩ := IsPart.raw pu
  obtain ⟨w, rfl, ew⟩ := IsPart.raw ps
  refine wpAny_getItem_str_slice (l := l) (u := u) (st := w) ⟨os, hos, hcs, hds⟩ (by rw [ew]; rfl) ?_
  unfold sliceMade slicePicked
  rw [el, eu, ew]
  show Made.post (if (((-1 : Int) == 1) && _) = true then _ else Made.str ⟨((strSliceIndices none none (-1) (S z).length).filterMap ((S z).cps[·]?)).toArray⟩) (EP X pins σ Q) _
  rw [if_neg (by simp), rev_S]
  refine ⟨by rw [S_len, List.length_reverse, sizeLine_eq]; omega, .str _, H4, I5.tok _, ⟨_, rfl⟩, q⟩
end
theorem iStep2 {K : PySem.W.Frag} {te : TE} {σ : L2.St} {H : Hp} {Q : VK} (h : te σ H fun x H1 => ∃ a xs, x = .ref a ∧ SqL K H1 a xs ∧ ∀ p, H1 p = none → Q (.ref p) (upd H1 p (.lst (pick2 xs)))) : tStep2 K te σ H Q := h
theorem iRevL {K : PySem.W.Frag} {te : TE} {σ : L2.St} {H : Hp} {Q : VK} (h : te σ H fun x H1 => ∃ a xs, x = .ref a ∧ SqL K H1 a xs ∧ ∀ p, H1 p = none → Q (.ref p) (upd H1 p (.lst xs.reverse))) : tRevL K te σ H Q := h
theorem iRevS {te : TE} {σ : L2.St} {H : Hp} {Q : VK} (h : te σ H fun x H1 => ∃ l : List Nat, x = .str (S l) ∧ l.length ≤ 100000 ∧ Q (.str (S l.reverse)) H1) : tRevS te σ H Q := h
end Vk
set_option Elab.async false
set_option linter.all false
set_option maxRecDepth 100000
set_option maxHeartbeats 4000000
namespace Vk
open PySem PySem.Spec PyProof.Rows L2
theorem ns_fun {h : Heap} {a : Addr} {m m' : Str → Option Value} (x : h.Ns a m) (y : h.Ns a m') (n : Str) : m n = m' n := by
  obtain ⟨o, es, ep, ho, hd, _, f⟩ := x
  obtain ⟨o', es', ep', ho', hd', _, f'⟩ := y
  rw [ho] at ho'
  cases ho'
  rw [hd] at hd'
  cases hd'
  rw [← f, f']
/-- the local y holds this very value -/
def RawAt (X : Cx) (s : Shared) (y : Str) (u : Value) : Prop := ∃ m, s.heap.Ns X.env.locals m ∧ m y = some u
section
variable {X : Cx} {pins : List (Addr × Obj)} {σ : L2.St} {H : Hp} {s : Shared}
theorem set_raw {M : Model} {A : Around} {E : Value → Shared → Prop} {i : Nat} {x : Str} {v : V} {u : Value} {Q : Unit → Shared → Prop} (I : Inv X pins σ H s) (hN : X.N.Nodup) (hi : X.N[i]? = some x) (hk : X.env.kindOf x = some .local) (r : RelV v u)
    (h : ∀ s', Inv X pins (σ.set i (some v)) H s' → RawAt X s' x u → (∀ y w, y ≠ x → RawAt X s y w → RawAt X s' y w) → s'.toks = s.toks + 1 → Q () s') : wpAny M A (storeName X.env x u) Q E s := by
  obtain ⟨m, hn, hl⟩ := id I.loc
  have hcls : (X.env.scope.kind == .class || (X.env.scope.kind == .module && X.env.locals != X.env.globals)) = false := by rw [I.ok.kind]; rfl
  have hiσ : i < σ.length := by rw [I.len]; exact (List.getElem?_eq_some_iff.mp hi).1
  refine wpAny_storeName_local hk hn (fun h' hn' hs => ?_) hcls
  obtain ⟨oL, _, _, hoL, _⟩ := id hn
  have old : ∀ b o, X.s_0.heap.get? b = some o → b ≠ X.env.locals := fun b o e => Nat.ne_of_lt (Nat.lt_of_lt_of_le (Heap.lt_size e) I.ok.above)
  refine h _ ⟨I.ok, I.os, I.bare, ⟨fun b o e n hb hx => (hs.2 b (old b o e)).trans (I.base.keep b o e n hb hx), fun b o e n hb hx => ?_, I.base.free, fun b o e hx => ?_, I.base.tups, I.base.frzs, I.base.tbls⟩, ⟨_, hn', fun j y v' e1 e2 e3 => ?_⟩, fun y c e => ?_, I.free, I.freeC, fun p hp => ?_, fun b ob e => ?_, by simpa using I.len⟩
    ⟨_, hn', if_pos rfl⟩ (fun y w hne ⟨m2, hn2, e2⟩ => ⟨_, hn', by rw [if_neg hne, ns_fun hn hn2 y, e2]⟩) rfl
  · obtain ⟨sl, e1⟩ := I.base.slot b o e n hb hx
    exact ⟨sl, (hs.2 b (old b o e)).trans e1⟩
  · obtain ⟨o', e1⟩ := I.base.there b o e hx
    exact ⟨o', (hs.2 b (old b o e)).trans e1⟩
  · by_cases hj : j = i
    · subst hj
      rw [hi] at e1
      cases e1
      rw [List.getElem?_set_self hiσ] at e2
      cases e2
      exact ⟨u, r, .inl ⟨hk, if_pos rfl⟩⟩
    · rw [List.getElem?_set_ne (Ne.symm hj)] at e2
      obtain ⟨u', r', q⟩ := hl j y v' e1 e2 e3
      refine ⟨u', r', ?_⟩
      rcases q with ⟨k, e⟩ | ⟨k, c, e, z⟩
      · have ny : y ≠ x := fun e => hj (nodup_ix hN e1 (e ▸ hi))
        exact .inl ⟨k, (if_neg ny).trans e⟩
      · exact .inr ⟨k, c, e, z.sameBut hs (I.cne y c e)⟩
  · obtain ⟨w', z⟩ := I.cell y c e
    exact ⟨w', z.sameBut hs (I.cne y c e)⟩
  · obtain ⟨e, n, ne, nf, d⟩ := I.pin p hp
    exact ⟨(hs.2 p.1 ne).trans e, n, ne, nf, d⟩
  · refine (I.hok b ob e).stay (fun c w' hc q => (hs.2 c ?_).trans q) (fun _ q => q) fun _ _ q => q
    intro z
    subst z
    rcases hc with hc | hc
    · rw [← hc, I.free] at e
      cases e
    · rw [I.free] at hc
      cases hc
theorem raw_var {M : Model} {A : Around} {y : Str} {u : Value} {pos : Pos} {Q E : Value → Shared → Prop} (I : Inv X pins σ H s) (r : RawAt X s y u) (hk : X.env.kindOf y = some .local) (h : Q u s) (hd : (y == ("__debug__" : Str)) = false := by decide) : wpAny M A (eval (.Name y pos) X.env) Q E s := by
  obtain ⟨m, hn, hm⟩ := r
  exact wpAny_Name (wpAny_loadName_local I.ok.kind hk hn hm h) hd
end
/-! a for whose body may know that a token is out -/
section
variable {X : Cx}
theorem pst_forT {tg iter : Expr} {body : List Stmt} {wi : TI} {g : TG} {tb : TS} {pos : Pos} (hp : PassesOwn (model X.prog X.w) X.A X.env X.xe) (hc : X.calm = true) (hi : PI X tg iter wi) (hg : PG X tg g) (hb : PSsT X body tb)
    (hs : ∀ x, foldedSetIterable iter X.env x = pure x := by intro _; rfl) : PST X (.For tg iter body [] pos) (tFor wi g tb) := by
  intro pins s σ H D h0 I h
  refine wpAny_For (wpAny_mono (PySem.wpAny_toks_of h0 (hi.run pins s σ H _ I h)) (fun v s1 h1 => wpAny_mono (PySem.wpAny_toks_of h1.1 h1.2) (fun itv s2 h2 => ?_) fun _ _ z => z.2) fun _ _ z => z.2) hs
  obtain ⟨k2, it, fp, tn, J, H2, e, I2, T, st2, f2, W, ⟨m0, w0⟩, turn⟩ := h2
  subst e
  have stat : ∀ {H' : Hp}, (∀ b ∈ fp, H' b = none) → ∀ b ∈ fp, FpOk X pins H' b := fun hn b hb => ⟨hn b hb, (f2 b hb).2⟩
  refine codeAny_forLoop_any (fun n s' => 1 ≤ s'.toks ∧ ∃ i σ' H', Inv X pins σ' H' s' ∧ tn i s'.heap ∧ (∀ b ∈ fp, H' b = none) ∧ W i n σ' H') ?_ m0 ⟨k2, 0, σ, H2, I2, st2, fun b hb => (f2 b hb).1, w0⟩
  rintro n s3 ⟨k3, i, σ3, H3, I3, st3, fr3, w3⟩
  rcases turn i n σ3 H3 w3 with ⟨stop, qn⟩ | ⟨go, N, hN, step⟩
  · refine wpAny_passesOwn hp (thn (T.done X rfl rfl rfl hc i pins s3 σ3 H3 X.xe I3 (stat fr3) st3 stop) fun r s4 ⟨hr, I4⟩ => ?_)
    subst hr
    exact wpAny_execs_nil ⟨σ3, H3, I4, qn⟩
  · refine wpAny_passesOwn hp (wpAny_mono (PySem.wpAny_toks_of k3 (T.item X rfl rfl rfl hc i pins s3 σ3 H3 X.xe I3 (stat fr3) st3 go)) (fun r s4 h4 => ?_) fun _ _ z => z.2)
    obtain ⟨k4, u, hr, h4⟩ := h4
    subst hr
    refine wpAny_passesOwn hp (wpAny_mono (PySem.wpAny_toks_of k4 h4) (fun _ s5 h5 => ?_) fun _ _ z => z.2)
    obtain ⟨k5, x, H5, I5, r5, y5, st5, fr5⟩ := h5
    have I5' := I5.pinned (stat fr5) (T.obj _ _ st5)
    refine wpAny_passesOwn hp (wpAny_mono (PySem.wpAny_toks_of k5 (hg.run _ s5 σ3 H5 x u _ I5' r5 (step x H5 y5))) (fun _ s6 h6 => ?_) fun _ _ z => z.2)
    obtain ⟨k6, σ6, H6, I6, q6⟩ := h6
    refine wpAny_passesOwn hp (wpAny_mono (PySem.wpAny_toks_of k6 (hb _ s6 σ6 H6 _ k6 I6 q6)) (fun f s7 q7 => ?_) fun _ _ z => z.2)
    obtain ⟨k7, q7⟩ := q7
    have again : ∀ {σ7 : L2.St} {H7 : Hp}, Inv X (pins ++ pinsAt fp s5.heap) σ7 H7 s7 → N σ7 H7 → ∃ m, m < n ∧ 1 ≤ s7.toks ∧ ∃ i σ' H', Inv X pins σ' H' s7 ∧ tn i s7.heap ∧ (∀ b ∈ fp, H' b = none) ∧ W i m σ' H' := fun {σ7 H7} I7 n7 => by
      obtain ⟨m', hm, w7⟩ := hN σ7 H7 n7
      refine ⟨m', hm, k7, i + 1, σ7, H7, I7.unpinned, T.keep _ _ _ st5 fun b hb o e => (I7.pin (b, o) (List.mem_append_right _ (List.mem_append_right _ (mem_pinsAt hb e)))).1, fun b hb => ?_, w7⟩
      obtain ⟨o, e, d⟩ := T.obj _ _ st5 b hb
      exact (I7.pin (b, o) (List.mem_append_right _ (List.mem_append_right _ (mem_pinsAt hb e)))).2.1
    cases f with
    | next => obtain ⟨σ7, H7, I7, n7⟩ := q7; exact again I7 n7
    | cont => obtain ⟨σ7, H7, I7, n7⟩ := q7; exact again I7 n7
    | brk => obtain ⟨σ7, H7, I7, q7⟩ := q7; exact ⟨σ7, H7, I7.unpinned, q7⟩
    | ret v => obtain ⟨x7, σ7, H7, I7, r7, q7⟩ := q7; exact ⟨x7, σ7, H7, I7.unpinned, r7, q7⟩
/-- letter = pool[e]; pool = pool.replace(letter, '') -/
def tPool (ip il : Nat) (te : TE) (u : TS) : TS := fun D σ H => ∃ l : List Nat, σ[ip]? = some (some (.str (S l))) ∧ l.length ≤ 1000 ∧ te σ H fun v H1 => ∃ (r c : Nat), v = .int (r : Int) ∧ l[r]? = some c ∧
  u D ((σ.set il (some (.str (S [c])))).set ip (some (.str (Txt.replace (S l) (S [c]) (S []))))) H1
theorem pss_pool {ip il : Nat} {xp xl : Str} {e : Expr} {te : TE} {rest : List Stmt} {u : TS} {j : Nat} {a1 a2 a3 a4 b1 b2 b3 b4 b5 b6 b7 : Pos} (hNd : X.N.Nodup) (hip : X.N[ip]? = some xp) (hil : X.N[il]? = some xl) (hne : ip ≠ il)
    (hvp : Vis X.env.scope xp) (hkp : X.env.kindOf xp = some .local) (hkl : X.env.kindOf xl = some .local) (he : PE X e te) (h2 : PSs X rest u)
    (hsl : PlainIx e) (dp : (xp == ("__debug__" : Str)) = false) (cp : (xp == ("__classdict__" : Str)) = false) (dl : (xl == ("__debug__" : Str)) = false)
    (hs1 : swapsWith (.Subscript (.Name xp a3) e a4) (some (.Name xl a1)) a2.line X.env = pure false := by rfl)
    (hs2 : swapsWith (.Call (.Attribute (.Name xp b3) "replace" b4) [.Name xl b5, .Constant (.str "") j b6] [] b7) (some (.Name xp b1)) b2.line X.env = pure false := by rfl) (hline : (b4.endLine == b7.line) = true := by rfl) :
    PSsT X (.Assign [.Name xl a1] (.Subscript (.Name xp a3) e a4) a2 :: .Assign [.Name xp b1] (.Call (.Attribute (.Name xp b3) "replace" b4) [.Name xl b5, .Constant (.str "") j b6] [] b7) b2 :: rest) (tPool ip il te u) := by
  intro pins s σ H D k0 I h
  obtain ⟨l, hl, hlen, h⟩ := h
  refine wpAny_execs_cons (wpAny_Assign_Name (Subscript_ (raw_name hip hvp I hl (fun u0 r0 => ?_) dp cp)) hs1)
  obtain ⟨tz, rfl⟩ := r0
  refine wpAny_mono (PySem.wpAny_toks_of k0 (he.run pins s σ H _ I h)) (fun u1 s1 h1 => ?_) fun _ _ z => z.2
  obtain ⟨k1, v, H1, I1, r1, r, c, rfl, hr, h⟩ := h1
  obtain ⟨t1, rfl⟩ := r1
  have hlt : r < l.length := (List.getElem?_eq_some_iff.mp hr).1
  have e1 : decide ((r : Int) < -(2 ^ 63 : Int)) = false := decide_eq_false (by omega)
  have e2 : decide ((r : Int) ≥ 2 ^ 63) = false := decide_eq_false (by omega)
  refine tail_any (typeIs_str s1 (S l) tz) slot_str_getitem.lookup (getItem_str (c := c) (by rw [e1, e2]; rfl) ?_ ?_) (hsl _ _)
  · obtain ⟨q, q1, q2, _⟩ := atI_get (atI_nat hr)
    rw [S_len, q1]
    exact S_get.mpr q2
  · refine set_raw (i := il) (v := .str (S [c])) (I1.tok _) hNd hil hkl ⟨_, rfl⟩ (fun s2 I2 ra ro ht => ?_)
    have ht' : s2.toks = s1.toks + 1 + 1 := ht
    have hl2 : (σ.set il (some (.str (S [c]))))[ip]? = some (some (.str (S l))) := by rw [List.getElem?_set_ne (fun z => hne z.symm)]; exact hl
    refine wpAny_execs_cons (wpAny_Assign_Name (PySem.Call_method2 rfl rfl hline (raw_name hip hvp I2 hl2 (fun u3 r3 => ?_) dp cp)) hs2)
    obtain ⟨tx, rfl⟩ := r3
    refine ⟨"str", _, F.plainAttrs_str, F.slot_str_replace, F.type_str_replace, typeIs_str _ _ _, (fun _ e => nomatch e), Calls.callWith_builtin rfl (Calls.evalArgs_plain (Calls.spliced_cons ?_))⟩
    refine raw_var I2 ra hkl (Calls.spliced_cons (Calls.Constant_str (Calls.spliced_nil ?_))) dl
    have e0 : (PySem.Str.ofString "") = S [] := by decide +kernel
    have h0 : (PySem.Str.ofString "").length = 0 := by rw [e0]; exact S_len []
    have z1 : s1.toks ≠ 0 := by omega
    have z2 : s2.toks ≠ 0 := by omega
    have z3 : s1.toks ≠ s2.toks := by omega
    refine PySem.SC.replace z1 z2 z3 ?_ (by rw [S_len, h0]; omega) fun t' k' => ?_
    · refine beq_eq_false_iff_ne.mpr fun e => ?_
      rw [e0] at e
      have e3 : [c] = [] := S_inj.mp e
      cases e3
    · rw [e0]
      exact set_raw (i := ip) (v := .str (Txt.replace (S l) (S [c]) (S []))) (I2.tok _) hNd hip hkp ⟨_, rfl⟩ (fun s4 I4 _ _ _ => h2.run pins s4 _ H1 D I4 h)
end
theorem joinL_nil (p : List Nat) (r : List (List Nat)) : TL.joinL [] (p :: r) = p ++ TL.joinL [] r := by
  cases r with
  | nil => show p = p ++ []; rw [List.append_nil]
  | cons q r => rfl
theorem spl_del {c : Nat} : ∀ (l acc : List Nat), (TL.joinL [] (TL.spl [c] 0 acc l)) = acc ++ l.filter (· != c)
  | [], acc => by
    show acc = acc ++ []
    rw [List.append_nil]
  | x :: r, acc => by
    show TL.joinL [] (if TL.pre [c] (x :: r) = true then acc :: TL.spl [c] 0 [] r else TL.spl [c] 0 (acc ++ [x]) r) = _
    have hp : TL.pre [c] (x :: r) = decide (x = c) := by
      show ([x] == [c]) = _
      by_cases h : x = c <;> simp [h]
    rw [hp]
    by_cases h : x = c
    · rw [decide_eq_true h, if_pos rfl, joinL_nil, spl_del r []]
      simp [h]
    · rw [decide_eq_false h, if_neg Bool.false_ne_true, spl_del r (acc ++ [x]), List.filter_cons_of_pos (by simpa using h)]
      simp
theorem repl_S {l : List Nat} {c : Nat} (hc : c < 256) : Txt.replace (S l) (S [c]) (S []) = S (l.filter (· != c)) := by
  have h := StrLaws.replace_one (S l) (S []) c
  rw [show (⟨#[c]⟩ : Str) = S [c] from rfl] at h
  rw [h]
  have e1 : TL.tl (S [c]) = [c] := by simp [TL.tl, S]
  have e2 : TL.tl (S l) = l := by simp [TL.tl, S]
  have e3 : TL.tl (S ([] : List Nat)) = [] := by simp [TL.tl, S]
  have q := TL.tl_join (S []) (Txt.split (S l) (S [c]))
  rw [TL.split_spl _ _ (by rw [e1]; simp) (TL.kind_ok (by simp [S, hc])), e1, e2, e3, spl_del, List.nil_append] at q
  rw [S_of (Str.join (S []) (Txt.split (S l) (S [c])))]
  congr 1
end Vk
set_option Elab.async false
set_option linter.all false
set_option maxRecDepth 100000
set_option maxHeartbeats 4000000
namespace Vk
open PySem PySem.Spec PyProof.Rows L2
/-! X42: a comprehension over a written text whose items' tokens are told: [c for c in 'abc' if c not in letters] -/
/-- one-sign texts, their tokens from k on, below m -/
def TokIs (k m : Nat) : List Nat → List Value → Prop := Paired fun c u => ∃ t : Nat, k ≤ t ∧ t < m ∧ u = Value.str ⟨#[c]⟩ t
def TokAt (D : Addr) (k m : Nat) (l : List Nat) (h : Heap) : Prop := ∃ its n, TokIs k m l its ∧ h.get? D = some { cls := .type "list", data := .seq its.toArray n }
def TokL (D : Addr) (k m : Nat) (l : List Nat) : HO := HO.ext (TokAt D k m l)
theorem TokIs.app {k m m' : Nat} (hm : m ≤ m') : ∀ {l : List Nat} {its : List Value} {c t : Nat}, TokIs k m l its → k ≤ t → t < m' → TokIs k m' (l ++ [c]) (its ++ [Value.str ⟨#[c]⟩ t])
  | _, _, _, _, .nil, ht, h2 => .cons ⟨_, ht, h2, rfl⟩ .nil
  | _, _, _, _, .cons ⟨t0, a, b, e⟩ rr, ht, h2 => .cons ⟨t0, a, Nat.lt_of_lt_of_le b hm, e⟩ (TokIs.app hm rr ht h2)
theorem TokIs.get {k m : Nat} : ∀ {l : List Nat} {its : List Value} {i c : Nat}, TokIs k m l its → l[i]? = some c → ∃ t : Nat, k ≤ t ∧ t < m ∧ its[i]? = some (Value.str ⟨#[c]⟩ t)
  | _, _, _, _, .nil, e => by simp at e
  | _, _, 0, _, .cons ⟨t, h1, h3, h2⟩ _, e => by simp at e; subst e; exact ⟨t, h1, h3, by simp [h2]⟩
  | _, _, i + 1, c, .cons _ rr, e => by
    obtain ⟨t, h1, h3, h2⟩ := TokIs.get (i := i) (c := c) rr (by simpa using e)
    exact ⟨t, h1, h3, by simpa using h2⟩
theorem TokIs.length {k m : Nat} {l : List Nat} {its : List Value} (h : TokIs k m l its) : l.length = its.length := Paired.length h
section
variable {X : Cx} {pins : List (Addr × Obj)} {σ : L2.St} {H : Hp} {s : Shared}
theorem tokL_ok {D : Addr} {k m : Nat} {l : List Nat} {P : Program} {w : World} {h : Heap} (e : TokAt D k m l h) : ObjOk P w H h D (TokL D k m l) := by
  refine ⟨e, ?_, fun h1 h2 e1 kk => ?_⟩
  · obtain ⟨its, n, _, e⟩ := e
    exact ⟨_, e⟩
  · obtain ⟨its, n, r, e⟩ := e1
    exact ⟨its, n, r, kk _ e⟩
theorem Inv.tokAt (I : Inv X pins σ H s) {D : Addr} {k m : Nat} {l : List Nat} (h : H D = some (TokL D k m l)) : TokAt D k m l s.heap := (I.hok D _ h).1
theorem app_tok {E : Value → Shared → Prop} {D : Addr} {k m m' c t : Nat} {l : List Nat} {Q : Value → Shared → Prop} (I : Inv X pins σ H s) (hD : H D = some (TokL D k m l)) (hz : l.length < 1000) (hm : m ≤ m') (ht : k ≤ t) (ht2 : t < m')
    (h : ∀ h', Heap.SameBut D s.heap h' → Inv X pins σ (upd H D (TokL D k m' (l ++ [c]))) { s with heap := h' } → Q .none { s with heap := h' }) : wpAny (model X.prog X.w) X.A (call (.builtin "list.append") [.ref D, .str ⟨#[c]⟩ t]) Q E s := by
  obtain ⟨its, n, ri, e⟩ := Inv.tokAt I hD
  have hl := ri.length
  refine append_at (hsz := by rw [List.size_toArray]; have : (1000 : Nat) < sizeLine := by decide
                              omega) e fun h' sb ho' => ?_
  refine h h' sb (I.write (t' := s.toks) (by rw [hD]; trivial) (.inl rfl) (fun b u hb q => (sb.2 b hb).trans q) ⟨_, ho'⟩ (tokL_ok ⟨its ++ [.str ⟨#[c]⟩ t], n + 1, ri.app hm ht ht2, ?_⟩))
  rw [ho']
  simp
theorem set_raw2 {M : Model} {A : Around} {E : Value → Shared → Prop} {i : Nat} {x : Str} {v : V} {u : Value} {Q : Unit → Shared → Prop} (I : Inv X pins σ H s) (hN : X.N.Nodup) (hi : X.N[i]? = some x) (hk : X.env.kindOf x = some .local) (r : RelV v u)
    (h : ∀ s', Inv X pins (σ.set i (some v)) H s' → RawAt X s' x u → (∀ y w, y ≠ x → RawAt X s y w → RawAt X s' y w) → s'.toks = s.toks + 1 → Heap.SameBut X.env.locals s.heap s'.heap → Q () s') : wpAny M A (storeName X.env x u) Q E s := by
  obtain ⟨m, hn, hl⟩ := id I.loc
  have hcls : (X.env.scope.kind == .class || (X.env.scope.kind == .module && X.env.locals != X.env.globals)) = false := by rw [I.ok.kind]; rfl
  have hiσ : i < σ.length := by rw [I.len]; exact (List.getElem?_eq_some_iff.mp hi).1
  refine wpAny_storeName_local hk hn (fun h' hn' hs => ?_) hcls
  obtain ⟨oL, _, _, hoL, _⟩ := id hn
  have old : ∀ b o, X.s_0.heap.get? b = some o → b ≠ X.env.locals := fun b o e => Nat.ne_of_lt (Nat.lt_of_lt_of_le (Heap.lt_size e) I.ok.above)
  refine h _ ⟨I.ok, I.os, I.bare, ⟨fun b o e n hb hx => (hs.2 b (old b o e)).trans (I.base.keep b o e n hb hx), fun b o e n hb hx => ?_, I.base.free, fun b o e hx => ?_, I.base.tups, I.base.frzs, I.base.tbls⟩, ⟨_, hn', fun j y v' e1 e2 e3 => ?_⟩, fun y c e => ?_, I.free, I.freeC, fun p hp => ?_, fun b ob e => ?_, by simpa using I.len⟩
    ⟨_, hn', if_pos rfl⟩ (fun y w hne ⟨m2, hn2, e2⟩ => ⟨_, hn', by rw [if_neg hne, ns_fun hn hn2 y, e2]⟩) rfl hs
  · obtain ⟨sl, e1⟩ := I.base.slot b o e n hb hx
    exact ⟨sl, (hs.2 b (old b o e)).trans e1⟩
  · obtain ⟨o', e1⟩ := I.base.there b o e hx
    exact ⟨o', (hs.2 b (old b o e)).trans e1⟩
  · by_cases hj : j = i
    · subst hj
      rw [hi] at e1
      cases e1
      rw [List.getElem?_set_self hiσ] at e2
      cases e2
      exact ⟨u, r, .inl ⟨hk, if_pos rfl⟩⟩
    · rw [List.getElem?_set_ne (Ne.symm hj)] at e2
      obtain ⟨u', r', q⟩ := hl j y v' e1 e2 e3
      refine ⟨u', r', ?_⟩
      rcases q with ⟨k, e⟩ | ⟨k, c, e, z⟩
      · have ny : y ≠ x := fun e => hj (nodup_ix hN e1 (e ▸ hi))
        exact .inl ⟨k, (if_neg ny).trans e⟩
      · exact .inr ⟨k, c, e, z.sameBut hs (I.cne y c e)⟩
  · obtain ⟨w', z⟩ := I.cell y c e
    exact ⟨w', z.sameBut hs (I.cne y c e)⟩
  · obtain ⟨e, n, ne, nf, d⟩ := I.pin p hp
    exact ⟨(hs.2 p.1 ne).trans e, n, ne, nf, d⟩
  · refine (I.hok b ob e).stay (fun c w' hc q => (hs.2 c ?_).trans q) (fun _ q => q) fun _ _ q => q
    intro z
    subst z
    rcases hc with hc | hc
    · rw [← hc, I.free] at e
      cases e
    · rw [I.free] at hc
      cases hc
theorem raw_un {fs ex : List Addr} {H1 : Hp} {h1 : Heap} {y : Str} {w : Value} {s' : Shared} (e : s'.heap = h1) (u : Un fs ex H H1 s.heap h1) (nf : H X.env.locals = none) (nx : X.env.locals ∉ ex) (r : RawAt X s y w) : RawAt X s' y w := by
  obtain ⟨m, ⟨o, es, ep, ho, rr⟩, q⟩ := r
  obtain ⟨sl, hL⟩ := u.any ho nf nx
  subst e
  exact ⟨m, ⟨_, es, ep, hL, rr⟩, q⟩
theorem raw_keep {y : Str} {w : Value} {s' : Shared} (k : ∀ b o, b = X.env.locals → s.heap.get? b = some o → s'.heap.get? b = some o) (r : RawAt X s y w) : RawAt X s' y w := by
  obtain ⟨m, ⟨o, es, ep, ho, rr⟩, q⟩ := r
  exact ⟨m, ⟨o, es, ep, k _ _ rfl ho, rr⟩, q⟩
/-- [one for one in 'abc' if one not in letters], the items' tokens told -/
theorem lc_tok {pos pos' p1 p2 p3 p4 p5 p6 : Pos} {jz : Nat} {one lets : Str} {z : Str} {i1 j : Nat} {l lit : List Nat} {scope : Scope} {use : Option (Value → Sem Unit)} {Qf : Value → Shared → Prop}
    (hc : X.calm = true) (hN : X.N.Nodup) (I : Inv X pins σ H s) (ok : BlkOk X.N X.env.scope scope [(one, i1)])
    (hz : z = S lit) (hz8 : z.cps.all (· < 128) = true) (hlen : lit.length ≤ 1000) (hi1 : X.N[i1]? = some one) (hj : X.N[j]? = some lets) (hσ : σ[j]? = some (some (.str (S l)))) (hij : i1 ≠ j)
    (hk : ∀ cl C, (compEnvC scope cl C X.env).kindOf one = some .local) (hv : ∀ cl C, Vis (compEnvC scope cl C X.env).scope lets)
    (d1 : (one == ("__debug__" : Str)) = false) (d2 : (lets == ("__debug__" : Str)) = false) (d3 : (lets == ("__classdict__" : Str)) = false)
    (hRR : ∀ D C s' m H' mm, H D = none → s.toks ≤ mm → mm ≤ s'.toks → H' = upd H D (TokL D s.toks mm (lit.filter fun c => decide (c ∉ l))) → Inv X pins σ H' s' → s'.heap.Ns C m → FpOk X pins H' C → s.toks ≤ s'.toks → (∀ y w, RawAt X s y w → RawAt X s' y w) →
      compPost (model X.prog X.w) X.A X.xe use Qf (.ref D) C (.ok .next) s') :
    wpAny (model X.prog X.w) X.A (comprehension (.ListComp (.Name one p1) [⟨.Name one p2, .Constant (.str z) jz p3, [.Compare (.Name one p4) [.NotIn] [.Name lets p5] p6], 0⟩] scope pos) scope X.env pos' (newList []) false (eval (.Constant (.str z) jz p3) X.env) use) Qf X.xe s := by
  have hfree : ∀ y ∈ scope.names, y.2 = .free → ∃ c, X.env.cells.lookup y.1 = some c := fun y hy e => by
    rcases ok.free y hy e with k | k
    · exact I.ok.has _ (.inl k)
    · exact I.ok.has _ (.inr k)
  refine wpAny_comprehension_free (use := use) rfl (by intro _; rfl) (closure_ok hfree) ok.kind (fun y hy e => by rw [ok.uniq y hy, e]) (Calls.Constant_str (wpAny_pyIter_ascii hz8 ?_))
  have I1 := I.tok (s.toks + 1)
  obtain ⟨s2, e2⟩ : ∃ s2 : Shared, s2 = { s with heap := s.heap.push { cls := .type "str_ascii_iterator", data := .fields #[.str z s.toks, .int 0 0] }, toks := s.toks + 1 } := ⟨_, rfl⟩
  generalize hit : s.heap.objs.size = it
  have I2 : Inv X pins σ H s2 := by
    rw [e2]
    exact I.kept fun b ob e => Heap.get?_push_of_some _ e
  have fit : FpOk X pins H it := I.fpOk (Nat.le_of_eq hit) (I.hok.fresh (Nat.le_of_eq hit))
  have st2 : s2.heap.IsStrIter it "str_ascii_iterator" z s.toks 0 := by
    rw [e2, ← hit]
    exact ⟨_, Heap.get?_push_size _ rfl, rfl, rfl⟩
  have kp2 : ∀ b o, s.heap.get? b = some o → s2.heap.get? b = some o := fun b o e => by rw [e2]; exact Heap.get?_push_of_some _ e
  have tk2 : s2.toks = s.toks + 1 := by rw [e2]
  show wpAny _ _ (newList []) _ _ _
  rw [← e2]
  clear e2
  refine wpAny_newObj_type (newEnv_comp ?_) (by show 0 ≤ sizeLine; decide)
  generalize hD : s2.heap.objs.size = D
  have hDn : H D = none := I2.hok.fresh (Nat.le_of_eq hD)
  generalize hs3 : ({ s2 with heap := s2.heap.push { cls := .type "list", data := .seq ([] : List Value).toArray } } : Shared) = s3
  have h3 : s3.heap = s2.heap.push { cls := .type "list", data := .seq ([] : List Value).toArray } := by rw [← hs3]
  have I3 : Inv X pins σ (upd H D (TokL D s.toks s.toks [])) s3 := by
    rw [← hs3]
    refine I2.laid (t' := s2.toks) (fun b o e => Heap.get?_push_of_some _ e) (Nat.le_of_eq hD) (tokL_ok ⟨[], 0, .nil, ?_⟩)
    rw [← hD]
    exact Heap.get?_push_size _ rfl
  have itlt : it < s2.heap.objs.size := by
    obtain ⟨o, e, _⟩ := id st2
    exact Heap.lt_size e
  have tk3 : s3.toks = s2.toks := by rw [← hs3]
  have itD : it ≠ D := by rw [← hD]; exact Nat.ne_of_lt itlt
  have f3 : ∀ b ∈ [it], FpOk X pins (upd H D (TokL D s.toks s.toks [])) b ∧ b < s3.heap.objs.size := fun b hb => by
    have e : b = it := by simpa using hb
    subst e
    refine ⟨⟨?_, fit.2⟩, by rw [h3, Heap.size_push]; exact Nat.lt_succ_of_lt itlt⟩
    rw [upd_ne itD]
    exact fit.1
  have kp3 : ∀ b o, s2.heap.get? b = some o → s3.heap.get? b = some o := fun b o e => by rw [h3]; exact Heap.get?_push_of_some _ e
  have st3 : s3.heap.IsStrIter it "str_ascii_iterator" z s.toks 0 := by
    obtain ⟨o, ho, r⟩ := st2
    exact ⟨o, kp3 _ _ ho, r⟩
  have I4 := block_start I3 ok hN f3
  have hk' := hk (cellsFrom (s3.heap.objs.size + 1) scope.names (cloFrom X.env.cells scope.names [])) s3.heap.objs.size
  have hv' := hv (cellsFrom (s3.heap.objs.size + 1) scope.names (cloFrom X.env.cells scope.names [])) s3.heap.objs.size
  show codeAny _ _ (.compStart _ 0 (.ref it) (.ref D) (compEnvC scope (cellsFrom (s3.heap.objs.size + 1) scope.names (cloFrom X.env.cells scope.names [])) s3.heap.objs.size X.env)) (compPost (model X.prog X.w) X.A X.xe use Qf (.ref D) s3.heap.objs.size) { s3 with heap := pushCells (s3.heap.push { cls := .type "dict", data := .dict #[] }) scope.names }
  generalize hce : compEnvC scope (cellsFrom (s3.heap.objs.size + 1) scope.names (cloFrom X.env.cells scope.names [])) s3.heap.objs.size X.env = ce at I4 hk' hv' ⊢
  have cL : ce.locals = s3.heap.objs.size := by subst hce; rfl
  generalize hH3 : upd H D (TokL D s.toks s.toks []) = H3 at I3 I4 f3
  have kp4 : ∀ b o, s3.heap.get? b = some o → (pushCells (s3.heap.push { cls := .type "dict", data := .dict #[] }) scope.names).get? b = some o := fun b o e => pushCells_keeps _ _ _ _ (Heap.get?_push_of_some _ e)
  generalize hs4 : ({ s3 with heap := pushCells (s3.heap.push { cls := .type "dict", data := .dict #[] }) scope.names } : Shared) = s4 at I4 ⊢
  have st4 : s4.heap.IsStrIter it "str_ascii_iterator" z s.toks 0 := by
    obtain ⟨o, ho, r⟩ := st3
    exact ⟨o, by rw [← hs4]; exact kp4 _ _ ho, r⟩
  have tk4 : s4.toks = s3.toks := by rw [← hs4]
  have locit : X.env.locals ∉ [it] := fun q => by
    have e : X.env.locals = it := by simpa using q
    exact fit.2.1 e.symm
  have stat : ∀ {σ' : L2.St} {H' : Hp} {s' : Shared}, Inv (X.blk s3 H3 scope ce [it]) [] σ' H' s' → H' it = none → FpOk (X.blk s3 H3 scope ce [it]) [] H' it := fun {σ' H' s'} I' hn =>
    ⟨hn, (I'.ok.exf it (by simp)).1, I'.ok.exfs it (by simp), .inl (by simp), fun x c e => (I'.ok.exf it (by simp)).2 x c e, fun p hp => absurd (show p ∈ ([] : List (Addr × Obj)) ++ [] from hp) (by simp)⟩
  have itH : ∀ n mm : Nat, (upd H D (TokL D s.toks mm ((lit.take n).filter fun c => decide (c ∉ l)))) it = none := fun n mm => by rw [upd_ne itD]; exact fit.1
  have zc : z.cps.size = lit.length := by rw [hz]; exact S_len lit
  have loop : codeAny (model X.prog X.w) X.A (.compLoop (.ListComp (.Name one p1) [⟨.Name one p2, .Constant (.str z) jz p3, [.Compare (.Name one p4) [.NotIn] [.Name lets p5] p6], 0⟩] scope pos) 0 (.ref it) (.ref D) ce) (compPost (model X.prog X.w) X.A X.xe use Qf (.ref D) s3.heap.objs.size) s4 := by
    refine compLoop_any (fun n s' => ∃ i mm, i ≤ lit.length ∧ n = lit.length - i ∧ s.toks ≤ mm ∧ mm ≤ s'.toks ∧ s3.toks ≤ s'.toks ∧ Inv (X.blk s3 H3 scope ce [it]) [] (wipe σ [i1]) (upd H D (TokL D s.toks mm ((lit.take i).filter fun c => decide (c ∉ l)))) s' ∧ s'.heap.IsStrIter it "str_ascii_iterator" z s.toks i) ?_ lit.length ⟨0, s.toks, Nat.zero_le _, by simp, Nat.le_refl _, by omega, by rw [tk4]; exact Nat.le_refl _, by rw [List.take_zero, List.filter_nil, hH3]; exact I4, st4⟩
    rintro n s5 ⟨i, mm, hi, rfl, hm0, hm1, ht5, I5, st5⟩
    obtain ⟨f0, f1, f2, f3', f4, f5⟩ := stat I5 (itH i mm)
    by_cases hlt : i < lit.length
    · obtain ⟨c, hcx⟩ : ∃ c, lit[i]? = some c := ⟨_, List.getElem?_eq_getElem hlt⟩
      have hzc : z.cps[i]? = some c := by rw [hz]; exact S_get.mpr hcx
      refine wpAny_pyNext_ascii_item st5 hzc fun h6 st6 sb6 => ?_
      have I6 : Inv (X.blk s3 H3 scope ce [it]) [] (wipe σ [i1]) (upd H D (TokL D s.toks mm ((lit.take i).filter fun c => decide (c ∉ l)))) { s5 with heap := h6, toks := s5.toks + 1 } := I5.turned (fun b o hb e => (sb6.2 b hb).trans e) f0 f1 f3' f4 f5
      obtain ⟨oi, ei, ci, di⟩ := id st6
      refine go_of (s := { s5 with heap := h6, toks := s5.toks + 1 }) ei ci di (by decide) ?_
      refine wpAny_assign_Name (set_raw2 (X := X.blk s3 H3 scope ce [it]) (i := i1) (v := .str (S [c])) I6 hN hi1 hk' ⟨_, rfl⟩ fun s7 I7 r7 _ t7 sb7 => ?_)
      have st7 : s7.heap.IsStrIter it "str_ascii_iterator" z s.toks (i + 1) := ⟨oi, (sb7.2 it f1).trans ei, ci, di⟩
      have t7' : s7.toks = s5.toks + 1 + 1 := t7
      have hσ7 : ((wipe σ [i1]).set i1 (some (.str (S [c]))))[j]? = some (some (.str (S l))) := by
        rw [List.getElem?_set_ne hij]
        show (σ.set i1 none)[j]? = _
        rw [List.getElem?_set_ne hij]
        exact hσ
      have wp : ∀ {H' : Hp} {s' : Shared}, Inv (X.blk s3 H3 scope ce [it]) [] ((wipe σ [i1]).set i1 (some (.str (S [c])))) H' s' → Inv (X.blk s3 H3 scope ce [it]) [] (wipe σ [i1]) H' s' := fun {H' s'} I' => by
        refine I'.weak (by simp) fun j' v e => ?_
        by_cases hj' : i1 = j'
        · subst hj'
          exact absurd e (by
            show ¬ (σ.set i1 none)[i1]? = _
            by_cases hl : i1 < σ.length
            · rw [List.getElem?_set_self hl]; simp
            · rw [List.getElem?_eq_none (by simpa using hl)]; simp)
        · rw [List.getElem?_set_ne hj']; exact e
      refine wpAny_tests_one ?_
      refine wpAny_isTrue_Compare1 (raw_var (X := X.blk s3 H3 scope ce [it]) I7 r7 hk' (raw_name (X := X.blk s3 H3 scope ce [it]) (v := .str (S l)) hj hv' I7 hσ7 (fun u0 r0 => ?_) d2 d3) d1) rfl
      obtain ⟨tl, rfl⟩ := r0
      refine PyProof.Rows.notIn_str (wpAny_truthy_bool ?_)
      have eb : (!(!(Builtin.Str.occurrences (S l) ⟨#[c]⟩ 0 (S l).length 1).isEmpty)) = decide (c ∉ l) := by
        rw [PySem.StrLaws.found_one]
        simp [S_cps]
      rw [eb]
      have htake : lit.take (i + 1) = lit.take i ++ [c] := by rw [List.take_add_one, hcx]; rfl
      by_cases hin : c ∈ l
      · rw [decide_eq_false (fun q => q hin)]
        refine ⟨lit.length - (i + 1), by omega, i + 1, mm, hlt, rfl, hm0, by omega, by omega, ?_, st7⟩
        rw [htake, List.filter_append]
        have : List.filter (fun c => decide (c ∉ l)) [c] = [] := by simp [hin]
        rw [this, List.append_nil]
        exact wp I7
      · rw [decide_eq_true hin]
        refine raw_var (X := X.blk s3 H3 scope ce [it]) I7 r7 hk' ?_ d1
        have fl : ((lit.take i).filter fun c => decide (c ∉ l)).length ≤ i := Nat.le_trans (List.length_filter_le _ _) (by rw [List.length_take]; omega)
        refine app_tok (X := X.blk s3 H3 scope ce [it]) (m' := s7.toks) (wp I7) upd_same (by omega) (by omega) (show s.toks ≤ s5.toks by omega) (show s5.toks < s7.toks by omega) fun h8 sb8 I8 => ?_
        refine ⟨lit.length - (i + 1), by omega, i + 1, s7.toks, hlt, rfl, by omega, Nat.le_refl _, by show s3.toks ≤ s7.toks; omega, ?_, ?_⟩
        · rw [htake, List.filter_append]
          have : List.filter (fun c => decide (c ∉ l)) [c] = [c] := by simp [hin]
          rw [this]
          rw [upd_upd] at I8
          exact I8
        · exact ⟨oi, (sb8.2 it itD).trans ((sb7.2 it f1).trans ei), ci, di⟩
    · have ei : i = lit.length := by omega
      have hx : z.cps[i]? = none := Array.getElem?_eq_none (by omega)
      refine wpAny_pyNext_ascii_end (I5.ok.hd hc) st5 hx fun h6 eb => ?_
      have I6 : Inv (X.blk s3 H3 scope ce [it]) [] (wipe σ [i1]) (upd H D (TokL D s.toks mm ((lit.take i).filter fun c => decide (c ∉ l)))) { s5 with heap := h6, toks := s5.toks } := I5.turned (fun b o hb e => eb b o hb e) f0 f1 f3' f4 f5
      have I7 : Inv X pins σ (upd H D (TokL D s.toks mm ((lit.take i).filter fun c => decide (c ∉ l)))) { s5 with heap := h6, toks := s5.toks } := I3.call' (ch := [it]) I6.os I6.base I6.hok I6.bare fun b hb => ⟨(f3 b hb).1.2.2.2.1, (f3 b hb).1.2.1, (f3 b hb).1.2.2.2.2.1, (f3 b hb).1.2.2.2.2.2⟩
      have nC : (upd H D (TokL D s.toks mm ((lit.take i).filter fun c => decide (c ∉ l)))) s3.heap.objs.size = none := by
        have z : (upd H D (TokL D s.toks mm ((lit.take i).filter fun c => decide (c ∉ l)))) ce.locals = none := I6.free
        rw [cL] at z
        exact z
      obtain ⟨m, hn, _⟩ := I6.loc
      have hn : h6.Ns ce.locals m := hn
      rw [cL] at hn
      refine hRR D s3.heap.objs.size { s5 with heap := h6, toks := s5.toks } m _ mm hDn hm0 hm1 (by rw [ei, List.take_length]) I7 hn (I3.fpOk (Nat.le_refl _) nC) (by show s.toks ≤ s5.toks; omega) fun y w r => ?_
      have r3 : RawAt X s3 y w := raw_keep (fun b o _ e => kp3 _ _ (kp2 _ _ e)) r
      exact raw_un (H := H3) rfl I6.base I3.free locit r3
  exact codeAny_compStart_list loop (wpAny_pyIter_striter_ascii st4 loop)
end
end Vk
set_option Elab.async false
set_option linter.all false
set_option maxRecDepth 100000
set_option maxHeartbeats 4000000
namespace Vk
open PySem PySem.Spec PyProof.Rows L2
/-! X43: readings that keep what is known of the tokens of locals -/
/-- R: a count of tokens that has been reached; locals that hold texts, with their tokens -/
abbrev Rk := Nat × List (Str × Nat)
def Kn (X : Cx) (R : Rk) (s : Shared) : Prop := (1 ≤ s.toks ∧ R.1 ≤ s.toks) ∧ ∀ p ∈ R.2, 1 ≤ p.2 ∧ p.2 < s.toks ∧ ∃ z, RawAt X s p.1 (.str z p.2)
section
variable {X : Cx} {R : Rk} {s s' : Shared} {pins : List (Addr × Obj)} {σ : L2.St} {H : Hp}
theorem Kn.step (k : Kn X R s) (ht : s.toks ≤ s'.toks) (hk : ∀ y w, RawAt X s y w → RawAt X s' y w) : Kn X R s' := ⟨⟨Nat.le_trans k.1.1 ht, Nat.le_trans k.1.2 ht⟩, fun p hp => let ⟨h1, h2, z, r⟩ := k.2 p hp; ⟨h1, Nat.lt_of_lt_of_le h2 ht, z, hk _ _ r⟩⟩
theorem raw_heap {y : Str} {w : Value} (e : s'.heap = s.heap) (r : RawAt X s y w) : RawAt X s' y w := by
  obtain ⟨m, hn, hm⟩ := r
  exact ⟨m, by rw [e]; exact hn, hm⟩
theorem Kn.tok (k : Kn X R s) {t : Nat} (h : s.toks ≤ t) : Kn X R { s with toks := t } := k.step h fun _ _ r => raw_heap rfl r
theorem Kn.push (k : Kn X R s) {t : Nat} {h' : Heap} (h : s.toks ≤ t) (kk : ∀ b o, s.heap.get? b = some o → h'.get? b = some o) : Kn X R { s with heap := h', toks := t } := k.step h fun _ _ r => raw_keep (fun b o _ e => kk b o e) r
theorem raw_after {Q : VK} {u : Value} (I : Inv X pins σ H s) (h : CE X.stack X.prog X.w H s Q u s') {y : Str} {w : Value} (r : RawAt X s y w) : RawAt X s' y w := by
  obtain ⟨v, H', os, bare, un, _⟩ := h
  obtain ⟨m, ⟨o, es, ep, ho, rr⟩, e⟩ := r
  obtain ⟨sl, hL⟩ := un.any ho I.free (by simp)
  exact ⟨m, ⟨_, es, ep, hL, rr⟩, e⟩
theorem raw_rel (I : Inv X pins σ H s) {i : Nat} {x : Str} {v : V} {u : Value} (hN : X.N[i]? = some x) (hk : X.env.kindOf x = some .local) (hσ : σ[i]? = some (some v)) (r : RawAt X s x u) : RelV v u := by
  obtain ⟨m, hn, hl⟩ := I.loc
  obtain ⟨m2, hn2, e⟩ := r
  obtain ⟨u', r', q⟩ := hl i x v hN hσ (.inl hk)
  rcases q with ⟨_, e'⟩ | ⟨k, _⟩
  · rw [ns_fun hn hn2 x, e] at e'
    cases e'
    exact r'
  · rw [hk] at k
    rcases k with k | k <;> cases k
end
structure PEq (X : Cx) (R : Rk) (e : Expr) (t : TE) : Prop where
  run : ∀ (pins : List (Addr × Obj)) (s : Shared) (σ : L2.St) (H : Hp) (Q : VK), Inv X pins σ H s → Kn X R s → t σ H Q → wpAny (model X.prog X.w) X.A (eval e X.env) (fun u s' => Kn X R s' ∧ EP X pins σ Q u s') X.xe s
structure PTq (X : Cx) (R : Rk) (e : Expr) (t : TT) : Prop where
  run : ∀ (whole : Sem Value) (pins : List (Addr × Obj)) (s : Shared) (σ : L2.St) (H : Hp) (Q : Bool → Hp → Prop), Inv X pins σ H s → Kn X R s → t σ H Q → wpAny (model X.prog X.w) X.A (isTrue e X.env whole) (fun b s' => Kn X R s' ∧ TP X pins σ Q b s') X.xe s
structure PAq (X : Cx) (R : Rk) (es : List Expr) (t : TA) : Prop where
  run : ∀ (pos : Pos) (pins : List (Addr × Obj)) (s : Shared) (σ : L2.St) (H : Hp) (Q : List V → Hp → Prop), Inv X pins σ H s → Kn X R s → t σ H Q → wpAny (model X.prog X.w) X.A (spliced (backTo pos (starEach es X.env))) (fun us s' => Kn X R s' ∧ AP X pins σ Q us s') X.xe s
structure PSq (X : Cx) (R : Rk) (st : Stmt) (t : TS) : Prop where
  run : ∀ (pins : List (Addr × Obj)) (s : Shared) (σ : L2.St) (H : Hp) (D : Ends), Inv X pins σ H s → Kn X R s → t D σ H → wpAny (model X.prog X.w) X.A (exec st X.env) (fun f s' => (f = .next → Kn X R s') ∧ SP X pins D f s') X.xe s
structure PSsq (X : Cx) (R : Rk) (st : List Stmt) (t : TS) : Prop where
  run : ∀ (pins : List (Addr × Obj)) (s : Shared) (σ : L2.St) (H : Hp) (D : Ends), Inv X pins σ H s → Kn X R s → t D σ H → wpAny (model X.prog X.w) X.A (execs st X.env) (SP X pins D) X.xe s
section
variable {X : Cx} {R : Rk}
/-! names, constants -/
theorem peq_var {i : Nat} {x : Str} {pos : Pos} (hN : X.N[i]? = some x) (hv : Vis X.env.scope x) (hd : (x == ("__debug__" : Str)) = false := by decide) (hcd : (x == ("__classdict__" : Str)) = false := by decide) : PEq X R (.Name x pos) (tVar i) := by
  refine ⟨fun pins s σ H Q I k h => ?_⟩
  obtain ⟨v, e, h⟩ := h
  exact raw_name hN hv I e (fun u r => ⟨k, v, H, I, r, h⟩) hd hcd
theorem peq_int {i j pos} : PEq X R (.Constant (.int i) j pos) (tC (.int i)) := ⟨fun _ _ _ H _ I k h => wpAny_Constant_int ⟨k.tok (Nat.le_succ _), .int i, H, I.tok _, ⟨_, rfl⟩, h⟩⟩
theorem pq (i : Nat) {x : Str} {pos : Pos} (hN : X.N[i]? = some x := by rfl) (hv : Vis X.env.scope x := by first | exact Or.inl rfl | exact Or.inr (Or.inl rfl) | exact Or.inr (Or.inr rfl)) (hd : (x == ("__debug__" : Str)) = false := by decide) (hcd : (x == ("__classdict__" : Str)) = false := by decide) : PEq X R (.Name x pos) (tVar i) := peq_var hN hv hd hcd
/-! calls -/
theorem call_raw {pins : List (Addr × Obj)} {σ : L2.St} {H : Hp} {s : Shared} {k : Nat} {f : Addr} {fd : FuncData} {ps : List Str} {sp : Sp} {us : List Value} {vs : List V} {Q : VK} (F : FnOk X.prog X.w X.K X.mg X.base CX0 k f fd ps sp) (hr : Room k X.A) (hb : Binds X.K fd ps [])
    (I : Inv X pins σ H s) (kn : Kn X R s) (r : Vals vs us) (h : sp vs H Q fun _ _ _ => False) : wpAny (model X.prog X.w) X.A (call (.ref f) us) (fun u s' => Kn X R s' ∧ EP X pins σ Q u s') X.xe s := by
  have hl : us.length = ps.length := by rw [← r.length]; exact F.len _ _ _ _ h
  have hb' : BindsTo s fd ⟨us, []⟩ (ps.zip us) := by
    have := hb s us I.kIn (by rw [List.append_nil]; exact hl)
    rwa [List.append_nil] at this
  refine wpAny_mono (PySem.wpAny_toks (wpAny_call (Q := fun u s' => CE X.stack X.prog X.w H s Q u s') (E := X.xe) (codeAny_mono (F.run X.A X.stack s H ⟨us, []⟩ us vs Q (fun _ _ _ => False) hr I.env0 hb' r h) fun r s' hq => ?_))) (fun u s3 hu => ?_) fun _ _ z => z.2
  · cases r with
    | error e => exact hq.elim
    | ok fl =>
      cases fl with
      | ret u => exact hq
      | next => exact False.elim hq
      | brk => exact False.elim hq
      | cont => exact False.elim hq
  · obtain ⟨ht, hce⟩ := hu
    exact ⟨kn.step ht fun y w z => raw_after I hce (y := y) (w := w) z, I.after hce⟩
theorem paq_nil : PAq X R [] tNil := ⟨fun _ _ _ _ H Q I k h => Calls.spliced_nil ⟨k, [], H, I, .nil, h⟩⟩
theorem paq_cons {e : Expr} {es : List Expr} {te : TE} {t : TA} (ha : PEq X R e te) (hr : PAq X R es t) (hs : starEach (e :: es) X.env = (false, eval e X.env) :: starEach es X.env := by rfl) : PAq X R (e :: es) (tCons te t) := by
  refine ⟨fun pos pins s σ H Q I k h => ?_⟩
  rw [hs]
  show wpAny _ _ (spliced ((false, eval e X.env) :: backTo pos (starEach es X.env))) _ _ s
  refine Calls.spliced_cons (thn (ha.run pins s σ H _ I k h) fun u s1 ⟨k1, x, H1, I1, r1, q1⟩ => ?_)
  exact thn (hr.run pos pins s1 σ H1 _ I1 k1 q1) fun us s2 ⟨k2, xs, H2, I2, r2, q2⟩ => ⟨k2, x :: xs, H2, I2, .cons r1 r2, q2⟩
theorem peq_call {k : Nat} {f : Addr} {fd : FuncData} {ps : List Str} {sp : Sp} {x : Str} {p pos : Pos} {e : Expr} {es : List Expr} {t : TA} (F : FnOk X.prog X.w X.K X.mg X.base CX0 k f fd ps sp) (hr : Room k X.A) (hg : Gl X x) (hm : X.mg x = some (.ref f)) (hk : PySem.W.keepIn X.K (.ref f) = true) (hb : Binds X.K fd ps [])
    (ha : PAq X R (e :: es) t) (hdb : (x == ("__debug__" : Str)) = false := by decide) (he : starEach (e :: es) X.env = (false, eval e X.env) :: starEach es X.env := by rfl) (hpl : (backTo pos (starEach es X.env)).any (·.1) = false := by rfl) :
    PEq X R (.Call (.Name x p) (e :: es) [] pos) (tCall sp [] (fun _ _ _ => False) t) := by
  refine ⟨fun pins s σ H Q I kn h => ?_⟩
  refine wpAny_Call_Name_kw (ld_glob I hg hm ?_ hdb)
  refine PySem.W.callWith_K (h₀ := X.base) I.ok.mod.kin hk (thn (ha.run pos pins s σ H _ I kn h) fun us s1 ⟨k1, vs, H1, I1, r, q⟩ => ⟨I1.kIn, ?_⟩) he hpl
  refine call_raw F hr hb I1 k1 r ?_
  have q : sp (vs ++ []) H1 Q fun _ _ _ => False := q
  rw [List.append_nil] at q
  exact q
def CallQ (X : Cx) (R : Rk) (f : Value) (r : List V → Hp → VK → Prop) : Prop :=
  ∀ (pins : List (Addr × Obj)) (s : Shared) (σ : L2.St) (H : Hp) (xs : List V) (us : List Value) (Q : VK), Inv X pins σ H s → Kn X R s → Vals xs us → r xs H Q → wpAny (model X.prog X.w) X.A (call f us) (fun u s' => Kn X R s' ∧ EP X pins σ Q u s') X.xe s
theorem peq_callB {x : Str} {id : String} {r : List V → Hp → VK → Prop} {p pos : Pos} {e : Expr} {es : List Expr} {t : TA} (hc : CallQ X R (.builtin id) r) (hg : Gl X x) (hm : X.mg x = none) (hv : bootBuiltins x = some (.builtin id)) (ha : PAq X R (e :: es) t) (hn : x ≠ "__name__" := by decide) (hdb : (x == ("__debug__" : Str)) = false := by decide)
    (he : starEach (e :: es) X.env = (false, eval e X.env) :: starEach es X.env := by rfl) (hpl : (backTo pos (starEach es X.env)).any (·.1) = false := by rfl) : PEq X R (.Call (.Name x p) (e :: es) [] pos) (tCB r t) := by
  refine ⟨fun pins s σ H Q I k h => ?_⟩
  refine wpAny_Call_Name_kw (ld_blt I hg hm hv ?_ hn hdb)
  exact PyProof.Rows.callWith_builtin1 (thn (ha.run pos pins s σ H _ I k h) fun us s1 ⟨k1, vs, H1, I1, r1, q1⟩ => hc pins s1 σ H1 vs us Q I1 k1 r1 q1) he hpl
theorem callq_lenS : CallQ X R (.builtin "len") rLenS1 := by
  intro pins s σ H xs us Q I k r h
  obtain ⟨l, rfl, hz, q⟩ := h
  cases r with
  | cons r rr =>
    cases rr
    obtain ⟨t, rfl⟩ := r
    refine len_str (by rw [S_len]; omega) ⟨k.tok (by omega), .int (l.length : Nat), H, I.tok _, ⟨_, by rw [S_len]⟩, q⟩
def rLenTok : List V → Hp → VK → Prop := fun xs H Q => ∃ (D : Addr) (k m : Nat) (l : List Nat), xs = [.ref D] ∧ H D = some (TokL D k m l) ∧ l.length ≤ 1000 ∧ Q (.int (l.length : Nat)) H
theorem callq_lenTok : CallQ X R (.builtin "len") rLenTok := by
  intro pins s σ H xs us Q I k r h
  obtain ⟨D, kk, mm, l, rfl, hD, hz, q⟩ := h
  cases r with
  | cons r rr =>
    cases rr
    cases r
    obtain ⟨its, n, ri, e⟩ := Inv.tokAt I hD
    have hl := ri.length
    have p : s.heap.IsList D its.toArray := ⟨_, e, rfl, n, rfl⟩
    refine len_list p (by rw [List.size_toArray]; omega) ⟨k.tok (by omega), .int (l.length : Nat), H, I.tok _, ⟨_, by rw [List.size_toArray, ← hl]⟩, q⟩
/-! operators -/
theorem peq_add {a b : Expr} {ta tb : TE} {pos : Pos} (ha : PEq X R a ta) (hb : PEq X R b tb) : PEq X R (.BinOp a .Add b pos) (fun σ H Q => ta σ H fun x H1 => tb σ H1 fun y H2 => rAddS x y H2 Q) := by
  refine ⟨fun pins s σ H Q I k h => ?_⟩
  refine wpAny_BinOp (thn (ha.run pins s σ H _ I k h) fun v s1 ⟨k1, x, H1, I1, r1, q1⟩ => thn (hb.run pins s1 σ H1 _ I1 k1 q1) fun u s2 ⟨k2, y, H2, I2, r2, q2⟩ => ?_)
  obtain ⟨i, j, rfl, rfl, hz, q⟩ := q2
  obtain ⟨t, rfl⟩ := r1
  obtain ⟨t', rfl⟩ := r2
  refine wpAny_mono (PySem.wpAny_toks (add_str (E := X.xe) (Q := fun u s' => ∃ t', u = .str (S i ++ S j) t' ∧ ∃ tk, s' = { s2 with toks := tk }) (fun t' tk => ⟨t', rfl, tk, rfl⟩) (by rw [S_len, S_len, sizeLine_eq]; omega))) (fun u s3 ⟨ht, t3, e, tk, e2⟩ => ?_) fun _ _ z => z.2
  subst e e2
  exact ⟨k2.tok ht, .str (S i ++ S j), H2, I2.tok _, ⟨_, rfl⟩, by rw [S_app]; exact q⟩
theorem peq_addI {a b : Expr} {ta tb : TE} {pos : Pos} (ha : PEq X R a ta) (hb : PEq X R b tb) : PEq X R (.BinOp a .Add b pos) (tAdd ta tb) := by
  refine ⟨fun pins s σ H Q I k h => ?_⟩
  refine wpAny_BinOp (thn (ha.run pins s σ H _ I k h) fun v s1 ⟨k1, x, H1, I1, r1, q1⟩ => thn (hb.run pins s1 σ H1 _ I1 k1 q1) fun u s2 ⟨k2, y, H2, I2, r2, q2⟩ => ?_)
  obtain ⟨i, j, rfl, rfl, q⟩ := q2
  obtain ⟨t, rfl⟩ := r1
  obtain ⟨t', rfl⟩ := r2
  exact add_int ⟨k2.tok (Nat.le_succ _), .int _, H2, I2.tok _, ⟨_, rfl⟩, q⟩
/-! tests -/
theorem ptq_cmpI {op : CmpOp} {p : Int → Int → Bool} {a b : Expr} {ta tb : TE} {pos : Pos} (ha : PEq X R a ta) (hb : PEq X R b tb)
    (rule : ∀ (i j : Int) (t u : Tok) (Q : Value → Shared → Prop) (s : Shared), Q (.bool (p i j)) s → wpAny (model X.prog X.w) X.A (compareOp op (.int i t) (.int j u)) Q X.xe s) (h1 : behindInMarks op b = false := by first | exact nobehind _ (by decide) (by decide) | rfl) :
    PTq X R (.Compare a [op] [b] pos) (fun σ H Q => t2I ta tb (fun i j H2 => Q (p i j) H2) σ H) := by
  refine ⟨fun _ pins s σ H Q I k h => ?_⟩
  refine wpAny_isTrue_Compare1 (thn (ha.run pins s σ H _ I k h) fun v s1 ⟨k1, x, H1, I1, r1, q1⟩ => thn (hb.run pins s1 σ H1 _ I1 k1 q1) fun u s2 ⟨k2, y, H2, I2, r2, q2⟩ => ?_) h1
  obtain ⟨i, j, rfl, rfl, q⟩ := q2
  obtain ⟨t, rfl⟩ := r1
  obtain ⟨t', rfl⟩ := r2
  exact rule i j t t' _ s2 (wpAny_truthy_bool ⟨k2, H2, I2, q⟩)
theorem ptq_eq {a b : Expr} {ta tb : TE} {pos : Pos} (ha : PEq X R a ta) (hb : PEq X R b tb) : PTq X R (.Compare a [.Eq] [b] pos) (fun σ H Q => t2I ta tb (fun i j H2 => Q (decide (i = j)) H2) σ H) :=
  ptq_cmpI (p := fun i j => decide (i = j)) ha hb fun _ _ _ _ _ _ h => eq_int (by rw [Bool.beq_eq_decide_eq]; exact h)
theorem ptq_gt {a b : Expr} {ta tb : TE} {pos : Pos} (ha : PEq X R a ta) (hb : PEq X R b tb) : PTq X R (.Compare a [.Gt] [b] pos) (fun σ H Q => t2I ta tb (fun i j H2 => Q (decide (j < i)) H2) σ H) :=
  ptq_cmpI (p := fun i j => decide (j < i)) ha hb fun _ _ _ _ _ _ h => gt_int h
theorem ptq_inS {a b : Expr} {ta tb : TE} {pos : Pos} (ha : PEq X R a ta) (hb : PEq X R b tb) (h1 : behindInMarks .In b = false := by rfl) :
    PTq X R (.Compare a [.In] [b] pos) (fun σ H Q => ta σ H fun x H1 => tb σ H1 fun y H2 => ∃ (c : Nat) (l : List Nat), x = .str (S [c]) ∧ y = .str (S l) ∧ Q (decide (c ∈ l)) H2) := by
  refine ⟨fun _ pins s σ H Q I k h => ?_⟩
  refine wpAny_isTrue_Compare1 (thn (ha.run pins s σ H _ I k h) fun v s1 ⟨k1, x, H1, I1, r1, q1⟩ => thn (hb.run pins s1 σ H1 _ I1 k1 q1) fun u s2 ⟨k2, y, H2, I2, r2, q2⟩ => ?_) h1
  obtain ⟨c, l, rfl, rfl, q⟩ := q2
  obtain ⟨t, rfl⟩ := r1
  obtain ⟨t', rfl⟩ := r2
  refine PyProof.Rows.in_str (wpAny_truthy_bool ⟨k2, H2, I2, ?_⟩)
  have eb : (!(Builtin.Str.occurrences (S l) (S [c]) 0 (S l).length 1).isEmpty) = decide (c ∈ l) := by
    rw [show (S [c]) = (⟨#[c]⟩ : Str) from rfl, PySem.StrLaws.found_one]
    simp [S_cps]
  rw [eb]
  exact q
theorem ptq_and1 {a : Expr} {tA : TT} {pos : Pos} (ha : PTq X R a tA) : PTq X R (.BoolOp .And [a] pos) tA := by
  refine ⟨fun wh pins s σ H Q I k h => ?_⟩
  refine isTrue_and (thn (ha.run _ pins s σ H Q I k h) fun c s1 e => ?_)
  cases c with
  | true => exact isTrue_and_nil e
  | false => exact e
theorem ptq_and {a b : Expr} {rest : List Expr} {tA tB' : TT} {pos : Pos} (ha : PTq X R a tA) (hb : PTq X R (.BoolOp .And (b :: rest) pos) tB') : PTq X R (.BoolOp .And (a :: b :: rest) pos) (tAnd tA tB') := by
  refine ⟨fun wh pins s σ H Q I k h => ?_⟩
  refine isTrue_and (thn (ha.run _ pins s σ H _ I k h) fun c s1 ⟨k1, H1, I1, q1⟩ => ?_)
  cases c with
  | true => exact hb.run wh pins s1 σ H1 Q I1 k1 q1
  | false => exact ⟨k1, H1, I1, q1⟩
/-! slices of a text -/
structure POq (X : Cx) (R : Rk) (e : Option Expr) (t : TO) : Prop where
  run : ∀ (pins : List (Addr × Obj)) (s : Shared) (σ : L2.St) (H : Hp) (Q : Option Int → Hp → Prop), Inv X pins σ H s → Kn X R s → t σ H Q → wpAny (model X.prog X.w) X.A (evalPart e X.env) (fun u s' => Kn X R s' ∧ ∃ o H', Inv X pins σ H' s' ∧ IsPart u o ∧ Q o H') X.xe s
theorem poq_none : POq X R none tNoPart := by
  refine ⟨fun pins s σ H Q I k h => ?_⟩
  rw [evalPart_none]
  exact wpAny_pure ⟨k, none, H, I, .none, h⟩
theorem poq_some {e : Expr} {te : TE} (h : PEq X R e te) : POq X R (some e) (tPart te) := by
  refine ⟨fun pins s σ H Q I k hw => ?_⟩
  rw [evalPart_some]
  refine thn (h.run pins s σ H _ I k hw) fun u s1 ⟨k1, x, H1, I1, r1, q1⟩ => ?_
  obtain ⟨i, rfl, q⟩ := q1
  obtain ⟨t, rfl⟩ := r1
  exact ⟨k1, some i, H1, I1, .int i t, q⟩
theorem peq_slice {e : Expr} {te : TE} {lo hi : Option Expr} {tl th : TO} {pos p2 : Pos} (he : PEq X R e te) (hl : POq X R lo tl) (hu : POq X R hi th) : PEq X R (.Subscript e (.Slice lo hi none p2) pos) (tSl rSlS te tl th) := by
  refine ⟨fun pins s σ H Q I k h => ?_⟩
  refine Subscript_ (thn (he.run pins s σ H _ I k h) fun v s1 ⟨k1, x, H1, I1, r1, q1⟩ => ?_)
  refine wpAny_Slice (thn (hl.run pins s1 σ H1 _ I1 k1 q1) fun vl s2 ⟨k2, l, H2, I2, pl, q2⟩ => thn (hu.run pins s2 σ H2 _ I2 k2 q2) fun vu s3 ⟨k3, u, H3, I3, pu, q3⟩ => ?_)
  rw [evalPart_none]
  refine wpAny_pure ?_
  have I4 : Inv X pins σ H3 { s3 with heap := s3.heap.push { cls := .type "slice", data := .fields #[vl, vu, .none] } } := I3.kept (t' := s3.toks) fun b ob q => Heap.get?_push_of_some _ q
  have k4 : Kn X R { s3 with heap := s3.heap.push { cls := .type "slice", data := .fields #[vl, vu, .none] } } := k3.push (t := s3.toks) (Nat.le_refl _) fun b ob q => Heap.get?_push_of_some _ q
  have hs : ({ s3 with heap := s3.heap.push { cls := .type "slice", data := .fields #[vl, vu, .none] } } : Shared).heap.IsSliceOf s3.heap.objs.size vl vu .none := Heap.IsSliceOf.new ..
  show wpAny (model X.prog X.w) X.A (subscriptTail e (.Slice lo hi none p2) v (.ref s3.heap.objs.size)) _ X.xe { s3 with heap := s3.heap.push { cls := .type "slice", data := .fields #[vl, vu, .none] } }
  generalize ({ s3 with heap := s3.heap.push { cls := .type "slice", data := .fields #[vl, vu, .none] } } : Shared) = s4 at I4 k4 hs ⊢
  generalize s3.heap.objs.size = sl at hs ⊢
  obtain ⟨z, rfl, hz, q⟩ := q3
  obtain ⟨t, rfl⟩ := r1
  obtain ⟨l, rfl, rfl⟩ := IsPart.raw pl
  obtain ⟨u, rfl, rfl⟩ := IsPart.raw pu
  refine tail_any (ops := [.ref sl, .str z t]) (typeIs_str s4 z t) PySem.F.slot_str_getitem.lookup ?_ (by with_unfolding_all rfl)
  refine wpAny_getItem_str_slice (l := l) (u := u) (st := none) hs rfl ?_
  have hl : (PySem.StrLaws.sliceText z (l.map (·.1)) (u.map (·.1))).length ≤ sizeLine := by
    rw [sliceText_cut]
    exact Nat.le_trans (cutS_length z _ _) hz
  rw [← sliceText_cut] at q
  unfold PySem.StrLaws.sliceText at q hl
  show Made.post (if ((1 : Int) == 1 && (Builtin.Str.strSliceIndices (l.map (·.1)) (u.map (·.1)) 1 z.length).length == z.length) = true then Made.val (.str z t)
    else Made.str ⟨((Builtin.Str.strSliceIndices (l.map (·.1)) (u.map (·.1)) 1 z.length).filterMap (z.cps[·]?)).toArray⟩) (fun u s' => Kn X R s' ∧ EP X pins σ Q u s') s4
  by_cases c : ((1 : Int) == 1 && (Builtin.Str.strSliceIndices (l.map (·.1)) (u.map (·.1)) 1 z.length).length == z.length) = true
  · rw [if_pos c] at q ⊢
    exact ⟨k4, .str z, H3, I4, ⟨t, rfl⟩, q⟩
  · rw [if_neg c] at q hl ⊢
    exact ⟨hl, k4.tok (Nat.le_succ _), .str _, H3, I4.tok _, ⟨_, rfl⟩, q⟩
/-! replace, its arguments' tokens known -/
def tRplE (ix iy : Nat) : TE := fun σ H Q => ∃ (z : List Nat) (c : Nat), σ[ix]? = some (some (.str (S z))) ∧ σ[iy]? = some (some (.str (S [c]))) ∧ z.length ≤ 1000 ∧ Q (.str (Txt.replace (S z) (S [c]) (S []))) H
/-- x.replace(y, '') -/
theorem peq_rplE {ix iy : Nat} {x y : Str} {ty : Nat} {j : Nat} {b3 b4 b5 b6 b7 : Pos} (hx : X.N[ix]? = some x) (hvx : Vis X.env.scope x) (hy : X.N[iy]? = some y) (hky : X.env.kindOf y = some .local) (hm : (y, ty) ∈ R.2) (hline : (b4.endLine == b7.line) = true := by rfl)
    (dx : (x == ("__debug__" : Str)) = false := by decide) (cx : (x == ("__classdict__" : Str)) = false := by decide) (dy : (y == ("__debug__" : Str)) = false := by decide) :
    PEq X R (.Call (.Attribute (.Name x b3) "replace" b4) [.Name y b5, .Constant (.str "") j b6] [] b7) (tRplE ix iy) := by
  refine ⟨fun pins s σ H Q I k h => ?_⟩
  obtain ⟨z, c, h1, h2, hz, q⟩ := h
  obtain ⟨t1, t2, zz, ra⟩ := k.2 _ hm
  obtain ⟨t3, e3⟩ := raw_rel I hy hky h2 ra
  injection e3 with e3 _
  subst e3
  refine PySem.Call_method2 rfl rfl hline (raw_name hx hvx I h1 (fun v r => ?_) dx cx)
  obtain ⟨tx, rfl⟩ := r
  refine ⟨"str", _, PySem.F.plainAttrs_str, PySem.F.slot_str_replace, PySem.F.type_str_replace, typeIs_str _ _ _, (fun _ e => nomatch e), Calls.callWith_builtin rfl (Calls.evalArgs_plain (Calls.spliced_cons ?_))⟩
  refine raw_var I ra hky (Calls.spliced_cons (Calls.Constant_str (Calls.spliced_nil ?_))) dy
  have e0 : (PySem.Str.ofString "") = S [] := by decide +kernel
  have h0 : (PySem.Str.ofString "").length = 0 := by rw [e0]; exact S_len []
  have z1 : ty ≠ 0 := Nat.ne_of_gt t1
  have z2 : s.toks ≠ 0 := Nat.ne_of_gt k.1.1
  have z3 : ty ≠ s.toks := Nat.ne_of_lt t2
  refine wpAny_mono (PySem.wpAny_toks (PySem.SC.replace (E := X.xe) (Q := fun u s' => ∃ t', u = .str (Txt.replace (S z) (S [c]) (S [])) t' ∧ ∃ tk, s' = { s with toks := tk }) z1 z2 z3 ?_ (by rw [S_len, h0]; omega) fun t' k' => ⟨t', by rw [e0], k', rfl⟩)) (fun u s3 ⟨ht, t', e, tk, e2⟩ => ?_) fun _ _ z => z.2
  · refine beq_eq_false_iff_ne.mpr fun e => ?_
    rw [e0] at e
    have e3 : [c] = [] := S_inj.mp e
    cases e3
  · subst e e2
    have ht : s.toks + 1 ≤ tk := ht
    exact ⟨k.tok (t := tk) (by omega), .str _, H, I.tok tk, ⟨_, rfl⟩, q⟩
def tRpl (ix iy iz : Nat) : TE := fun σ H Q => ∃ (z : List Nat) (c d : Nat), σ[ix]? = some (some (.str (S z))) ∧ σ[iy]? = some (some (.str (S [c]))) ∧ σ[iz]? = some (some (.str (S [d]))) ∧ c ≠ d ∧ z.length ≤ 1000 ∧ Q (.str (Txt.replace (S z) (S [c]) (S [d]))) H
/-- x.replace(y, z) -/
theorem peq_rpl {ix iy iz : Nat} {x y z : Str} {ty tz : Nat} {b3 b4 b5 b6 b7 : Pos} (hx : X.N[ix]? = some x) (hvx : Vis X.env.scope x) (hy : X.N[iy]? = some y) (hky : X.env.kindOf y = some .local) (hm : (y, ty) ∈ R.2) (hz : X.N[iz]? = some z) (hkz : X.env.kindOf z = some .local) (hmz : (z, tz) ∈ R.2) (hlt : ty ≠ tz) (hline : (b4.endLine == b7.line) = true := by rfl)
    (dx : (x == ("__debug__" : Str)) = false := by decide) (cx : (x == ("__classdict__" : Str)) = false := by decide) (dy : (y == ("__debug__" : Str)) = false := by decide) (dz : (z == ("__debug__" : Str)) = false := by decide) :
    PEq X R (.Call (.Attribute (.Name x b3) "replace" b4) [.Name y b5, .Name z b6] [] b7) (tRpl ix iy iz) := by
  refine ⟨fun pins s σ H Q I k h => ?_⟩
  obtain ⟨l, c, d, h1, h2, h3, hcd, hl, q⟩ := h
  obtain ⟨t1, t2, zz, ra⟩ := k.2 _ hm
  obtain ⟨t3, e3⟩ := raw_rel I hy hky h2 ra
  injection e3 with e3 _
  subst e3
  obtain ⟨t4, t5, zz, rb⟩ := k.2 _ hmz
  obtain ⟨t6, e3⟩ := raw_rel I hz hkz h3 rb
  injection e3 with e3 _
  subst e3
  refine PySem.Call_method2 rfl rfl hline (raw_name hx hvx I h1 (fun v r => ?_) dx cx)
  obtain ⟨tx, rfl⟩ := r
  refine ⟨"str", _, PySem.F.plainAttrs_str, PySem.F.slot_str_replace, PySem.F.type_str_replace, typeIs_str _ _ _, (fun _ e => nomatch e), Calls.callWith_builtin rfl (Calls.evalArgs_plain (Calls.spliced_cons ?_))⟩
  refine raw_var I ra hky (Calls.spliced_cons (raw_var I rb hkz (Calls.spliced_nil ?_) dz)) dy
  refine wpAny_mono (PySem.wpAny_toks (PySem.SC.replace (E := X.xe) (Q := fun u s' => ∃ t', u = .str (Txt.replace (S l) (S [c]) (S [d])) t' ∧ ∃ tk, s' = { s with toks := tk }) (Nat.ne_of_gt t1) (Nat.ne_of_gt t4) hlt ?_ (by rw [S_len, S_len]; simp only [List.length_cons, List.length_nil]; omega) fun t' k' => ⟨t', rfl, k', rfl⟩)) (fun u s3 ⟨ht, t', e, tk, e2⟩ => ?_) fun _ _ z => z.2
  · refine beq_eq_false_iff_ne.mpr fun e => ?_
    have e3 : [c] = [d] := S_inj.mp e
    exact hcd (List.head_eq_of_cons_eq e3)
  · subst e e2
    have ht : s.toks ≤ tk := ht
    exact ⟨k.tok ht, .str _, H, I.tok tk, ⟨_, rfl⟩, q⟩
/-! a written list -/
theorem peq_lst {es : List Expr} {t : TA} {pos : Pos} (h : PAq X R es t) : PEq X R (.List es pos) (tLst t) := by
  refine ⟨fun pins s σ H Q I k hq => ?_⟩
  refine wpAny_List_spliced (thn (h.run pos pins s σ H _ I k hq) fun us s1 ⟨k1, xs, H1, I1, r, z, q⟩ => ⟨by rw [← r.length]; exact z, ?_⟩)
  have hf : H1 s1.heap.objs.size = none := I1.hok.fresh (Nat.le_refl _)
  refine ⟨k1.push (t := s1.toks) (Nat.le_refl _) fun b u e => Heap.get?_push_of_some _ e, .ref s1.heap.objs.size, upd H1 s1.heap.objs.size (.lst xs), I1.laid (t' := s1.toks) (fun b u e => Heap.get?_push_of_some _ e) (Nat.le_refl _) ?_, rfl, q _ hf⟩
  exact ⟨z, us, 0, r, Heap.get?_push_size _ rfl⟩
/-! statements -/
theorem pssq_of {st : List Stmt} {t : TS} (h : PSs X st t) : PSsq X R st t := ⟨fun pins s σ H D I _ q => h.run pins s σ H D I q⟩
theorem pssq_ret {e : Expr} {es : List Stmt} {te : TE} {pos : Pos} (h : PEq X R e te) : PSsq X R (.Return (some e) pos :: es) (tRet te) := by
  refine ⟨fun pins s σ H D I k q => ?_⟩
  exact wpAny_execs_cons (wpAny_Return_some (thn (h.run pins s σ H _ I k q) fun v s1 ⟨k1, x, H1, I1, r1, q1⟩ => ⟨x, σ, H1, I1, r1, q1⟩))
theorem pssq_if {c : Expr} {a rest : List Stmt} {tc : TT} {t u : TS} {pos : Pos} (hc : PTq X R c tc) (ha : PSsq X R a t) (hr : PSsq X R rest u) (hret : ∀ D σ H, t D σ H → t { D with nx := fun _ _ => False } σ H) : PSsq X R (.If c a [] pos :: rest) (fun D σ H => tc σ H fun b H1 => if b = true then t D σ H1 else u D σ H1) := by
  refine ⟨fun pins s σ H D I k q => ?_⟩
  refine wpAny_execs_cons (wpAny_If (thn (hc.run _ pins s σ H _ I k q) fun d s1 ⟨k1, H1, I1, q1⟩ => ?_))
  cases d with
  | true =>
    refine thn (ha.run pins s1 σ H1 _ I1 k1 (hret _ _ _ q1)) fun f s2 q2 => ?_
    cases f with
    | next => obtain ⟨_, _, _, z⟩ := q2; exact z.elim
    | ret v => exact q2
    | brk => exact q2
    | cont => exact q2
  | false => exact wpAny_execs_nil (hr.run pins s1 σ H1 D I1 k1 q1)
/-- a name that R does not know, stored -/
theorem pssq_set {i : Nat} {x : Str} {e : Expr} {te : TE} {rest : List Stmt} {u : TS} {pos pos' : Pos} (hN : X.N.Nodup) (hi : X.N[i]? = some x) (hk : X.env.kindOf x = some .local) (hx : ∀ p ∈ R.2, p.1 ≠ x) (he : PEq X R e te) (h2 : PSsq X R rest u) (hs : swapsWith e (some (.Name x pos')) pos.line X.env = pure false := by rfl) :
    PSsq X R (.Assign [.Name x pos'] e pos :: rest) (fun D σ H => te σ H fun v H1 => u D (σ.set i (some v)) H1) := by
  refine ⟨fun pins s σ H D I k q => ?_⟩
  refine wpAny_execs_cons (wpAny_Assign_Name (thn (he.run pins s σ H _ I k q) fun v s1 ⟨k1, y, H1, I1, r1, q1⟩ => ?_) hs)
  refine set_raw2 I1 hN hi hk r1 fun s2 I2 _ ro ht _ => h2.run pins s2 _ H1 D I2 ⟨⟨by omega, by have := k1.1.2; omega⟩, fun p hp => ?_⟩ q1
  obtain ⟨a1, a2, z, a3⟩ := k1.2 p hp
  exact ⟨a1, by omega, z, ro _ _ (hx p hp) a3⟩
/-- nothing is known yet: a statement that stores a local -/
theorem pss_q {i : Nat} {x : Str} {e : Expr} {te : TE} {rest : List Stmt} {u : TS} {pos pos' : Pos} (hN : X.N.Nodup) (hi : X.N[i]? = some x) (hk : X.env.kindOf x = some .local) (he : PE X e te) (h2 : PSsq X (0, []) rest u) (hs : swapsWith e (some (.Name x pos')) pos.line X.env = pure false := by rfl) :
    PSs X (.Assign [.Name x pos'] e pos :: rest) (fun D σ H => te σ H fun v H1 => u D (σ.set i (some v)) H1) := by
  refine ⟨fun pins s σ H D I q => ?_⟩
  refine wpAny_execs_cons (wpAny_Assign_Name (thn (he.run pins s σ H _ I q) fun v s1 ⟨y, H1, I1, r1, q1⟩ => ?_) hs)
  exact set_raw2 I1 hN hi hk r1 fun s2 I2 _ ro ht _ => h2.run pins s2 _ H1 D I2 ⟨⟨by omega, Nat.zero_le _⟩, fun p hp => by cases hp⟩ q1
/-- y = x[e], a sign of a text: its token is new -/
theorem pssq_ix {i j : Nat} {x y : Str} {e : Expr} {te : TE} {rest : List Stmt} {u : TS} {p1 p2 p3 pos : Pos} (hN : X.N.Nodup) (hi : X.N[i]? = some y) (hk : X.env.kindOf y = some .local) (hx : ∀ p ∈ R.2, p.1 ≠ y) (hj : X.N[j]? = some x) (hvx : Vis X.env.scope x) (he : PEq X R e te) (hsl : PlainIx e)
    (h2 : ∀ t : Nat, (∀ p ∈ R.2, p.2 < t) → PSsq X (R.1, (y, t) :: R.2) rest u) (dx : (x == ("__debug__" : Str)) = false := by decide) (cx : (x == ("__classdict__" : Str)) = false := by decide)
    (hs : swapsWith (.Subscript (.Name x p1) e p2) (some (.Name y p3)) pos.line X.env = pure false := by rfl) :
    PSsq X R (.Assign [.Name y p3] (.Subscript (.Name x p1) e p2) pos :: rest) (fun D σ H => ∃ l : List Nat, σ[j]? = some (some (.str (S l))) ∧ l.length ≤ 1000 ∧ te σ H fun v H1 => ∃ (r c : Nat), v = .int (r : Int) ∧ l[r]? = some c ∧ u D (σ.set i (some (.str (S [c])))) H1) := by
  refine ⟨fun pins s σ H D I k q => ?_⟩
  obtain ⟨l, hl, hlen, q⟩ := q
  refine wpAny_execs_cons (wpAny_Assign_Name (Subscript_ (raw_name hj hvx I hl (fun u0 r0 => ?_) dx cx)) hs)
  obtain ⟨tz, rfl⟩ := r0
  refine thn (he.run pins s σ H _ I k q) fun u1 s1 ⟨k1, v, H1, I1, r1, r, c, hv, hr, q⟩ => ?_
  subst hv
  obtain ⟨t1, rfl⟩ := r1
  have hlt : r < l.length := (List.getElem?_eq_some_iff.mp hr).1
  have e1 : decide ((r : Int) < -(2 ^ 63 : Int)) = false := decide_eq_false (by omega)
  have e2 : decide ((r : Int) ≥ 2 ^ 63) = false := decide_eq_false (by omega)
  refine tail_any (typeIs_str s1 (S l) tz) slot_str_getitem.lookup (getItem_str (c := c) (by rw [e1, e2]; rfl) ?_ ?_) (hsl _ _)
  · obtain ⟨q, q1, q2, _⟩ := atI_get (atI_nat hr)
    rw [S_len, q1]
    exact S_get.mpr q2
  · refine set_raw2 (i := i) (v := .str (S [c])) (I1.tok _) hN hi hk ⟨_, rfl⟩ fun s2 I2 ra ro ht _ => ?_
    have ht' : s2.toks = s1.toks + 1 + 1 := ht
    refine (h2 s1.toks fun p hp => (k1.2 p hp).2.1).run pins s2 _ H1 D I2 ⟨⟨by omega, by have := k1.1.2; omega⟩, fun p hp => ?_⟩ q
    rcases List.mem_cons.mp hp with rfl | hp
    · exact ⟨k1.1.1, by show s1.toks < s2.toks; omega, _, ra⟩
    · obtain ⟨a1, a2, z, a3⟩ := k1.2 p hp
      exact ⟨a1, by omega, z, ro _ _ (hx p hp) (raw_heap rfl a3)⟩
/-- y = x[e], an item of a list of told tokens -/
theorem pssq_ixT {i j : Nat} {x y : Str} {e : Expr} {te : TE} {rest : List Stmt} {u : TS} {p1 p2 p3 pos : Pos} {kk mm : Nat} (hmm : mm ≤ R.1) (hN : X.N.Nodup) (hi : X.N[i]? = some y) (hk : X.env.kindOf y = some .local) (hx : ∀ p ∈ R.2, p.1 ≠ y) (hkk : ∀ p ∈ R.2, p.2 < kk) (hk1 : 1 ≤ kk) (hj : X.N[j]? = some x) (hvx : Vis X.env.scope x) (he : PEq X R e te) (hsl : PlainIx e)
    (h2 : ∀ t : Nat, (∀ p ∈ R.2, p.2 < t) → PSsq X (R.1, (y, t) :: R.2) rest u) (dx : (x == ("__debug__" : Str)) = false := by decide) (cx : (x == ("__classdict__" : Str)) = false := by decide)
    (hs : swapsWith (.Subscript (.Name x p1) e p2) (some (.Name y p3)) pos.line X.env = pure false := by rfl) :
    PSsq X R (.Assign [.Name y p3] (.Subscript (.Name x p1) e p2) pos :: rest) (fun D σ H => ∃ L : Addr, σ[j]? = some (some (.ref L)) ∧ te σ H fun v H1 => ∃ (l : List Nat) (r c : Nat), v = .int (r : Int) ∧ H1 L = some (TokL L kk mm l) ∧ l.length ≤ 1000 ∧ l[r]? = some c ∧ u D (σ.set i (some (.str (S [c])))) H1) := by
  refine ⟨fun pins s σ H D I k q => ?_⟩
  obtain ⟨L, hl, q⟩ := q
  refine wpAny_execs_cons (wpAny_Assign_Name (Subscript_ (raw_name hj hvx I hl (fun u0 r0 => ?_) dx cx)) hs)
  obtain rfl : u0 = Value.ref L := r0
  refine thn (he.run pins s σ H _ I k q) fun u1 s1 ⟨k1, v, H1, I1, r1, l, r, c, hv, hL, hlen, hr, q⟩ => ?_
  subst hv
  obtain ⟨t1, rfl⟩ := r1
  have hlt : r < l.length := (List.getElem?_eq_some_iff.mp hr).1
  obtain ⟨its, n, ri, e⟩ := Inv.tokAt I1 hL
  obtain ⟨t, g1, g2, g3⟩ := ri.get hr
  have p : s1.heap.IsList L its.toArray := ⟨_, e, rfl, n, rfl⟩
  refine item_listR (u := t1) p (Int.natCast_nonneg _) (by omega) (by simpa using g3) ?_ (hsl _ _)
  refine set_raw2 (i := i) (v := .str (S [c])) I1 hN hi hk ⟨_, rfl⟩ fun s2 I2 ra ro ht _ => ?_
  have hlim := k1.1.2
  refine (h2 t fun p hp => Nat.lt_of_lt_of_le (hkk p hp) g1).run pins s2 _ H1 D I2 ⟨⟨by omega, by show R.1 ≤ s2.toks; omega⟩, fun p hp => ?_⟩ q
  rcases List.mem_cons.mp hp with rfl | hp
  · exact ⟨Nat.le_trans hk1 g1, by show t < s2.toks; omega, _, ra⟩
  · obtain ⟨a1, a2, z, a3⟩ := k1.2 p hp
    exact ⟨a1, by omega, z, ro _ _ (hx p hp) a3⟩
/-- y = [one for one in 'abc' if one not in letters]: the items' tokens are told -/
theorem pssq_lcT {i i1 j : Nat} {y one lets z : Str} {lit : List Nat} {scope : Scope} {rest : List Stmt} {u : Nat → Nat → TS} {jz : Nat} {py pos spos p1 p2 p3 p4 p5 p6 : Pos} (hc : X.calm = true) (hN : X.N.Nodup) (hi : X.N[i]? = some y) (hky : X.env.kindOf y = some .local) (hx : ∀ p ∈ R.2, p.1 ≠ y)
    (ok : BlkOk X.N X.env.scope scope [(one, i1)]) (hz : z = S lit) (hz8 : z.cps.all (· < 128) = true) (hlen : lit.length ≤ 1000) (hi1 : X.N[i1]? = some one) (hj : X.N[j]? = some lets) (hij : i1 ≠ j)
    (hk : ∀ cl C, (compEnvC scope cl C X.env).kindOf one = some .local) (hv : ∀ cl C, Vis (compEnvC scope cl C X.env).scope lets)
    (hsw : swapsWith (.ListComp (.Name one p1) [⟨.Name one p2, .Constant (.str z) jz p3, [.Compare (.Name one p4) [.NotIn] [.Name lets p5] p6], 0⟩] scope pos) (some (.Name y py)) spos.line X.env = pure true)
    (h2 : ∀ kk mm : Nat, 1 ≤ kk → (∀ p ∈ R.2, p.2 < kk) → PSsq X (mm, R.2) rest (u kk mm))
    (d1 : (one == ("__debug__" : Str)) = false := by decide) (d2 : (lets == ("__debug__" : Str)) = false := by decide) (d3 : (lets == ("__classdict__" : Str)) = false := by decide) :
    PSsq X R (.Assign [.Name y py] (.ListComp (.Name one p1) [⟨.Name one p2, .Constant (.str z) jz p3, [.Compare (.Name one p4) [.NotIn] [.Name lets p5] p6], 0⟩] scope pos) spos :: rest)
      (fun D σ H => ∃ l : List Nat, σ[j]? = some (some (.str (S l))) ∧ ∀ kk mm L, H L = none → u kk mm D (σ.set i (some (.ref L))) (upd H L (TokL L kk mm (lit.filter fun c => decide (c ∉ l))))) := by
  refine ⟨fun pins s σ H D I k q => ?_⟩
  obtain ⟨l, hl, q⟩ := q
  refine wpAny_execs_cons ?_
  rw [exec_Assign_Name_used _ _ _ _ hsw]
  refine wpAny_bind (wpAny_standAt (wpAny_bind ?_))
  show wpAny _ X.A (do let _ ← comprehension (.ListComp (.Name one p1) [⟨.Name one p2, .Constant (.str z) jz p3, [.Compare (.Name one p4) [.NotIn] [.Name lets p5] p6], 0⟩] scope pos) scope X.env (firstIterPos [⟨.Name one p2, .Constant (.str z) jz p3, [.Compare (.Name one p4) [.NotIn] [.Name lets p5] p6], 0⟩] pos) (newList []) false (eval (.Constant (.str z) jz p3) X.env) (some (assign (.Name y py) X.env))) _ _ s
  refine wpAny_bind (thn (lc_tok (Qf := fun _ s' => ∃ L mm, H L = none ∧ mm ≤ s'.toks ∧ Inv X pins (σ.set i (some (.ref L))) (upd H L (TokL L s.toks mm (lit.filter fun c => decide (c ∉ l)))) s' ∧ Kn X (mm, R.2) s') hc hN I ok hz hz8 hlen hi1 hj hl hij hk hv d1 d2 d3 fun L C s' m H' mm hL0 hm0 hm1 hH' I' hn f ht' hraw => ?_) fun _ s' ⟨L, mm, hL, hm, I', k'⟩ => wpAny_pure (wpAny_pure ((h2 s.toks mm k.1.1 fun p hp => (k.2 p hp).2.1).run pins s' _ _ D I' k' (q _ _ L hL))))
  show wpAny _ _ (assign (.Name y py) X.env (.ref L)) _ _ _
  refine wpAny_assign_Name (set_raw2 (v := V.ref L) I' hN hi hky rfl fun s2 I2 ra ro tk2 sb2 => ?_)
  obtain ⟨f0, f1, f2, f3, f4, f5⟩ := f
  refine ⟨m, hn.sameBut sb2 f1, fun h3 sb3 => ?_⟩
  subst hH'
  refine ⟨L, mm, hL0, by show mm ≤ s2.toks; omega, I2.turned (t' := s2.toks) (fun b o hb e => (sb3.2 b hb).trans e) f0 f1 f3 f4 f5, ⟨by show 1 ≤ s2.toks; omega, by show mm ≤ s2.toks; omega⟩, fun p hp => ?_⟩
  obtain ⟨a1, a2, z, a3⟩ := k.2 p hp
  exact ⟨a1, by show p.2 < s2.toks; omega, z, raw_keep (s := s2) (fun b o eb e => (sb3.2 b (fun q => f1 (by rw [← q, eb]))).trans e) (ro _ _ (hx p hp) (hraw _ _ a3))⟩
end
end Vk
set_option Elab.async false
set_option linter.all false
set_option maxRecDepth 100000
set_option maxHeartbeats 8000000
namespace Vk
open PySem PySem.Spec PyProof.Rows L2
/-! the walk over a reading -/
open L2 in
local macro_rules | `(tactic| walk_at "lk") => `(tactic| (refine Fr.get (by assumption) (by first | assumption | (simp only [List.mem_cons, List.not_mem_nil, or_false, not_or]; first | assumption | (refine ⟨?_, ?_⟩ <;> assumption) | (apply Ne.symm; assumption))) ?_; walk_at "lk"))
local macro_rules | `(tactic| walk_at "lk") => `(tactic| (refine Same.get (by assumption) ?_; walk_at "lk"))
local macro_rules | `(tactic| walk_at "lk") => `(tactic| (refine upd_oth (by first | assumption | (apply Ne.symm; assumption)) ?_; walk_at "lk"))
local macro_rules | `(tactic| walk_at "lk") => `(tactic| (refine upd_old (by assumption) ?_; walk_at "lk"))
local macro_rules | `(tactic| walk_at "lk") => `(tactic| exact upd_same)
local macro_rules | `(tactic| walk_at "lk") => `(tactic| assumption)
local macro_rules | `(tactic| walk_at "len") => `(tactic| (simp only [S_len, sizeLine_eq, List.length_take, List.length_drop, List.length_append, List.length_cons, List.length_nil]; omega))
local macro_rules | `(tactic| walk_at "len") => `(tactic| (simp only [S_len, sizeLine_eq]; omega))
local macro_rules | `(tactic| walk_at "len") => `(tactic| (simp only [List.length_cons, List.length_nil, sizeLine_eq]; omega))
local macro_rules | `(tactic| walk_at "num") => `(tactic| first | assumption | omega | (simp only [List.length_take, List.length_drop, List.length_append, List.length_cons, List.length_nil]; omega))
local macro_rules | `(tactic| walk_at "ix") => `(tactic| first | exact rfl | assumption | exact atI_nat (by assumption))
local macro_rules | `(tactic| walk_at "putq") => `(tactic| exact rfl)
local macro_rules | `(tactic| walk_at "sq") => `(tactic| exact .inr (SqT.of (by walk_at "lk")))
local macro_rules | `(tactic| walk_at "sq") => `(tactic| exact .inl (SqL.of (by walk_at "lk")))
local macro_rules | `(tactic| walk_at "sq") => `(tactic| exact .inl (by assumption))
local macro_rules | `(tactic| walk_at "sq") => `(tactic| exact .inr (by assumption))
local macro_rules | `(tactic| walk_at "mapq") => `(tactic| exact (rfl : _ = List.map (fun l => V.str (S l)) [_, _, _, _, _]))
local macro_rules | `(tactic| walk_at "mapq") => `(tactic| exact (rfl : _ = List.map (fun l => V.str (S l)) [_, _, _, _]))
local macro_rules | `(tactic| walk_at "mapq") => `(tactic| exact (rfl : _ = List.map (fun l => V.str (S l)) [_, _, _]))
local macro_rules | `(tactic| walk_at "mapq") => `(tactic| exact (rfl : _ = List.map (fun l => V.str (S l)) [_, _]))
local macro_rules | `(tactic| walk_at "mapq") => `(tactic| exact (rfl : _ = List.map (fun l => V.str (S l)) [_]))
local macro_rules | `(tactic| walk_at "mapq") => `(tactic| exact rfl)
local macro_rules | `(tactic| walk_at "setq") => `(tactic| ((try simp only [Int.reduceToNat, List.set_cons_succ, List.set_cons_zero]); exact rfl))
local macro_rules | `(tactic| walk_at "toN") => `(tactic| first | exact rfl | exact (Int.natCast_add _ _).symm | exact (Int.natCast_add _ 1).symm)
local macro_rules | `(tactic| walk_at "cond") => `(tactic| first | omega | (simp only [List.length_map]; omega) | (refine Or.inl ⟨?_, ?_⟩ <;> omega) | (refine Or.inr ⟨?_, ?_⟩ <;> omega) | (refine ⟨?_, ?_⟩ <;> omega))
local macro_rules | `(tactic| walk_at "side") => `(tactic| omega)
local macro_rules | `(tactic| walk_at "side") => `(tactic| (walk_at "len"))
local macro_rules | `(tactic| walk_at "side") => `(tactic| exact ⟨_, by assumption⟩)
local macro_rules | `(tactic| walk_at "side") => `(tactic| exact ⟨_, SqL.of (by walk_at "lk")⟩)
local macro_rules | `(tactic| walk_at "side") => `(tactic| exact ⟨_, rfl⟩)
local macro_rules | `(tactic| walk_at "side") => `(tactic| exact .inl ⟨rfl, _, SqL.of (by walk_at "lk")⟩)
local macro_rules | `(tactic| walk_at "side") => `(tactic| exact .inr (SqT.of (by walk_at "lk")))
local macro_rules | `(tactic| walk_at "side") => `(tactic| exact .inl (SqL.of (by walk_at "lk")))
local macro_rules | `(tactic| walk_at "side") => `(tactic| exact SqT.of (by walk_at "lk"))
local macro_rules | `(tactic| walk_at "side") => `(tactic| exact SqL.of (by walk_at "lk"))
local macro_rules | `(tactic| walk_at "side") => `(tactic| (walk_at "lk"))
local macro_rules | `(tactic| walk_at "side") => `(tactic| rfl)
local macro_rules | `(tactic| walk_at "go1") => `(tactic| ((with_reducible apply Or.inr); (with_reducible apply Exists.intro); (with_reducible apply And.intro); exact rfl))
local macro_rules | `(tactic| walk_at "go1") => `(tactic| ((with_reducible apply Or.inl); (with_reducible apply Exists.intro); (with_reducible apply And.intro); exact rfl))
local macro_rules | `(tactic| walk_at "go1") => `(tactic| ((with_reducible apply And.intro); walk_at "side"))
local macro_rules | `(tactic| walk_at "go1") => `(tactic| ((with_reducible apply And.intro); exact rfl))
local macro_rules | `(tactic| walk_at "go1") => `(tactic| (with_reducible apply Exists.intro))
local macro_rules | `(tactic| walk_at "go1") => `(tactic| (walk_at "proj"))
local macro_rules | `(tactic| walk_at "go1") => `(tactic| ((with_reducible apply eSFld); (walk_at "lk"); assumption; assumption; (simp only [List.length_cons, List.length_nil]; decide); (walk_at "putq")))
local macro_rules | `(tactic| walk_at "go1") => `(tactic| (with_reducible refine iNFF ?_))
local macro_rules | `(tactic| walk_at "go1") => `(tactic| (with_reducible refine iNTT ?_))
local macro_rules | `(tactic| walk_at "go1") => `(tactic| (with_reducible refine iFF ?_))
local macro_rules | `(tactic| walk_at "go1") => `(tactic| (with_reducible refine iTT ?_))
local macro_rules | `(tactic| walk_at "go1") => `(tactic| ((with_reducible apply iListT); (walk_at "num")))
local macro_rules | `(tactic| walk_at "go1") => `(tactic| ((with_reducible apply iTruL); (first | assumption | exact SqL.of (by walk_at "lk"))))
local macro_rules | `(tactic| walk_at "go1") => `(tactic| ((with_reducible apply iTruCons); exact SqL.of (by walk_at "lk")))
local macro_rules | `(tactic| walk_at "go1") => `(tactic| ((with_reducible apply iTruNil); exact SqL.of (by walk_at "lk")))
local macro_rules | `(tactic| walk_at "go1") => `(tactic| ((with_reducible apply iAppend); (walk_at "lk"); (walk_at "len")))
local macro_rules | `(tactic| walk_at "go1") => `(tactic| ((with_reducible apply iCat); (walk_at "lk"); (walk_at "lk"); (walk_at "len")))
local macro_rules | `(tactic| walk_at "go1") => `(tactic| ((with_reducible apply iSlL); (first | assumption | exact SqL.of (by walk_at "lk"))))
local macro_rules | `(tactic| walk_at "go1") => `(tactic| (with_reducible refine iYes ?_))
local macro_rules | `(tactic| walk_at "go1") => `(tactic| (with_reducible refine iForR2 ?_))
local macro_rules | `(tactic| walk_at "go1") => `(tactic| (with_reducible refine iForR1 ?_))
local macro_rules | `(tactic| walk_at "go1") => `(tactic| (with_reducible refine iForS ?_))
local macro_rules | `(tactic| walk_at "go1") => `(tactic| (with_reducible refine iForL ?_))
local macro_rules | `(tactic| walk_at "go1") => `(tactic| (with_reducible refine iLcR1 ?_))
local macro_rules | `(tactic| walk_at "go1") => `(tactic| (with_reducible refine iLcS ?_))
local macro_rules | `(tactic| walk_at "go1") => `(tactic| (with_reducible refine iLcL ?_))
local macro_rules | `(tactic| walk_at "go1") => `(tactic| ((with_reducible apply iNInL); (walk_at "sq"); (walk_at "mapq")))
local macro_rules | `(tactic| walk_at "go1") => `(tactic| ((with_reducible apply iInL); (walk_at "sq"); (walk_at "mapq")))
local macro_rules | `(tactic| walk_at "go1") => `(tactic| (with_reducible refine iWF ?_))
local macro_rules | `(tactic| walk_at "go1") => `(tactic| (with_reducible refine iWT ?_))
local macro_rules | `(tactic| walk_at "go1") => `(tactic| (with_reducible refine iMeth ?_))
local macro_rules | `(tactic| walk_at "go1") => `(tactic| (with_reducible refine iMeth0 ?_))
local macro_rules | `(tactic| walk_at "go1") => `(tactic| (with_reducible refine iProp ?_))
local macro_rules | `(tactic| walk_at "go1") => `(tactic| (with_reducible refine iCon ?_))
local macro_rules | `(tactic| walk_at "go1") => `(tactic| (with_reducible refine iSFld ?_))
local macro_rules | `(tactic| walk_at "go1") => `(tactic| (with_reducible refine iFld ?_))
local macro_rules | `(tactic| walk_at "go1") => `(tactic| (with_reducible refine isi_bl_str ?_))
local macro_rules | `(tactic| walk_at "go1") => `(tactic| (with_reducible refine isi_bl_int ?_))
local macro_rules | `(tactic| walk_at "go1") => `(tactic| (with_reducible refine isi_bl_bool ?_))
local macro_rules | `(tactic| walk_at "go1") => `(tactic| (with_reducible refine isi_str_bool ?_))
local macro_rules | `(tactic| walk_at "go1") => `(tactic| (with_reducible refine isi_str_int ?_))
local macro_rules | `(tactic| walk_at "go1") => `(tactic| (with_reducible refine isi_str_str ?_))
local macro_rules | `(tactic| walk_at "go1") => `(tactic| (with_reducible refine isi_int_str ?_))
local macro_rules | `(tactic| walk_at "go1") => `(tactic| (with_reducible refine isi_int_bool ?_))
local macro_rules | `(tactic| walk_at "go1") => `(tactic| (with_reducible refine isi_int_int ?_))
local macro_rules | `(tactic| walk_at "go1") => `(tactic| (with_reducible refine iLst ?_))
local macro_rules | `(tactic| walk_at "go1") => `(tactic| (with_reducible refine iTup ?_))
local macro_rules | `(tactic| walk_at "go1") => `(tactic| (with_reducible refine iPart ?_))
local macro_rules | `(tactic| walk_at "go1") => `(tactic| (with_reducible refine iNoPart ?_))
local macro_rules | `(tactic| walk_at "go1") => `(tactic| ((with_reducible apply iSetL); (walk_at "lk"); exact rfl; (walk_at "setq")))
local macro_rules | `(tactic| walk_at "go1") => `(tactic| ((with_reducible apply iPartS); walk_at "num"))
local macro_rules | `(tactic| walk_at "go1") => `(tactic| (with_reducible refine iStartS ?_))
local macro_rules | `(tactic| walk_at "go1") => `(tactic| (with_reducible refine iFindS ?_))
local macro_rules | `(tactic| walk_at "go1") => `(tactic| ((with_reducible apply iFindNo); assumption))
local macro_rules | `(tactic| walk_at "go1") => `(tactic| ((with_reducible apply iFindYes); assumption))
local macro_rules | `(tactic| walk_at "go1") => `(tactic| (with_reducible refine iNotInS ?_))
local macro_rules | `(tactic| walk_at "go1") => `(tactic| (with_reducible refine iInS ?_))
local macro_rules | `(tactic| walk_at "go1") => `(tactic| ((with_reducible apply iLenS1); walk_at "num"))
local macro_rules | `(tactic| walk_at "go1") => `(tactic| ((with_reducible apply iAddS); walk_at "num"))
local macro_rules | `(tactic| walk_at "go1") => `(tactic| ((with_reducible apply iSlS); walk_at "num"))
local macro_rules | `(tactic| walk_at "go1") => `(tactic| ((with_reducible apply iSlMid); walk_at "num"; walk_at "toN"; walk_at "toN"))
local macro_rules | `(tactic| walk_at "go1") => `(tactic| ((with_reducible apply iSlFrom); walk_at "num"; walk_at "toN"))
local macro_rules | `(tactic| walk_at "go1") => `(tactic| ((with_reducible apply iSlTo); walk_at "num"; walk_at "toN"))
local macro_rules | `(tactic| walk_at "go1") => `(tactic| ((with_reducible apply iIxS); walk_at "num"; walk_at "ix"))
local macro_rules | `(tactic| walk_at "go1") => `(tactic| ((with_reducible apply iIxT); exact SqT.of (by walk_at "lk"); walk_at "ix"))
local macro_rules | `(tactic| walk_at "go1") => `(tactic| ((with_reducible apply iIxL); exact SqL.of (by walk_at "lk"); walk_at "ix"))
local macro_rules | `(tactic| walk_at "go1") => `(tactic| (with_reducible refine iSl ?_))
local macro_rules | `(tactic| walk_at "go1") => `(tactic| (with_reducible refine iBM ?_))
local macro_rules | `(tactic| walk_at "go1") => `(tactic| (with_reducible refine iM1 ?_))
local macro_rules | `(tactic| walk_at "go1") => `(tactic| ((with_reducible apply iI); walk_at "cond"))
local macro_rules | `(tactic| walk_at "go1") => `(tactic| ((with_reducible apply iNe); exact rfl))
local macro_rules | `(tactic| walk_at "go1") => `(tactic| ((with_reducible apply iEq); exact rfl))
local macro_rules | `(tactic| walk_at "go1") => `(tactic| (with_reducible refine iNext ?_))
local macro_rules | `(tactic| walk_at "go1") => `(tactic| (with_reducible refine iDrop ?_))
local macro_rules | `(tactic| walk_at "go1") => `(tactic| (with_reducible refine iRetN ?_))
local macro_rules | `(tactic| walk_at "go1") => `(tactic| (with_reducible refine iRet ?_))
local macro_rules | `(tactic| walk_at "go1") => `(tactic| (with_reducible refine iIfE ?_))
local macro_rules | `(tactic| walk_at "go1") => `(tactic| (with_reducible refine iNotV ?_))
local macro_rules | `(tactic| walk_at "go1") => `(tactic| (with_reducible refine iOrV ?_))
local macro_rules | `(tactic| walk_at "go1") => `(tactic| (with_reducible refine iAndV ?_))
local macro_rules | `(tactic| walk_at "go1") => `(tactic| (with_reducible refine iNot ?_))
local macro_rules | `(tactic| walk_at "go1") => `(tactic| (with_reducible refine iOr ?_))
local macro_rules | `(tactic| walk_at "go1") => `(tactic| (with_reducible refine iAnd ?_))
local macro_rules | `(tactic| walk_at "go1") => `(tactic| (with_reducible refine iTest ?_))
local macro_rules | `(tactic| walk_at "go1") => `(tactic| (with_reducible refine iB ?_))
local macro_rules | `(tactic| walk_at "go1") => `(tactic| (with_reducible refine iIfS ?_))
local macro_rules | `(tactic| walk_at "go1") => `(tactic| (with_reducible refine iUn ?_))
local macro_rules | `(tactic| walk_at "go1") => `(tactic| (with_reducible refine iU ?_))
local macro_rules | `(tactic| walk_at "go1") => `(tactic| (with_reducible refine iI0 ?_))
local macro_rules | `(tactic| walk_at "go1") => `(tactic| (with_reducible refine iCall ?_))
local macro_rules | `(tactic| walk_at "go1") => `(tactic| (with_reducible refine iCall0 ?_))
local macro_rules | `(tactic| walk_at "go1") => `(tactic| (with_reducible refine iCB ?_))
local macro_rules | `(tactic| walk_at "go1") => `(tactic| (with_reducible refine iNil ?_))
local macro_rules | `(tactic| walk_at "go1") => `(tactic| (with_reducible refine iCons ?_))
local macro_rules | `(tactic| walk_at "go1") => `(tactic| (with_reducible refine iSub ?_))
local macro_rules | `(tactic| walk_at "go1") => `(tactic| (with_reducible refine iName ?_))
local macro_rules | `(tactic| walk_at "go1") => `(tactic| (with_reducible refine iAsg ?_))
local macro_rules | `(tactic| walk_at "go1") => `(tactic| (with_reducible refine iOp ?_))
local macro_rules | `(tactic| walk_at "go1") => `(tactic| (with_reducible refine iC ?_))
local macro_rules | `(tactic| walk_at "go1") => `(tactic| ((with_reducible apply iVar); exact rfl))
local macro_rules | `(tactic| walk_at "go1") => `(tactic| (with_reducible refine iSeq ?_))
local macro_rules | `(tactic| walk_at "fr") => `(tactic| (refine Fr.trans ?_ (Fr.wk (Fr.wk (by assumption))); walk_at "fr"))
local macro_rules | `(tactic| walk_at "fr") => `(tactic| (refine Fr.trans ?_ (Fr.wk1 (by assumption)); walk_at "fr"))
local macro_rules | `(tactic| walk_at "fr") => `(tactic| (refine Fr.trans ?_ (Fr.wk (by assumption)); walk_at "fr"))
local macro_rules | `(tactic| walk_at "fr") => `(tactic| (refine Fr.trans ?_ (by assumption); walk_at "fr"))
local macro_rules | `(tactic| walk_at "fr") => `(tactic| (refine Fr.trans ?_ (Fr.of_same (by assumption)); walk_at "fr"))
local macro_rules | `(tactic| walk_at "fr") => `(tactic| (refine Fr.trans ?_ (Fr.upd_new (by assumption)); walk_at "fr"))
local macro_rules | `(tactic| walk_at "fr") => `(tactic| (refine Fr.trans ?_ Fr.in2; walk_at "fr"))
local macro_rules | `(tactic| walk_at "fr") => `(tactic| (refine Fr.trans ?_ Fr.in1; walk_at "fr"))
local macro_rules | `(tactic| walk_at "fr") => `(tactic| (refine Fr.trans ?_ Fr.in0; walk_at "fr"))
local macro_rules | `(tactic| walk_at "fr") => `(tactic| assumption)
local macro_rules | `(tactic| walk_at "fr") => `(tactic| exact Fr.refl _ _)
local macro_rules | `(tactic| walk_at "proj") => `(tactic| (with_reducible refine (show (Ends.mk _ _ _ _).rt _ _ from ?_); dsimp only))
local macro_rules | `(tactic| walk_at "proj") => `(tactic| (with_reducible refine (show (Ends.mk _ _ _ _).nx _ _ from ?_); dsimp only))
local macro_rules | `(tactic| walk_at "br0") => `(tactic| (with_reducible apply iWDN))
local macro_rules | `(tactic| walk_at "br0") => `(tactic| (with_reducible apply iWD))
local macro_rules | `(tactic| walk_at "br0") => `(tactic| (with_reducible apply iBbn))
local macro_rules | `(tactic| walk_at "br0") => `(tactic| (with_reducible apply iBb))
local macro_rules | `(tactic| walk_at "br0") => `(tactic| (with_reducible apply iBnd))
local macro_rules | `(tactic| walk_at "br0") => `(tactic| (with_reducible apply iBd))
local macro_rules | `(tactic| walk_at "dead") => `(tactic| first | (exfalso; omega) | contradiction)
local macro_rules | `(tactic| walk_at "br") => `(tactic| (walk_at "br0" <;> (intro hbr; (try simp only [V.str.injEq, V.int.injEq, V.bl.injEq, Vk.S_inj, reduceCtorEq, List.cons.injEq, and_true, not_true_eq_false, not_false_eq_true, decide_eq_true_eq, decide_eq_false_iff_not, Nat.reduceEqDiff, List.length_cons, List.length_nil, and_false, false_and, eq_self] at hbr); (try walk_at "dead"))))
local macro_rules | `(tactic| walk_at "new") => `(tactic| (refine fun (p : Addr) (hp : _ = none) => ?_))
local macro_rules | `(tactic| walk_at "go") => `(tactic| repeat' (first | walk_at "go1" | walk_at "br" | walk_at "new" | (refine fun (y z : V) => ?_)))
section
set_option Elab.async false
set_option linter.all false
set_option maxRecDepth 100000
set_option maxHeartbeats 4000000
open PySem PySem.Spec PyProof.Rows L2

local macro_rules | `(tactic| walk_at "side") => `(tactic| exact .inl (by assumption))
theorem _root_.L2.PE.imp {X : Cx} {e : Expr} {t t' : TE} (h : PE X e t) (k : ∀ σ H Q, t' σ H Q → t σ H Q) : PE X e t' := ⟨fun pins s σ H Q I q => h.run pins s σ H Q I (k σ H Q q)⟩
theorem _root_.L2.PS.imp {X : Cx} {st : Stmt} {t t' : TS} (h : PS X st t) (k : ∀ D σ H, t' D σ H → t D σ H) : PS X st t' := ⟨fun pins s σ H D I q => h.run pins s σ H D I (k D σ H q)⟩
theorem _root_.L2.Room.unitu {k : Nat} {A : Around} (r : Room (k + 1) A) : A.units + 65 < cLine := by have := r.un; omega
theorem passE {X : Cx} {P : Program} {w : World} : Passes (L2.CX P w) X (fun _ _ _ => False) := fun _ _ _ _ _ _ _ h => by
  obtain ⟨_, _, _, _, _, _, _, _, _, _, _, _, z⟩ := h
  exact z.elim
/-- a field, K named: inside a comprehension -/
theorem pe_fldK {X : Cx} {K : PySem.W.Frag} {e : Expr} {f : Str} {pos : Pos} {ta : TE} (hK : X.K = K) (he : PE X e ta) (hb : attributeBase e f X.env (eval e X.env) = eval e X.env) : PE X (.Attribute e f pos) (tFld K ta f) := hK ▸ pe_fld he hb
/-- an error class and its own __init__ -/
structure EF (K : PySem.W.Frag) (mg : Str → Option Value) (N : Str) (B fB : Addr) (fd : FuncData) (ps : List Str) : Prop where
  ox : OexC K B
  iC : PySem.W.findIn K (.ref B) "__init__" = some (some (.ref fB))
  tI : PySem.W.typeIn K (.ref fB) = some (.type "function")
  gB : mg N = some (.ref B)
  bB : Binds K fd ps []
structure Ad where
  aDiff : Addr
  aAlEq : Addr
  aIsSign : Addr
  aPCheckAlphabets : Addr
  aPCheckShared : Addr
  aTInit : Addr
  aTFull : Addr
  aTGet : Addr
  aTIn : Addr
  aTLen : Addr
  aTEq : Addr
  aTMul : Addr
  aTInv : Addr
  aTPairs : Addr
  aGB : Addr
  aGA : Addr
  aFU : Addr
  aEA : Addr
  aBag : Addr
  aTake : Addr
  aNames : Addr
  aSigns : Addr
  aPairs : Addr
  aOuts : Addr
  aProduct : Addr
  aOther : Addr
  aIs : Addr
  aTold : Addr
  aGreatest : Addr
  aFactor : Addr
  aJoin : Addr
  aInside : Addr
  aSingle : Addr
  aFlipped : Addr
  aWhole : Addr
  aTable : Addr
  aSome : Addr
  aSide : Addr
  aMixed : Addr
  aLaw : Addr
  cAlphabet : Addr
  cTable : Addr
  pTFull : Addr
  cTale : Addr
  cMixed : Addr
  cUnk : Addr
  cBadPair : Addr
  eBadPair : Addr
  eUnk : Addr
  tJoint : Tok
structure Fd where
  dDiff : FuncData
  dAlEq : FuncData
  dIsSign : FuncData
  dPCheckAlphabets : FuncData
  dPCheckShared : FuncData
  dTInit : FuncData
  dTFull : FuncData
  dTGet : FuncData
  dTIn : FuncData
  dTLen : FuncData
  dTEq : FuncData
  dTMul : FuncData
  dTInv : FuncData
  dTPairs : FuncData
  dGB : FuncData
  dGA : FuncData
  dFU : FuncData
  dEA : FuncData
  dBag : FuncData
  dTake : FuncData
  dNames : FuncData
  dSigns : FuncData
  dPairs : FuncData
  dOuts : FuncData
  dProduct : FuncData
  dOther : FuncData
  dIs : FuncData
  dTold : FuncData
  dGreatest : FuncData
  dFactor : FuncData
  dJoin : FuncData
  dInside : FuncData
  dSingle : FuncData
  dFlipped : FuncData
  dWhole : FuncData
  dTable : FuncData
  dSome : FuncData
  dSide : FuncData
  dMixed : FuncData
  dLaw : FuncData
  eBadPair : FuncData
  eUnk : FuncData
abbrev sAlEq : Stmt := inClass (top 10) 3
abbrev sIsSign : Stmt := inClass (top 10) 6
abbrev sPCheckAlphabets : Stmt := top 12
abbrev sPCheckShared : Stmt := top 13
abbrev sTInit : Stmt := inClass (top 15) 0
abbrev sTFull : Stmt := inClass (top 15) 2
abbrev sTGet : Stmt := inClass (top 15) 7
abbrev sTIn : Stmt := inClass (top 15) 9
abbrev sTLen : Stmt := inClass (top 15) 10
abbrev sTEq : Stmt := inClass (top 15) 13
abbrev sTMul : Stmt := inClass (top 15) 14
abbrev sTInv : Stmt := inClass (top 15) 17
abbrev sTPairs : Stmt := inClass (top 15) 18
abbrev sGB : Stmt := top 18
abbrev sGA : Stmt := top 19
abbrev sFU : Stmt := top 20
abbrev sEA : Stmt := top 21
abbrev sBag : Stmt := top 23
abbrev sTake : Stmt := top 24
abbrev sNames : Stmt := top 25
abbrev sSigns : Stmt := top 26
abbrev sPairs : Stmt := top 27
abbrev sOuts : Stmt := top 28
abbrev sProduct : Stmt := top 29
abbrev sOther : Stmt := top 30
abbrev sIs : Stmt := top 31
abbrev sTold : Stmt := top 32
abbrev sGreatest : Stmt := top 33
abbrev sFactor : Stmt := top 34
abbrev sJoin : Stmt := top 35
abbrev sInside : Stmt := top 36
abbrev sSingle : Stmt := top 37
abbrev sFlipped : Stmt := top 38
abbrev sWhole : Stmt := top 39
abbrev sTable : Stmt := top 40
abbrev sSome : Stmt := top 41
abbrev sSide : Stmt := top 42
abbrev sMixed : Stmt := top 43
abbrev sLaw : Stmt := top 44
structure Fns (K : PySem.W.Frag) (mg : Str → Option Value) (a : Ad) (d : Fd) : Prop extends TxA K mg a.aDiff where
  FDiff : Fun K "differ_within" "differ_within" sDiff a.aDiff d.dDiff
  bDiff : Binds K d.dDiff ["text", "allowed"] []
  mAlEq : Meth K a.cAlphabet "__eq__" a.aAlEq
  FAlEq : Fun K "__eq__" "Alphabet.__eq__" sAlEq a.aAlEq d.dAlEq
  bAlEq : Binds K d.dAlEq ["self", "other"] []
  mIsSign : Meth K a.cAlphabet "is_sign" a.aIsSign
  FIsSign : Fun K "is_sign" "Alphabet.is_sign" sIsSign a.aIsSign d.dIsSign
  bIsSign : Binds K d.dIsSign ["self", "text"] []
  gPCheckAlphabets : mg "check_alphabets" = some (.ref a.aPCheckAlphabets)
  FPCheckAlphabets : Fun K "check_alphabets" "check_alphabets" sPCheckAlphabets a.aPCheckAlphabets d.dPCheckAlphabets
  bPCheckAlphabets : Binds K d.dPCheckAlphabets ["things"] []
  gPCheckShared : mg "check_shared" = some (.ref a.aPCheckShared)
  FPCheckShared : Fun K "check_shared" "check_shared" sPCheckShared a.aPCheckShared d.dPCheckShared
  bPCheckShared : Binds K d.dPCheckShared ["alphabet", "things"] []
  mTInit : Meth K a.cTable "__init__" a.aTInit
  FTInit : Fun K "__init__" "Table.__init__" sTInit a.aTInit d.dTInit
  bTInit : Binds K d.dTInit ["self", "alphabet", "pairs"] []
  FTFull : Fun K "full" "Table.full" sTFull a.aTFull d.dTFull
  bTFull : Binds K d.dTFull ["cls", "alphabet"] []
  mTGet : Meth K a.cTable "__getitem__" a.aTGet
  FTGet : Fun K "__getitem__" "Table.__getitem__" sTGet a.aTGet d.dTGet
  bTGet : Binds K d.dTGet ["self", "sign"] []
  mTIn : Meth K a.cTable "__contains__" a.aTIn
  FTIn : Fun K "__contains__" "Table.__contains__" sTIn a.aTIn d.dTIn
  bTIn : Binds K d.dTIn ["self", "pair"] []
  mTLen : Meth K a.cTable "__len__" a.aTLen
  FTLen : Fun K "__len__" "Table.__len__" sTLen a.aTLen d.dTLen
  bTLen : Binds K d.dTLen ["self"] []
  mTEq : Meth K a.cTable "__eq__" a.aTEq
  FTEq : Fun K "__eq__" "Table.__eq__" sTEq a.aTEq d.dTEq
  bTEq : Binds K d.dTEq ["self", "other"] []
  mTMul : Meth K a.cTable "__mul__" a.aTMul
  FTMul : Fun K "__mul__" "Table.__mul__" sTMul a.aTMul d.dTMul
  bTMul : Binds K d.dTMul ["self", "other"] []
  mTInv : Meth K a.cTable "__invert__" a.aTInv
  FTInv : Fun K "__invert__" "Table.__invert__" sTInv a.aTInv d.dTInv
  bTInv : Binds K d.dTInv ["self"] []
  mTPairs : Meth K a.cTable "pairs" a.aTPairs
  FTPairs : Fun K "pairs" "Table.pairs" sTPairs a.aTPairs d.dTPairs
  bTPairs : Binds K d.dTPairs ["self"] []
  gGB : mg "greatest_behind" = some (.ref a.aGB)
  FGB : Fun K "greatest_behind" "greatest_behind" sGB a.aGB d.dGB
  bGB : Binds K d.dGB ["first", "whole"] []
  gGA : mg "greatest_ahead" = some (.ref a.aGA)
  FGA : Fun K "greatest_ahead" "greatest_ahead" sGA a.aGA d.dGA
  bGA : Binds K d.dGA ["last", "whole"] []
  gFU : mg "further" = some (.ref a.aFU)
  FFU : Fun K "further" "further" sFU a.aFU d.dFU
  bFU : Binds K d.dFU ["first", "whole"] []
  gEA : mg "earlier" = some (.ref a.aEA)
  FEA : Fun K "earlier" "earlier" sEA a.aEA d.dEA
  bEA : Binds K d.dEA ["last", "whole"] []
  gBag : mg "_law_bag" = some (.ref a.aBag)
  FBag : Fun K "_law_bag" "_law_bag" sBag a.aBag d.dBag
  bBag : Binds K d.dBag ["_law_script"] []
  gTake : mg "_law_take" = some (.ref a.aTake)
  FTake : Fun K "_law_take" "_law_take" sTake a.aTake d.dTake
  bTake : Binds K d.dTake ["_law_bag_here", "_law_size"] []
  gNames : mg "_law_names" = some (.ref a.aNames)
  FNames : Fun K "_law_names" "_law_names" sNames a.aNames d.dNames
  bNames : Binds K d.dNames ["_law_bag_here", "_law_count"] []
  gSigns : mg "_law_signs" = some (.ref a.aSigns)
  FSigns : Fun K "_law_signs" "_law_signs" sSigns a.aSigns d.dSigns
  bSigns : Binds K d.dSigns ["_law_letters"] []
  gPairs : mg "_law_pairs" = some (.ref a.aPairs)
  FPairs : Fun K "_law_pairs" "_law_pairs" sPairs a.aPairs d.dPairs
  bPairs : Binds K d.dPairs ["_law_bag_here", "_law_signs_here", "_law_count"] []
  gOuts : mg "_law_outs" = some (.ref a.aOuts)
  FOuts : Fun K "_law_outs" "_law_outs" sOuts a.aOuts d.dOuts
  bOuts : Binds K d.dOuts ["_law_signs_here", "_law_pairs_here"] []
  gProduct : mg "_law_product" = some (.ref a.aProduct)
  FProduct : Fun K "_law_product" "_law_product" sProduct a.aProduct d.dProduct
  bProduct : Binds K d.dProduct ["_law_signs_here", "_law_one", "_law_other_here"] []
  gOther : mg "_law_other" = some (.ref a.aOther)
  FOther : Fun K "_law_other" "_law_other" sOther a.aOther d.dOther
  bOther : Binds K d.dOther ["_law_bag_here", "_law_names_here"] []
  gIs : mg "_law_is" = some (.ref a.aIs)
  FIs : Fun K "_law_is" "_law_is" sIs a.aIs d.dIs
  bIs : Binds K d.dIs ["_law_table_here", "_law_alphabet", "_law_signs_here", "_law_outs_here"] []
  gTold : mg "_law_told" = some (.ref a.aTold)
  FTold : Fun K "_law_told" "_law_told" sTold a.aTold d.dTold
  bTold : Binds K d.dTold ["_law_table_here", "_law_alphabet", "_law_signs_here"] []
  gGreatest : mg "_law_greatest" = some (.ref a.aGreatest)
  FGreatest : Fun K "_law_greatest" "_law_greatest" sGreatest a.aGreatest d.dGreatest
  bGreatest : Binds K d.dGreatest ["_law_fixed", "_law_whole_here", "_law_side_here"] []
  gFactor : mg "_law_factor" = some (.ref a.aFactor)
  FFactor : Fun K "_law_factor" "_law_factor" sFactor a.aFactor d.dFactor
  bFactor : Binds K d.dFactor ["_law_fixed", "_law_whole_here", "_law_side_here"] []
  gJoin : mg "_law_join" = some (.ref a.aJoin)
  FJoin : Fun K "_law_join" "_law_join" sJoin a.aJoin d.dJoin
  bJoin : Binds K d.dJoin ["_law_signs_here", "_law_fixed", "_law_outs_here", "_law_side_here"] []
  gInside : mg "_law_inside" = some (.ref a.aInside)
  FInside : Fun K "_law_inside" "_law_inside" sInside a.aInside d.dInside
  bInside : Binds K d.dInside ["_law_one", "_law_other_here"] []
  gSingle : mg "_law_single" = some (.ref a.aSingle)
  FSingle : Fun K "_law_single" "_law_single" sSingle a.aSingle d.dSingle
  bSingle : Binds K d.dSingle ["_law_signs_here", "_law_told_here", "_law_out"] []
  gFlipped : mg "_law_flipped" = some (.ref a.aFlipped)
  FFlipped : Fun K "_law_flipped" "_law_flipped" sFlipped a.aFlipped d.dFlipped
  bFlipped : Binds K d.dFlipped ["_law_signs_here", "_law_outs_here", "_law_told_here", "_law_out"] []
  gWhole : mg "_law_whole" = some (.ref a.aWhole)
  FWhole : Fun K "_law_whole" "_law_whole" sWhole a.aWhole d.dWhole
  bWhole : Binds K d.dWhole ["_law_bag_here", "_law_signs_here", "_law_fixed", "_law_outs_here", "_law_way", "_law_side_here"] []
  gTable : mg "_law_table" = some (.ref a.aTable)
  FTable : Fun K "_law_table" "_law_table" sTable a.aTable d.dTable
  bTable : Binds K d.dTable ["_law_alphabet", "_law_signs_here", "_law_outs_here"] []
  gSome : mg "_law_some" = some (.ref a.aSome)
  FSome : Fun K "_law_some" "_law_some" sSome a.aSome d.dSome
  bSome : Binds K d.dSome ["_law_signs_here", "_law_fixed", "_law_whole_here", "_law_side_here"] []
  gSide : mg "_law_side" = some (.ref a.aSide)
  FSide : Fun K "_law_side" "_law_side" sSide a.aSide d.dSide
  bSide : Binds K d.dSide ["_law_alphabet", "_law_signs_here", "_law_fixed", "_law_whole_here", "_law_side_here", "_law_sure"] []
  gMixed : mg "_law_mixed" = some (.ref a.aMixed)
  FMixed : Fun K "_law_mixed" "_law_mixed" sMixed a.aMixed d.dMixed
  bMixed : Binds K d.dMixed ["_law_one", "_law_other_here", "_law_side_here", "_law_factor_here"] []
  gLaw : mg "law" = some (.ref a.aLaw)
  FLaw : Fun K "law" "law" sLaw a.aLaw d.dLaw
  bLaw : Binds K d.dLaw ["_law_script"] []
  gcTaleError : mg "TaleError" = some (.ref a.cTale)
  gcMixed : mg "Mixed" = some (.ref a.cMixed)
  gcUnknownSign : mg "UnknownSign" = some (.ref a.cUnk)
  gcTable : mg "Table" = some (.ref a.cTable)
  xBadPair : EF K mg "BadPair" a.cBadPair a.eBadPair d.eBadPair ["self", "index"]
  xUnknownSign : EF K mg "UnknownSign" a.cUnk a.eUnk d.eUnk ["self", "sign"]
  clA : Cls K a.cAlphabet
  clT : Cls K a.cTable
  nL : NoAttr K a.cAlphabet "letters"
  nV : NoAttr K a.cAlphabet "vowels"
  nC : NoAttr K a.cAlphabet "consonants"
  nS : NoAttr K a.cAlphabet "signs"
  nTa : NoAttr K a.cTable "alphabet"
  nTp : NoAttr K a.cTable "_pairs"
  crT : ClX.CRead K a.cTable (.type "type")
  cTFull : ClX.CMet K a.cTable (.type "type") "full" a.pTFull a.aTFull
  mkT : PySem.W.makesIn K a.cTable = true
  kpT : PySem.W.keepIn K (.ref a.cTable) = true
  xMixed : PySem.W.excIn K a.cMixed [.type "ValueError", .type "Exception", .type "BaseException", .type "object"] "ValueError.__new__" = true
  kMixed : PySem.W.keepIn K (.ref a.cMixed) = true
  eMixed : PySem.W.subIn K (.ref a.cMixed) (.type "BaseException") = some true
  tMixed : PySem.W.typeIn K (.ref a.cMixed) = some (.type "type")
  sfT : PySem.W.selfFirst K a.cTable = true
  fnTGet : PySem.W.fnIn K a.aTGet = true
  neA : PySem.W.findIn K (.ref a.cAlphabet) "__ne__" = some (some (.builtin "object.__ne__"))
  moA : PySem.W.mroIn K a.cAlphabet (.type "object") = some true
  eqA : PySem.W.notFirst K a.cAlphabet (.ref a.cAlphabet) = true
  eqT : PySem.W.notFirst K a.cTable (.ref a.cTable) = true
  icT : PySem.W.findIn K (.ref a.cTable) "__class__" = some (some (.builtin "object.__class__"))
  imT : PySem.W.mroIn K a.cTable (.type "object") = some true
  igO : PySem.W.specialIn K (.builtin "object.__class__") "__get__" = some (some (.builtin "getset_descriptor.__get__"))
  itO : PySem.W.takesIn K (.builtin "object.__class__") = some true
  joint : Con K a.cAlphabet "JOINT" (.str (S [45])) (.str "-" a.tJoint)
def kStrE1_0 : List Nat := [97, 98, 99, 100, 101, 102, 103, 104, 105, 106, 107, 108, 109, 110, 111, 112, 113, 114, 115, 116, 117, 118, 119, 120, 121, 122]
theorem kStrE1_0_eq : PySem.Str.ofString "abcdefghijklmnopqrstuvwxyz" = S kStrE1_0 := by decide +kernel
/-- the bag of draws -/
def BagB (H : Hp) (b g u : Addr) : Prop := ∃ (gl sl : List Int) (n r : Int), H b = some (.lst [.ref g, .ref u, .int n, .int r]) ∧ H g = some (.lst (gl.map V.int)) ∧ H u = some (.lst (sl.map V.int)) ∧ b ≠ g ∧ b ≠ u ∧ g ≠ u ∧ gl.length ≤ 63 ∧ sl.length ≤ 63
theorem BagB.fr {H H' : Hp} {b g u : Addr} {L : List Addr} (h : BagB H b g u) (f : Fr L H H') (h1 : b ∉ L) (h2 : g ∉ L) (h3 : u ∉ L) : BagB H' b g u := by
  obtain ⟨gl, sl, n, r, e1, e2, e3, z⟩ := h
  exact ⟨gl, sl, n, r, f _ _ h1 e1, f _ _ h2 e2, f _ _ h3 e3, z⟩
theorem BagB.same {H H' : Hp} {b g u : Addr} (h : BagB H b g u) (f : Same H H') : BagB H' b g u := h.fr (L := []) (Fr.of_same f) (by simp) (by simp) (by simp)
theorem BagB.ne {H : Hp} {b g u p : Addr} (h : BagB H b g u) (hp : H p = none) : p ≠ b ∧ p ≠ g ∧ p ≠ u := by
  obtain ⟨gl, sl, n, r, e1, e2, e3, z⟩ := h
  exact ⟨(ne_of_none e1 hp).symm, (ne_of_none e2 hp).symm, (ne_of_none e3 hp).symm⟩
theorem BagB.laid {H : Hp} {b g u p : Addr} {o : HO} (h : BagB H b g u) (hp : H p = none) : BagB (upd H p o) b g u := h.same (Same.upd_new hp)
theorem BagB.upd {H : Hp} {b g u p : Addr} {o : HO} (h : BagB H b g u) (h1 : p ≠ b) (h2 : p ≠ g) (h3 : p ≠ u) : BagB (L2.upd H p o) b g u := h.fr (L := [p]) Fr.in0 (by simpa using h1.symm) (by simpa using h2.symm) (by simpa using h3.symm)
theorem ix0 {n : Nat} : ixN (n + 1) 0 = some 0 := by
  unfold ixN
  rw [if_pos (Int.le_refl 0), if_pos (by omega)]
  rfl
theorem iPopAt {l : Addr} {xs : List V} {r : Nat} {y : V} {H : Hp} {Q : VK} (hH : H l = some (.lst xs)) (hy : xs[r]? = some y) (hz : xs.length ≤ 1000) (h : Q y (L2.upd H l (.lst (xs.eraseIdx r)))) : rPopAt (.ref l) [.int (r : Int)] H Q := by
  have hr : r < xs.length := (List.getElem?_eq_some_iff.mp hy).1
  refine ⟨l, xs, r, r, y, rfl, rfl, hH, by omega, by omega, ?_, hy, h⟩
  unfold seqIndex?
  simp
  omega
section
variable {P : Program} {w : World} {K : PySem.W.Frag} {mg : Str → Option Value} {base : Heap} {a : Ad} {d : Fd}
def spTake : Sp := fun vs H Q _ => ∃ (b g u : Addr) (n : Nat), vs = [.ref b, .int (n : Int)] ∧ BagB H b g u ∧ 0 < n ∧ n < 2 ^ 29 ∧ ∀ (r : Nat) (H' : Hp), r < n → BagB H' b g u → Fr [b, g] H H' → Q (.int (r : Int)) H'
theorem scTake : FnScope ["_law_bag_here", "_law_size", "_law_left", "_law_cell"] ["_law_bag_here", "_law_size"] (defScope sTake) := ⟨rfl, rfl, rfl, by decide +kernel, rfl, by decide +kernel, by decide +kernel⟩
theorem ok_take (T : Fns K mg a d) : FnOk P w K mg base CX0 1 a.aTake d.dTake ["_law_bag_here", "_law_size"] spTake := by
  refine T.FTake.ok scTake (fun vs H Q E h => ?_) (fun cdv A outer s H vs Q E hr h => ?_)
  · obtain ⟨b, g, u, n, rfl, _⟩ := h
    rfl
  · obtain ⟨b, g, u, n, rfl, ⟨gl, sl, m, r, hb, hg, hs, n1, n2, n3, l1, l2⟩, hn, hn2, k⟩ := h
    have fin : ∀ (z : Int) (H' : Hp), BagB H' b g u → Fr [b, g] H H' → Q (.int (z % (n : Int))) H' := fun z H' h1 h2 => by
      have e0 := Int.emod_nonneg z (b := (n : Int)) (by omega)
      have e1 := Int.emod_lt_of_pos z (b := (n : Int)) (by omega)
      obtain ⟨r, hr⟩ : ∃ r : Nat, z % (n : Int) = (r : Int) := ⟨(z % (n : Int)).toNat, by omega⟩
      rw [hr]
      exact k r H' (by omega) h1 h2
    clear k
    refine ⟨_, ((pss_cons (ps_asg (pe_op op_add (pe_ix (r := rIxL K) ix_list (pv 0) pe_int (fun _ _ => rfl)) pe_int) (pg_sub (pv 0) pe_int set_list))
      (pss_cons (ps_if (pt_cmpR op_gt (pe_callB call_len_seq (by rfl) T.z_len (by decide +kernel) (pa_cons (pe_ix (r := rIxL K) ix_list (pv 0) pe_int (fun _ _ => rfl)) pa_nil)) pe_int (nomark _)) (pss_cons (ps_set (i := 2) scTake.nd rfl (Or.inl rfl) (pe_callTy call_int1 (by rfl) T.z_int (by decide +kernel) (pa_cons (pe_ix (r := rIxL K) ix_list (pe_ix (r := rIxL K) ix_list (pv 0) pe_int (fun _ _ => rfl)) pe_int (fun _ _ => rfl)) pa_nil)))
      (pss_cons (ps_asg (pe_op op_fdivN (pv 2) (pv 1)) (pg_sub (pe_ix (r := rIxL K) ix_list (pv 0) pe_int (fun _ _ => rfl)) pe_int set_list))
      (pss_cons (ps_if (pt_cmpR op_eq (pe_op op_fdivN (pv 2) (pv 1)) pe_int (nomark _)) (pss_one (ps_expr (pe_bm PySem.F.plainAttrs_list PySem.F.slot_list_pop PySem.F.type_list_pop mt_popAt (pe_ix (r := rIxL K) ix_list (pv 0) pe_int (fun _ _ => rfl)) (pa_cons pe_int pa_nil)))) pss_nil)
      (pss_one (ps_ret (pe_op op_mod (pe_callTy call_int1 (by rfl) T.z_int (by decide +kernel) (pa_cons (pv 2) pa_nil)) (pv 1))))))) pss_nil)
      (pss_cons (ps_if (pt_cmpR op_eq (pe_callB call_len_seq (by rfl) T.z_len (by decide +kernel) (pa_cons (pe_ix (r := rIxL K) ix_list (pv 0) pe_int (fun _ _ => rfl)) pa_nil)) pe_int (nomark _)) (pss_one (ps_ret (pe_op op_mod (pe_callTy call_int1 (by rfl) T.z_int (by decide +kernel) (pa_cons (pe_ix (r := rIxL K) ix_list (pv 0) pe_int (fun _ _ => rfl)) pa_nil)) (pv 1)))) pss_nil)
      (pss_cons (ps_set (i := 3) scTake.nd rfl (Or.inl rfl) (pe_ix (r := rIxL K) ix_list (pe_ix (r := rIxL K) ix_list (pv 0) pe_int (fun _ _ => rfl)) (pe_op op_mod (pe_callTy call_int1 (by rfl) T.z_int (by decide +kernel) (pa_cons (pe_ix (r := rIxL K) ix_list (pv 0) pe_int (fun _ _ => rfl)) pa_nil)) (pe_callB call_len_seq (by rfl) T.z_len (by decide +kernel) (pa_cons (pe_ix (r := rIxL K) ix_list (pv 0) pe_int (fun _ _ => rfl)) pa_nil))) (fun _ _ => rfl)))
      (pss_cons (ps_asg (pe_op op_mod (pe_callTy call_int1 (by rfl) T.z_int (by decide +kernel) (pa_cons (pe_op op_add (pe_op op_add (pe_op op_mul (pe_callTy call_int1 (by rfl) T.z_int (by decide +kernel) (pa_cons (pe_ix (r := rIxL K) ix_list (pv 0) pe_int (fun _ _ => rfl)) pa_nil)) pe_int) (pv 3)) (pe_ix (r := rIxL K) ix_list (pv 0) pe_int (fun _ _ => rfl))) pa_nil)) pe_int) (pg_sub (pv 0) pe_int set_list))
      (pss_one (ps_ret (pe_op op_mod (pe_op op_fdiv (pe_op op_mod (pe_callTy call_int1 (by rfl) T.z_int (by decide +kernel) (pa_cons (pe_op op_add (pe_op op_mul (pe_callTy call_int1 (by rfl) T.z_int (by decide +kernel) (pa_cons (pe_ix (r := rIxL K) ix_list (pv 0) pe_int (fun _ _ => rfl)) pa_nil)) pe_int) (pe_op op_mul (pe_ix (r := rIxL K) ix_list (pv 0) pe_int (fun _ _ => rfl)) pe_int)) pa_nil)) pe_int) pe_int) (pv 1)))))))))), ?_⟩
    walk_at "go"
    · rename_i h
      rcases gl with _ | ⟨z, gl⟩
      · simp at h
      have hg1 : (upd H b (.lst [.ref g, .ref u, .int (m + 1), .int r])) g = some (.lst (.int z :: gl.map V.int)) := upd_oth n1.symm hg
      have hb1 : (upd H b (.lst [.ref g, .ref u, .int (m + 1), .int r])) b = some (.lst [.ref g, .ref u, .int (m + 1), .int r]) := upd_same
      have hu : (upd H b (.lst [.ref g, .ref u, .int (m + 1), .int r])) u = some (.lst (sl.map V.int)) := upd_oth n2.symm hs
      have f1 : Fr [b, g] H (upd H b (.lst [.ref g, .ref u, .int (m + 1), .int r])) := Fr.in0
      generalize upd H b (.lst [.ref g, .ref u, .int (m + 1), .int r]) = H1 at hg1 hb1 hu f1 ⊢
      refine iIxL (SqL.of hg1) (atI_nat (j := 0) rfl) ?_
      walk_at "go"
      refine iSetL (j := 0) (ys := .int (z.fdiv n) :: gl.map V.int) hg1 ix0 rfl ?_
      have hg2 : (upd H1 g (.lst (.int (z.fdiv n) :: gl.map V.int))) g = some (.lst (.int (z.fdiv n) :: gl.map V.int)) := upd_same
      have hb2 : (upd H1 g (.lst (.int (z.fdiv n) :: gl.map V.int))) b = some (.lst [.ref g, .ref u, .int (m + 1), .int r]) := upd_oth n1 hb1
      have hs2 : (upd H1 g (.lst (.int (z.fdiv n) :: gl.map V.int))) u = some (.lst (sl.map V.int)) := upd_oth n3.symm hu
      have f2 : Fr [b, g] H (upd H1 g (.lst (.int (z.fdiv n) :: gl.map V.int))) := Fr.trans f1 Fr.in1
      show _
      generalize upd H1 g (.lst (.int (z.fdiv n) :: gl.map V.int)) = H2 at hg2 hb2 hs2 f2 ⊢
      rw [List.length_cons] at l1
      walk_at "go"
      · refine iPopAt (r := 0) hg2 rfl (by rw [List.length_cons, List.length_map]; omega) ?_
        walk_at "go"
        exact fin _ _ ⟨gl, sl, _, _, upd_oth n1 hb2, upd_same, upd_oth n3.symm hs2, n1, n2, n3, by omega, l2⟩ (Fr.trans f2 Fr.in1)
      · exact fin _ _ ⟨z.fdiv n :: gl, sl, _, _, hb2, hg2, hs2, n1, n2, n3, by rw [List.length_cons]; omega, l2⟩ f2
    · exact fin _ _ ⟨gl, sl, _, _, upd_same, upd_oth n1.symm hg, upd_oth n2.symm hs, n1, n2, n3, l1, l2⟩ Fr.in0
    · rename_i h1 h2
      rw [List.length_map] at h2 ⊢
      have hlt : 0 < sl.length := by omega
      have hm := Int.emod_nonneg (m + 1) (b := (sl.length : Int)) (by omega)
      have hm2 := Int.emod_lt_of_pos (m + 1) (b := (sl.length : Int)) (by omega)
      obtain ⟨j, hj⟩ : ∃ j : Nat, (m + 1) % (sl.length : Int) = (j : Int) := ⟨((m + 1) % (sl.length : Int)).toNat, by omega⟩
      rw [hj]
      have hjl : j < sl.length := by omega
      refine iIxL (SqL.of (upd_oth n2.symm hs)) (v := .int sl[j]) (atI_nat (by rw [List.getElem?_map, List.getElem?_eq_getElem hjl]; rfl)) ?_
      walk_at "go"
      exact fin _ _ ⟨gl, sl, _, _, upd_same, upd_oth n1.symm (upd_oth n1.symm hg), upd_oth n2.symm (upd_oth n2.symm hs), n1, n2, n3, l1, l2⟩ (Fr.trans Fr.in0 Fr.in0)
/-- a list of pairs of signs -/
structure PrAt (H : Hp) (p : Addr) (qs : List (Addr × Nat × Nat)) : Prop where
  l : H p = some (.lst (qs.map fun q => V.ref q.1))
  t : ∀ q ∈ qs, H q.1 = some (.tup [.str (S [q.2.1]), .str (S [q.2.2])])
theorem PrAt.same {H H' : Hp} {p : Addr} {qs : List (Addr × Nat × Nat)} (h : PrAt H p qs) (s : Same H H') : PrAt H' p qs := ⟨s _ _ h.l, fun q hq => s _ _ (h.t q hq)⟩
theorem PrAt.fr {H H' : Hp} {p : Addr} {qs : List (Addr × Nat × Nat)} {L : List Addr} (h : PrAt H p qs) (f : Fr L H H') (hp : p ∉ L) (hq : ∀ q ∈ qs, q.1 ∉ L) : PrAt H' p qs := ⟨f _ _ hp h.l, fun q hm => f _ _ (hq q hm) (h.t q hm)⟩
structure AlOk (l v : List Nat) : Prop where
  dl : Differ l azL
  h1 : 1 ≤ l.length
  h4 : l.length ≤ 4
  vn : v.Nodup
  vl : ∀ c ∈ v, c ∈ l
theorem cut_perm {q : List Nat} {r c : Nat} (h : q[r]? = some c) : (c :: (q.take r ++ q.drop (r + 1))).Perm q := by
  have hr : r < q.length := (List.getElem?_eq_some_iff.mp h).1
  have hc : q[r] = c := (List.getElem?_eq_some_iff.mp h).2
  have e : q.take r ++ c :: q.drop (r + 1) = q := by
    rw [← hc, ← List.drop_eq_getElem_cons hr, List.take_append_drop]
  exact List.perm_middle.symm.trans (List.Perm.of_eq e)
def spNames : Sp := fun vs H Q _ => ∃ (b g u : Addr) (n : Nat), vs = [.ref b, .int (n : Int)] ∧ BagB H b g u ∧ 1 ≤ n ∧ n ≤ 4 ∧ ∀ (p : Addr) (l v : List Nat) (H' : Hp), H p = none → p ≠ b → p ≠ g → p ≠ u → H' p = some (.lst [.str (S l), .str (S v)]) → AlOk l v → l.length = n → BagB H' b g u → Fr [b, g] H H' → Q (.ref p) H'
theorem scNames : FnScope ["_law_bag_here", "_law_count", "_law_rest", "_law_letters", "_law_vowels", "_law_k", "_law_at"] ["_law_bag_here", "_law_count"] (defScope sNames) := ⟨rfl, rfl, rfl, by decide +kernel, rfl, by decide +kernel, by decide +kernel⟩
theorem ok_names (T : Fns K mg a d) : FnOk P w K mg base CX0 2 a.aNames d.dNames ["_law_bag_here", "_law_count"] spNames := by
  have GTake : FnOk P w K mg base CX0 1 a.aTake d.dTake ["_law_bag_here", "_law_size"] spTake := ok_take T
  refine T.FNames.ok scNames (fun vs H Q E h => ?_) (fun cdv A outer s H vs Q E hr h => ?_)
  · obtain ⟨b, g, u, n, rfl, _⟩ := h
    rfl
  · obtain ⟨b, g, u, n, rfl, hB, hn1, hn4, k⟩ := h
    refine ⟨_, ((pss_cons (ps_set (i := 2) scNames.nd rfl (Or.inl rfl) (pe_strS (l := kStrE1_0) kStrE1_0_eq))
      (pss_cons (ps_set (i := 3) scNames.nd rfl (Or.inl rfl) (pe_strS (l := []) (by decide +kernel)))
      (pss_cons (ps_set (i := 4) scNames.nd rfl (Or.inl rfl) (pe_strS (l := []) (by decide +kernel)))
      (pss_cons (ps_for PassesOwn.never rfl (pi_range1 (by rfl) T.z_range (pa_cons (pv 1) pa_nil)) (pg_name (i := 5) scNames.nd rfl (Or.inl rfl)) (pss_cons (ps_set (i := 6) scNames.nd rfl (Or.inl rfl) (pe_call GTake (hr.mono (by decide)) (by rfl) T.gTake T.FTake.kp T.bTake .nil pass0 (pa_cons (pv 0) (pa_cons (pe_callB call_lenS (by rfl) T.z_len (by decide +kernel) (pa_cons (pv 2) pa_nil)) pa_nil))))
      (pss_cons (ps_set (i := 3) scNames.nd rfl (Or.inl rfl) (pe_op op_addS (pv 3) (pe_ix ix_str (pv 2) (pv 6) (fun _ _ => rfl))))
      (pss_cons (ps_if (pt_cmpR op_eq (pe_call GTake (hr.mono (by decide)) (by rfl) T.gTake T.FTake.kp T.bTake .nil pass0 (pa_cons (pv 0) (pa_cons pe_int pa_nil))) pe_int (nomark _)) (pss_one (ps_set (i := 4) scNames.nd rfl (Or.inl rfl) (pe_op op_addS (pe_ix ix_str (pv 2) (pv 6) (fun _ _ => rfl)) (pv 4)))) pss_nil)
      (pss_one (ps_set (i := 2) scNames.nd rfl (Or.inl rfl) (pe_op op_addS (pe_slice sl_str (pv 2) po_none (po_some (pv 6))) (pe_slice sl_str (pv 2) (po_some (pe_op op_add (pv 6) pe_int)) po_none))))))))
      (pss_one (ps_ret (pe_lst (pa_cons (pv 3) (pa_cons (pv 4) pa_nil)))))))))), ?_⟩
    rw [show kStrE1_0 = azL from by decide +kernel]
    walk_at "go"
    refine for_R (fun i σ H' => Stop (∃ (rs l v : List Nat) (v5 v6 : Option V), σ = [some (.ref b), some (.int (n : Int)), some (.str (S rs)), some (.str (S l)), some (.str (S v)), v5, v6] ∧ l.length = i ∧ (l ++ rs).Perm azL ∧ v.Nodup ∧ (∀ c ∈ v, c ∈ l) ∧ BagB H' b g u ∧ Fr [b, g] H H'))
      ⟨azL, [], [], none, none, rfl, rfl, List.Perm.refl _, List.nodup_nil, (fun c hc => nomatch hc), hB, Fr.refl _ _⟩ ?_ ?_
    · rintro i σ H1 hi ⟨rs, l, v, v5, v6, rfl, hl, hper, hvn, hvl, hB1, f1⟩
      have hlen : l.length + rs.length = 26 := by rw [← az_len, ← hper.length_eq, List.length_append]
      have hvs := len_of_sub hvn hvl
      walk_at "go"
      refine ⟨b, g, u, rs.length, rfl, hB1, by omega, by omega, fun r H2 hr2 hB2 f2 => ?_⟩
      have hc : rs[r]? = some rs[r] := List.getElem?_eq_getElem hr2
      have hcm := List.getElem_mem hr2
      generalize rs[r] = c at hc hcm
      have hper2 : (l ++ [c] ++ (rs.take r ++ rs.drop (r + 1))).Perm azL := by
        rw [List.append_assoc]
        exact ((cut_perm hc).append_left l).trans hper
      have hcl : c ∉ l := fun m => (List.nodup_append.mp (hper.nodup_iff.mpr az_nodup)).2.2 c m c hcm rfl
      have f3 := Fr.trans f1 f2
      walk_at "go"
      refine ⟨b, g, u, 2, rfl, hB2, by decide, by decide, fun r2 H3 hr3 hB3 f4 => ?_⟩
      walk_at "go"
      · exact ⟨_, l ++ [c], [c] ++ v, _, _, rfl, by simp [hl], hper2, List.nodup_cons.mpr ⟨fun m => hcl (hvl c m), hvn⟩, (fun x hx => by
          rcases List.mem_cons.mp hx with e | e
          · rw [e]; exact List.mem_append_right _ (List.mem_singleton.mpr rfl)
          · exact List.mem_append_left _ (hvl x e)), hB3, Fr.trans f3 f4⟩
      · exact ⟨_, l ++ [c], v, _, _, rfl, by simp [hl], hper2, hvn, (fun x hx => List.mem_append_left _ (hvl x hx)), hB3, Fr.trans f3 f4⟩
    · rintro σ H1 ⟨rs, l, v, v5, v6, rfl, hl, hper, hvn, hvl, hB1, f1⟩
      walk_at "go"
      rename_i p hp
      have hnd := List.nodup_append.mp (hper.nodup_iff.mpr az_nodup)
      have np := hB1.ne hp
      exact k p l v _ (f1.none (by simp [np.1, np.2.1]) hp) np.1 np.2.1 np.2.2 upd_same ⟨⟨hnd.1, fun c hc => hper.mem_iff.mp (List.mem_append_left _ hc)⟩, by omega, by omega, hvn, hvl⟩ (by omega) (hB1.laid hp) (Fr.trans f1 (Fr.upd_new hp))
def spPairs : Sp := fun vs H Q _ => ∃ (b g u : Addr) (sg : List Nat) (n : Nat), vs = [.ref b, .str (S sg), .int (n : Int)] ∧ BagB H b g u ∧ 0 < sg.length ∧ sg.length ≤ 6 ∧ n ≤ 100 ∧
  ∀ (p : Addr) (qs : List (Addr × Nat × Nat)) (H' : Hp), H p = none → PrAt H' p qs → qs.length = n → (∀ q ∈ qs, q.2.1 ∈ sg ∧ q.2.2 ∈ sg) → p ≠ b → p ≠ g → p ≠ u → (∀ q ∈ qs, H q.1 = none) → BagB H' b g u → Fr [b, g] H H' → Q (.ref p) H'
theorem scPairs : FnScope ["_law_bag_here", "_law_signs_here", "_law_count", "_law_pairs_here", "_law_k", "_law_told_here"] ["_law_bag_here", "_law_signs_here", "_law_count"] (defScope sPairs) := ⟨rfl, rfl, rfl, by decide +kernel, rfl, by decide +kernel, by decide +kernel⟩
theorem ok_pairs (T : Fns K mg a d) : FnOk P w K mg base CX0 2 a.aPairs d.dPairs ["_law_bag_here", "_law_signs_here", "_law_count"] spPairs := by
  have GTake : FnOk P w K mg base CX0 1 a.aTake d.dTake ["_law_bag_here", "_law_size"] spTake := ok_take T
  refine T.FPairs.ok scPairs (fun vs H Q E h => ?_) (fun cdv A outer s H vs Q E hr h => ?_)
  · obtain ⟨b, g, u, sg, n, rfl, _⟩ := h
    rfl
  · obtain ⟨b, g, u, sg, n, rfl, hB, hs0, hu, hn, k⟩ := h
    refine ⟨_, ((pss_cons (ps_set (i := 3) scPairs.nd rfl (Or.inl rfl) (pe_lst pa_nil))
      (pss_cons (ps_for PassesOwn.never rfl (pi_range1 (by rfl) T.z_range (pa_cons (pv 2) pa_nil)) (pg_name (i := 4) scPairs.nd rfl (Or.inl rfl)) (pss_cons (ps_set (i := 5) scPairs.nd rfl (Or.inl rfl) (pe_ix ix_str (pv 1) (pe_call GTake (hr.mono (by decide)) (by rfl) T.gTake T.FTake.kp T.bTake .nil pass0 (pa_cons (pv 0) (pa_cons (pe_callB call_lenS (by rfl) T.z_len (by decide +kernel) (pa_cons (pv 1) pa_nil)) pa_nil))) (fun _ _ => rfl)))
      (pss_one (ps_expr (pe_bm PySem.F.plainAttrs_list PySem.F.slot_list_append PySem.F.type_list_append mt_append (pv 3) (pa_cons (pe_tup (pa_cons (pv 5) (pa_cons (pe_ix ix_str (pv 1) (pe_call GTake (hr.mono (by decide)) (by rfl) T.gTake T.FTake.kp T.bTake .nil pass0 (pa_cons (pv 0) (pa_cons (pe_callB call_lenS (by rfl) T.z_len (by decide +kernel) (pa_cons (pv 1) pa_nil)) pa_nil))) (fun _ _ => rfl)) pa_nil))) pa_nil))))))
      (pss_one (ps_ret (pv 3)))))), ?_⟩
    walk_at "go"
    rename_i p hp
    obtain ⟨pb, pg, pu⟩ := hB.ne hp
    refine for_R (fun i σ H' => Stop (∃ (qs : List (Addr × Nat × Nat)) (v4 v5 : Option V), σ = [some (.ref b), some (.str (S sg)), some (.int (n : Int)), some (.ref p), v4, v5] ∧ qs.length = i ∧ PrAt H' p qs ∧ (∀ q ∈ qs, q.2.1 ∈ sg ∧ q.2.2 ∈ sg) ∧ (∀ q ∈ qs, H q.1 = none ∧ q.1 ≠ p ∧ q.1 ≠ b ∧ q.1 ≠ g) ∧ BagB H' b g u ∧ Fr [b, g, p] H H'))
      ⟨[], none, none, rfl, rfl, ⟨upd_same, (fun q hq => nomatch hq)⟩, (fun q hq => nomatch hq), (fun q hq => nomatch hq), hB.laid hp, Fr.upd_new hp⟩ ?_ ?_
    · rintro i σ H1 hi ⟨qs, v4, v5, rfl, hl, hpr, hsg, hno, hB1, f1⟩
      have w2 : ∀ {A B : Hp}, Fr [b, g] A B → Fr [b, g, p] A B := fun f => f.mono fun x hx => by
        rcases List.mem_cons.mp hx with e | e
        · simp [e]
        · simp [List.mem_singleton.mp e]
      walk_at "go"
      refine ⟨b, g, u, sg.length, rfl, hB1, by omega, by omega, fun r H2 hr2 hB2 f2 => ?_⟩
      have hc : sg[r]? = some sg[r] := List.getElem?_eq_getElem hr2
      have hcm := List.getElem_mem hr2
      generalize sg[r] = c at hc hcm
      have hpr2 := hpr.fr f2 (by simp [pb, pg]) (fun q hq => by simp [(hno q hq).2.2.1, (hno q hq).2.2.2])
      have hpl := hpr2.l
      walk_at "go"
      refine ⟨b, g, u, sg.length, rfl, hB2, by omega, by omega, fun r2 H3 hr3 hB3 f3 => ?_⟩
      have hd : sg[r2]? = some sg[r2] := List.getElem?_eq_getElem hr3
      have hdm := List.getElem_mem hr3
      generalize sg[r2] = d2 at hd hdm
      have hpr3 := hpr2.fr f3 (by simp [pb, pg]) (fun q hq => by simp [(hno q hq).2.2.1, (hno q hq).2.2.2])
      walk_at "go"
      rename_i t ht
      have f4 := Fr.trans f1 (w2 (Fr.trans f2 f3))
      have tb := hB3.ne ht
      have tp : t ≠ p := (ne_of_none hpr3.l ht).symm
      have tn : H t = none := f4.none (by simp [tb.1, tb.2.1, tp]) ht
      have hpr4 := hpr3.same (Same.upd_new (o := .tup [.str (S [c]), .str (S [d2])]) ht)
      have ht4 : (upd H3 t (.tup [.str (S [c]), .str (S [d2])])) t = some (.tup [.str (S [c]), .str (S [d2])]) := upd_same
      have hB4 := hB3.laid (o := .tup [.str (S [c]), .str (S [d2])]) ht
      have f5 : Fr [b, g, p] H (upd H3 t (.tup [.str (S [c]), .str (S [d2])])) := Fr.trans f4 (Fr.upd_new ht)
      generalize upd H3 t (.tup [.str (S [c]), .str (S [d2])]) = H4 at hpr4 ht4 hB4 f5 ⊢
      refine iAppend hpr4.l (by rw [List.length_map, sizeLine_eq]; omega) ?_
      walk_at "go"
      refine ⟨qs ++ [(t, c, d2)], _, _, rfl, by simp [hl], ⟨by rw [upd_same, List.map_append]; rfl, fun q hq => ?_⟩, fun q hq => ?_, fun q hq => ?_, ?_, Fr.trans f5 Fr.in2⟩
      · rcases List.mem_append.mp hq with z | z
        · rw [upd_ne (hno q z).2.1]; exact hpr4.t q z
        · rw [List.mem_singleton.mp z, upd_ne tp]; exact ht4
      · rcases List.mem_append.mp hq with z | z
        · exact hsg q z
        · rw [List.mem_singleton.mp z]; exact ⟨hcm, hdm⟩
      · rcases List.mem_append.mp hq with z | z
        · exact hno q z
        · rw [List.mem_singleton.mp z]; exact ⟨tn, tp, tb.1, tb.2.1⟩
      · exact hB4.upd pb pg pu
    · rintro σ H1 ⟨qs, v4, v5, rfl, hl, hpr, hsg, hno, hB1, f1⟩
      walk_at "go"
      exact k p qs H1 hp hpr (by omega) hsg pb pg pu (fun q hq => (hno q hq).1) hB1 (f1.forget fun x hx => by
        simp only [List.mem_cons, List.not_mem_nil, or_false] at hx
        rcases hx with rfl | rfl | rfl
        · exact .inl (by simp)
        · exact .inl (by simp)
        · exact .inr hp)
end
end
section
set_option Elab.async false
set_option linter.all false
set_option maxRecDepth 100000
set_option maxHeartbeats 4000000
open PySem PySem.Spec PyProof.Rows L2 NSet
/-! k21: what a table is -/
def Asc (l : List Nat) : Prop := l.Pairwise (· < ·)
def plt (p q : Nat × Nat) : Prop := p.1 < q.1 ∨ (p.1 = q.1 ∧ p.2 < q.2)
theorem uniq {α : Type} {r : α → α → Prop} (irr : ∀ a, ¬ r a a) (asy : ∀ a b, r a b → ¬ r b a) : ∀ {l m : List α}, l.Pairwise r → m.Pairwise r → (∀ x, x ∈ l ↔ x ∈ m) → l = m
  | [], [], _, _, _ => rfl
  | [], b :: m, _, _, h => nomatch (h b).mpr List.mem_cons_self
  | a :: l, [], _, _, h => nomatch (h a).mp List.mem_cons_self
  | a :: l, b :: m, h1, h2, h => by
    obtain ⟨p1, q1⟩ := List.pairwise_cons.mp h1
    obtain ⟨p2, q2⟩ := List.pairwise_cons.mp h2
    have e : a = b := by
      rcases List.mem_cons.mp ((h a).mp List.mem_cons_self) with z | z
      · exact z
      rcases List.mem_cons.mp ((h b).mpr List.mem_cons_self) with z2 | z2
      · exact z2.symm
      exact absurd (p1 b z2) (asy _ _ (p2 a z))
    subst e
    rw [uniq irr asy q1 q2 fun x => ⟨fun hx => by
      rcases List.mem_cons.mp ((h x).mp (List.mem_cons_of_mem _ hx)) with z | z
      · exact absurd (z ▸ p1 x hx) (irr _)
      · exact z, fun hx => by
      rcases List.mem_cons.mp ((h x).mpr (List.mem_cons_of_mem _ hx)) with z | z
      · exact absurd (z ▸ p2 x hx) (irr _)
      · exact z⟩]
theorem plt_irr (a : Nat × Nat) : ¬ plt a a := by unfold plt; omega
theorem plt_asy (a b : Nat × Nat) : plt a b → ¬ plt b a := by unfold plt; omega
theorem uniqA {l m : List Nat} (h1 : Asc l) (h2 : Asc m) (h : ∀ x, x ∈ l ↔ x ∈ m) : l = m := uniq (r := (· < ·)) (fun a => by omega) (fun a b => by omega) h1 h2 h
abbrev Rel := Nat → Nat → Bool
def canL (sg : List Nat) (R : Rel) : List (Nat × Nat) := sg.flatMap fun s => (sg.filter (R s)).map fun t => (s, t)
def outsL (sg : List Nat) (R : Rel) : List (List Nat) := sg.map fun s => sg.filter (R s)
def relQ (l : List (Nat × Nat)) : Rel := fun s t => decide ((s, t) ∈ l)
def Agr (sg : List Nat) (A B : Rel) : Prop := ∀ s ∈ sg, ∀ t ∈ sg, A s t = B s t
theorem mem_can {sg : List Nat} {R : Rel} {p : Nat × Nat} : p ∈ canL sg R ↔ p.1 ∈ sg ∧ p.2 ∈ sg ∧ R p.1 p.2 = true := by
  unfold canL
  rw [List.mem_flatMap]
  constructor
  · rintro ⟨s, hs, h⟩
    obtain ⟨t, ht, e⟩ := List.mem_map.mp h
    obtain ⟨h1, h2⟩ := List.mem_filter.mp ht
    subst e
    exact ⟨hs, h1, h2⟩
  · rintro ⟨h1, h2, h3⟩
    exact ⟨p.1, h1, List.mem_map.mpr ⟨p.2, List.mem_filter.mpr ⟨h2, h3⟩, rfl⟩⟩
theorem can_plt {sg : List Nat} {R : Rel} (h : Asc sg) : (canL sg R).Pairwise plt := by
  unfold canL
  rw [List.pairwise_flatMap]
  refine ⟨fun s hs => List.pairwise_map.mpr ((h.sublist List.filter_sublist).imp fun q => .inr ⟨rfl, q⟩), ?_⟩
  refine h.imp fun {a b} q x hx y hy => ?_
  obtain ⟨t, _, e⟩ := List.mem_map.mp hx
  obtain ⟨u, _, e2⟩ := List.mem_map.mp hy
  rw [← e, ← e2]
  exact .inl q
theorem Asc.nd {l : List Nat} (h : Asc l) : l.Nodup := h.imp fun q => by omega
theorem flt_agr {sg : List Nat} {A B : Rel} (h : Agr sg A B) {s : Nat} (hs : s ∈ sg) : sg.filter (A s) = sg.filter (B s) := List.filter_congr fun t ht => h s hs t ht
theorem outs_agr {sg : List Nat} {A B : Rel} : outsL sg A = outsL sg B ↔ Agr sg A B := by
  constructor
  · intro h s hs t ht
    have e := List.map_inj_left.mp h s hs
    have k : t ∈ sg.filter (A s) ↔ t ∈ sg.filter (B s) := by rw [e]
    rw [List.mem_filter, List.mem_filter] at k
    rw [Bool.eq_iff_iff]
    exact ⟨fun z => (k.mp ⟨ht, z⟩).2, fun z => (k.mpr ⟨ht, z⟩).2⟩
  · intro h
    exact List.map_congr_left fun s hs => flt_agr h hs
theorem can_iff {sg : List Nat} {A B : Rel} (h : Asc sg) : canL sg A = canL sg B ↔ Agr sg A B := by
  constructor
  · intro e s hs t ht
    have k : (s, t) ∈ canL sg A ↔ (s, t) ∈ canL sg B := by rw [e]
    rw [mem_can, mem_can] at k
    rw [Bool.eq_iff_iff]
    exact ⟨fun z => (k.mp ⟨hs, ht, z⟩).2.2, fun z => (k.mpr ⟨hs, ht, z⟩).2.2⟩
  · intro e
    exact uniq plt_irr plt_asy (can_plt h) (can_plt h) fun x => by
      rw [mem_can, mem_can]
      exact ⟨fun ⟨a, b, c⟩ => ⟨a, b, by rw [← e _ a _ b]; exact c⟩, fun ⟨a, b, c⟩ => ⟨a, b, by rw [e _ a _ b]; exact c⟩⟩
/-- what set and sorted make of good pairs -/
theorem can_of {sg : List Nat} {l m : List (Nat × Nat)} (h : Asc sg) (hm : m.Pairwise plt) (e : ∀ x, x ∈ m ↔ x ∈ l) (hl : ∀ x ∈ l, x.1 ∈ sg ∧ x.2 ∈ sg) : m = canL sg (relQ l) :=
  uniq plt_irr plt_asy hm (can_plt h) fun x => by
    rw [e, mem_can]
    unfold relQ
    rw [decide_eq_true_iff]
    exact ⟨fun z => ⟨(hl x z).1, (hl x z).2, z⟩, fun z => z.2.2⟩
theorem can_row {sg : List Nat} {R : Rel} (h : Asc sg) {c : Nat} (hc : c ∈ sg) : ((canL sg R).filter fun p => decide (p.1 = c)).map (·.2) = sg.filter (R c) := by
  refine uniqA ?_ (h.sublist List.filter_sublist) fun x => ?_
  · unfold Asc
    rw [List.pairwise_map]
    refine ((can_plt h).sublist List.filter_sublist).imp_of_mem fun {a b} ha hb q => ?_
    have e1 := of_decide_eq_true (List.mem_filter.mp ha).2
    have e2 := of_decide_eq_true (List.mem_filter.mp hb).2
    unfold plt at q
    omega
  · rw [List.mem_map, List.mem_filter]
    constructor
    · rintro ⟨p, hp, rfl⟩
      obtain ⟨h1, h2⟩ := List.mem_filter.mp hp
      have e := of_decide_eq_true h2
      obtain ⟨_, b, z⟩ := mem_can.mp h1
      exact ⟨b, by rw [← e]; exact z⟩
    · rintro ⟨h1, h2⟩
      exact ⟨(c, x), List.mem_filter.mpr ⟨mem_can.mpr ⟨hc, h1, h2⟩, decide_eq_true rfl⟩, rfl⟩
theorem len_sub {α : Type} [DecidableEq α] : ∀ {v l : List α}, v.Nodup → (∀ c ∈ v, c ∈ l) → v.length ≤ l.length
  | [], _, _, _ => Nat.zero_le _
  | a :: v, l, hn, h => by
    obtain ⟨n1, n2⟩ := List.nodup_cons.mp hn
    have ha := h a List.mem_cons_self
    have ih := len_sub (v := v) (l := l.erase a) n2 fun c hc => by
      have : c ≠ a := fun e => n1 (by rw [← e]; exact hc)
      rw [List.mem_erase_of_ne this]
      exact h c (List.mem_cons_of_mem _ hc)
    have := List.length_erase_of_mem ha
    have := List.length_pos_of_mem ha
    rw [List.length_cons]
    omega
theorem can_len {sg : List Nat} {R : Rel} (h : Asc sg) : (canL sg R).length ≤ sg.length * sg.length := by
  unfold canL
  have : ∀ l : List Nat, (l.flatMap fun s => (sg.filter (R s)).map fun t => (s, t)).length ≤ l.length * sg.length := by
    intro l
    induction l with
    | nil => simp
    | cons a l ih =>
      rw [List.flatMap_cons, List.length_append, List.length_map, List.length_cons, Nat.succ_mul]
      have := List.length_filter_le (R a) sg
      omega
  exact this sg
/-- distinct pairs of few signs are few -/
theorem few_pairs {sg : List Nat} {m : List (Nat × Nat)} (hn : m.Nodup) (hm : ∀ x ∈ m, x.1 ∈ sg ∧ x.2 ∈ sg) : m.length ≤ sg.length * sg.length := by
  have h1 : ∀ x ∈ m, x ∈ canL sg (fun _ _ => true) := fun x hx => mem_can.mpr ⟨(hm x hx).1, (hm x hx).2, rfl⟩
  have h2 := len_sub hn h1
  have : ∀ l : List Nat, (l.flatMap fun s => (sg.filter (fun _ => true)).map fun t => (s, t)).length ≤ l.length * sg.length := by
    intro l
    induction l with
    | nil => simp
    | cons a l ih =>
      rw [List.flatMap_cons, List.length_append, List.length_map, List.length_cons, Nat.succ_mul]
      have := List.length_filter_le (fun _ => true) sg
      omega
  exact Nat.le_trans h2 (this sg)
def compR (sg : List Nat) (A B : Rel) : Rel := fun s u => sg.any fun m => A s m && B m u
def orR (A B : Rel) : Rel := fun s t => A s t || B s t
def andR (A B : Rel) : Rel := fun s t => A s t && B s t
def invR (A : Rel) : Rel := fun s t => A t s
def inR (sg : List Nat) (A B : Rel) : Bool := decide (∀ s ∈ sg, ∀ t ∈ sg, A s t = true → B s t = true)
/-- keys of pairs -/
def kp (q : Nat × Nat) : List Cell := [.inr (S [q.1]), .inr (S [q.2])]
theorem kp_inj {a b : Nat × Nat} (h : kp a = kp b) : a = b := by
  unfold kp at h
  injection h with h1 h2
  injection h2 with h2 h3
  injection h1 with h1
  injection h2 with h2
  have e1 := congrArg (fun s : Str => s.cps.toList) h1
  have e2 := congrArg (fun s : Str => s.cps.toList) h2
  simp only [S_cps] at e1 e2
  exact Prod.ext (List.cons.inj e1).1 (List.cons.inj e2).1
theorem plt_of_order {ms : List (Nat × Nat)} (o : ms.Pairwise fun q r => lexLt itemOrd ((kp r).map kc) ((kp q).map kc) = false) (n : ms.Nodup) : ms.Pairwise plt := by
  refine (o.and n).imp fun {a b} h => ?_
  obtain ⟨h1, h2⟩ := h
  have h3 : lexLt itemOrd ((kp b).map kc) ((kp a).map kc) = (decide (b.1 < a.1) || (!decide (a.1 < b.1) && decide (b.2 < a.2))) := by
    unfold kp
    simp only [List.map_cons, List.map_nil, kc, S_cps, PyProof.Rows.lexLt, PyProof.Rows.itemLt, PyProof.Rows.strKind]
    simp [List.cons_lt_cons_iff]
  rw [h3] at h1
  simp at h1
  unfold plt
  by_cases e : a.1 = b.1
  · refine .inr ⟨e, ?_⟩
    have := h1.2 (by omega)
    rcases Nat.lt_or_eq_of_le this with z | z
    · exact z
    · exact absurd (Prod.ext e z) h2
  · exact .inl (by omega)
structure SgOk (sg : List Nat) : Prop where
  a : Asc sg
  l : sg.length ≤ 5
  p : 0 < sg.length
  c : ∀ c ∈ sg, c < 128
/-- an alphabet, by its signs and its vowels -/
def AlG (C : Addr) (H : Hp) (al : Addr) (sg W : List Nat) : Prop := ∃ l v, IsAl C H al l v ∧ 45 :: srtL l = sg ∧ srtL v = W
theorem AlG.same {C al : Addr} {H H' : Hp} {sg W : List Nat} (h : AlG C H al sg W) (s : Same H H') : AlG C H' al sg W := by
  obtain ⟨l, v, h1, z⟩ := h
  exact ⟨l, v, h1.same s, z⟩
theorem AlG.ins {C al : Addr} {H : Hp} {sg W : List Nat} (h : AlG C H al sg W) : ∃ dx l v, H al = some (.ins C dx [("letters", .str (S (srtL l))), ("vowels", .str (S (srtL v))), ("consonants", .str (S (consL l v))), ("signs", .str (S sg))]) := by
  obtain ⟨l, v, ⟨dx, h1⟩, e, z⟩ := h
  subst e
  exact ⟨dx, l, v, h1⟩
structure TbL (a : Ad) (H : Hp) (t al : Addr) (sg W : List Nat) (R : Rel) (lp : Addr) (qs : List (Addr × Nat × Nat)) : Prop where
  t : ∃ dx, H t = some (.ins a.cTable dx [("alphabet", .ref al), ("_pairs", .ref lp)])
  al : AlG a.cAlphabet H al sg W
  p : PrAt H lp qs
  c : qs.map (·.2) = canL sg R
def Tb (a : Ad) (H : Hp) (t al : Addr) (sg W : List Nat) (R : Rel) : Prop := ∃ lp qs, TbL a H t al sg W R lp qs
theorem TbL.same {a : Ad} {H H' : Hp} {t al lp : Addr} {sg W : List Nat} {R : Rel} {qs : List (Addr × Nat × Nat)} (h : TbL a H t al sg W R lp qs) (s : Same H H') : TbL a H' t al sg W R lp qs := by
  obtain ⟨⟨dx, h1⟩, h2, h3, h4⟩ := h
  exact ⟨⟨dx, s _ _ h1⟩, h2.same s, h3.same s, h4⟩
theorem Tb.same {a : Ad} {H H' : Hp} {t al : Addr} {sg W : List Nat} {R : Rel} (h : Tb a H t al sg W R) (s : Same H H') : Tb a H' t al sg W R := by
  obtain ⟨lp, qs, h⟩ := h
  exact ⟨lp, qs, h.same s⟩
theorem Tb.agr {a : Ad} {H : Hp} {t al : Addr} {sg W : List Nat} {R R' : Rel} (h : Tb a H t al sg W R) (ha : Asc sg) (g : Agr sg R R') : Tb a H t al sg W R' := by
  obtain ⟨lp, qs, h1, h2, h3, h4⟩ := h
  exact ⟨lp, qs, h1, h2, h3, by rw [h4, (can_iff ha).mpr g]⟩
theorem TbL.mem {a : Ad} {H : Hp} {t al lp : Addr} {sg W : List Nat} {R : Rel} {qs : List (Addr × Nat × Nat)} (h : TbL a H t al sg W R lp qs) {q : Addr × Nat × Nat} (hq : q ∈ qs) : q.2.1 ∈ sg ∧ q.2.2 ∈ sg ∧ R q.2.1 q.2.2 = true :=
  mem_can.mp (by rw [← h.c]; exact List.mem_map.mpr ⟨q, hq, rfl⟩)
theorem TbL.len {a : Ad} {H : Hp} {t al lp : Addr} {sg W : List Nat} {R : Rel} {qs : List (Addr × Nat × Nat)} (h : TbL a H t al sg W R lp qs) (g : SgOk sg) : qs.length ≤ 25 := by
  have h1 := can_len (R := R) g.a
  rw [← h.c, List.length_map] at h1
  have h2 := g.l
  have := Nat.mul_le_mul h2 h2
  omega
/-- rows of outs -/
def RowAt (H : Hp) (p : Addr) (sg : List Nat) (R : Rel) : Prop := H p = some (.lst ((outsL sg R).map fun r => V.str (S r)))
theorem RowAt.same {H H' : Hp} {p : Addr} {sg : List Nat} {R : Rel} (h : RowAt H p sg R) (s : Same H H') : RowAt H' p sg R := s _ _ h
theorem iGTup {K : PySem.W.Frag} {n : Nat} {t : TGs} {x : Addr} {xs : List V} {σ : L2.St} {H : Hp} {Q : L2.St → Hp → Prop} (h : H x = some (.tup xs)) (hn : xs.length = n) (k : t xs σ H Q) : gTup K n t (.ref x) σ H Q := ⟨x, xs, rfl, SqT.of h, hn, k⟩
theorem iGCons {t : TG} {u : TGs} {v : V} {r : List V} {σ : L2.St} {H : Hp} {Q : L2.St → Hp → Prop} (k : t v σ H fun σ' H' => u r σ' H' Q) : gCons t u (v :: r) σ H Q := ⟨v, r, rfl, k⟩
theorem iGNil {σ : L2.St} {H : Hp} {Q : L2.St → Hp → Prop} (k : Q σ H) : gNil [] σ H Q := ⟨rfl, k⟩
/-- a new list of new pairs, so far -/
def NewP (H1 : Hp) (D : Addr) (l : List (Nat × Nat)) (H : Hp) : Prop := ∃ ms : List (Addr × Nat × Nat), PrAt H D ms ∧ ms.map (·.2) = l ∧ Same H1 H
theorem NewP.start {H1 : Hp} {D : Addr} (h : H1 D = none) : NewP H1 D [] (upd H1 D (.lst [])) := ⟨[], ⟨upd_same, fun q hq => nomatch hq⟩, rfl, Same.upd_new h⟩
theorem newp_put {H1 H : Hp} {D p : Addr} {l : List (Nat × Nat)} {ms : List (Addr × Nat × Nat)} (hm : PrAt H D ms) (e : ms.map (·.2) = l) (s : Same H1 H) (hD : H1 D = none) (hp : H p = none) (hl : l.length < 4000) (x y : Nat) {l' : List (Nat × Nat)} (el : l' = l ++ [(x, y)]) :
    (upd H p (.tup [.str (S [x]), .str (S [y])])) D = some (.lst (ms.map fun q => V.ref q.1)) ∧ (ms.map fun q => V.ref q.1).length < sizeLine ∧ NewP H1 D l' (upd (upd H p (.tup [.str (S [x]), .str (S [y])])) D (.lst ((ms.map fun q => V.ref q.1) ++ [.ref p]))) := by
  subst el
  have hpD : p ≠ D := (ne_of_none hm.l hp).symm
  refine ⟨?_, ?_, ms ++ [(p, x, y)], ⟨?_, fun q hq => ?_⟩, ?_, fun c o hc => ?_⟩
  · rw [upd_ne hpD.symm]; exact hm.l
  · rw [← e, List.length_map] at hl
    rw [List.length_map, sizeLine_eq]; omega
  · rw [upd_same, List.map_append]; rfl
  · have hqD : q.1 ≠ D := by
      intro z
      rcases List.mem_append.mp hq with m | m
      · have := hm.t q m
        rw [z, hm.l] at this
        cases this
      · rw [List.mem_singleton.mp m] at z
        exact hpD z
    rw [upd_ne hqD]
    rcases List.mem_append.mp hq with m | m
    · have := hm.t q m
      rw [upd_ne (ne_of_none this hp)]
      exact this
    · rw [List.mem_singleton.mp m, upd_same]
  · rw [List.map_append, e]; rfl
  · have hcD : c ≠ D := fun z => by rw [z, hD] at hc; cases hc
    have h2 := s _ _ hc
    rw [upd_ne hcD, upd_ne (ne_of_none h2 hp)]
    exact h2
theorem unmap_in {α β : Type} (f : α → β) {m : List α} : ∀ L : List β, (∀ x ∈ L, x ∈ m.map f) → ∃ ms : List α, L = ms.map f ∧ ∀ q ∈ ms, q ∈ m
  | [], _ => ⟨[], rfl, fun q hq => nomatch hq⟩
  | x :: L, h => by
    obtain ⟨ms, e, g⟩ := unmap_in f L fun y hy => h y (List.mem_cons_of_mem _ hy)
    obtain ⟨q, hq, e2⟩ := List.mem_map.mp (h x List.mem_cons_self)
    exact ⟨q :: ms, by rw [e, List.map_cons, e2], fun z hz => by
      rcases List.mem_cons.mp hz with w | w
      · rw [w]; exact hq
      · exact g z w⟩
def keyP (q : Addr × Nat × Nat) : Addr × List Cell := (q.1, kp q.2)
theorem nodup_keys {ms : List (Addr × Nat × Nat)} (h : ((ms.map keyP).map (·.2)).Nodup) : (ms.map (·.2)).Nodup := by
  have e : (ms.map keyP).map (·.2) = (ms.map (·.2)).map kp := by rw [List.map_map, List.map_map]; rfl
  rw [e] at h
  exact List.Pairwise.imp (fun q z => q (by rw [z])) (List.pairwise_map.mp h)
theorem few_keys {sg : List Nat} (hs : SgOk sg) {qs : List (Addr × Nat × Nat)} (hq : ∀ q ∈ qs, q.2.1 ∈ sg ∧ q.2.2 ∈ sg) (L : List (Addr × List Cell)) (hn : (L.map (·.2)).Nodup) (hi : ∀ x ∈ L, x ∈ qs.map keyP) : L.length < 63 := by
  obtain ⟨ms, rfl, g⟩ := unmap_in keyP L hi
  have h1 := few_pairs (sg := sg) (nodup_keys hn) fun x hx => by
    obtain ⟨q, hq2, e⟩ := List.mem_map.mp hx
    rw [← e]
    exact hq q (g q hq2)
  rw [List.length_map] at h1 ⊢
  have := Nat.mul_le_mul hs.l hs.l
  omega
theorem set_sort {sg : List Nat} (hs : SgOk sg) {qs : List (Addr × Nat × Nat)} (hq : ∀ q ∈ qs, q.2.1 ∈ sg ∧ q.2.2 ∈ sg) {L L' : List (Addr × List Cell)} (hi : ∀ x ∈ L, x ∈ qs.map keyP) (hc : ∀ x ∈ qs.map keyP, x.2 ∈ L.map (·.2))
    (pm : L'.Perm L) (nd : (L'.map (·.2)).Nodup) (od : InOrder L') : ∃ ms : List (Addr × Nat × Nat), L' = ms.map keyP ∧ (∀ q ∈ ms, q ∈ qs) ∧ ms.map (·.2) = canL sg (relQ (qs.map (·.2))) := by
  obtain ⟨ms, rfl, g⟩ := unmap_in keyP L' fun x hx => hi x (pm.mem_iff.mp hx)
  have nd2 := nodup_keys nd
  refine ⟨ms, rfl, g, can_of hs.a (plt_of_order ?_ nd2) (fun x => ⟨fun hx => ?_, fun hx => ?_⟩) fun x hx => ?_⟩
  · unfold InOrder at od
    rw [List.pairwise_map] at od ⊢
    exact od
  · obtain ⟨q, h1, e⟩ := List.mem_map.mp hx
    exact List.mem_map.mpr ⟨q, g q h1, e⟩
  · obtain ⟨q, h1, e⟩ := List.mem_map.mp hx
    have h2 := hc (keyP q) (List.mem_map.mpr ⟨q, h1, rfl⟩)
    rw [← (pm.map (·.2)).mem_iff] at h2
    obtain ⟨z, h3, e3⟩ := List.mem_map.mp h2
    obtain ⟨q2, h4, e4⟩ := List.mem_map.mp h3
    rw [← e4] at e3
    have e5 : q2.2 = q.2 := kp_inj e3
    exact List.mem_map.mpr ⟨q2, h4, by rw [e5, e]⟩
  · obtain ⟨q, h1, e⟩ := List.mem_map.mp hx
    rw [← e]
    exact hq q h1
end
section
set_option Elab.async false
set_option linter.all false
set_option maxRecDepth 100000
set_option maxHeartbeats 4000000
open PySem PySem.Spec PyProof.Rows L2 NSet

local macro_rules | `(tactic| walk_at "side") => `(tactic| exact .inl (by assumption))

section
variable {P : Program} {w : World} {K : PySem.W.Frag} {mg : Str → Option Value} {base : Heap} {a : Ad} {d : Fd}
def spIsSign (a : Ad) : Sp := fun vs H Q _ => ∃ (al : Addr) (c : Nat) (sg W : List Nat), vs = [.ref al, .str (S [c])] ∧ AlG a.cAlphabet H al sg W ∧ sg.length ≤ 5 ∧ Q (.bl (decide (c ∈ sg))) H
theorem scIsSign : FnScope ["self", "text"] ["self", "text"] (defScope sIsSign) := ⟨rfl, rfl, rfl, by decide +kernel, rfl, by decide +kernel, by decide +kernel⟩
theorem ok_isSign (T : Fns K mg a d) : FnOk P w K mg base CX0 1 a.aIsSign d.dIsSign ["self", "text"] (spIsSign a) := by
  refine T.FIsSign.ok scIsSign (fun vs H Q E h => ?_) (fun cdv A outer s H vs Q E hr h => ?_)
  · obtain ⟨al, c, sg, W, rfl, _⟩ := h
    rfl
  · obtain ⟨al, c, sg, W, rfl, ⟨l, v, ⟨dx, hal⟩, e1, e2⟩, hl, k⟩ := h
    subst e1
    refine ⟨_, ((pss_one (ps_ret (pe_and (pe_cmpR op_eq (pe_callB call_lenS (by rfl) T.z_len (by decide +kernel) (pa_cons (pv 1) pa_nil)) pe_int (nomark _)) (pe_one (pe_cmpR op_inS (pv 1) (pe_fld (pv 0) rfl) rfl)))))), ?_⟩
    have nS := T.nS
    have hcl := T.clA
    unfold alF at hal
    walk_at "go"
    exact k
/-- all alphabets alike or Mixed -/
def Alike (sg W sg2 W2 : List Nat) : Prop := sg = sg2 ∧ W = W2
instance (sg W sg2 W2 : List Nat) : Decidable (Alike sg W sg2 W2) := by unfold Alike; infer_instance
theorem alike_eq {l2 v2 l v : List Nat} : decide (Alike (45 :: srtL l2) (srtL v2) (45 :: srtL l) (srtL v)) = AlEq l2 v2 l v := by
  rw [Bool.eq_iff_iff, decide_eq_true_iff]
  unfold Alike AlEq
  simp
theorem ne_al {a : Ad} {H : Hp} {al2 al : Addr} {sg2 W2 sg W : List Nat} {Q : VK} (eqA : PySem.W.notFirst K a.cAlphabet (.ref a.cAlphabet) = true) (h1 : AlG a.cAlphabet H al2 sg2 W2) (h2 : AlG a.cAlphabet H al sg W) (k : Q (.bl (!decide (Alike sg2 W2 sg W))) H) :
    rNeI K a.cAlphabet (fun vs H Q E => spEq a.cAlphabet (vs ++ []) H Q E) E0 (.ref al2) (.ref al) H Q := by
  obtain ⟨l2, v2, hal2, e1, e2⟩ := h1
  obtain ⟨l, v, hal, e3, e4⟩ := h2
  obtain ⟨dy, z2⟩ := id hal2
  obtain ⟨dz, z3⟩ := id hal
  refine ⟨al2, dy, _, al, a.cAlphabet, dz, _, rfl, rfl, z2, z3, eqA, al2, al, l2, v2, l, v, rfl, hal2, hal, _, rfl, ?_⟩
  rw [← alike_eq, e1, e2, e3, e4]
  exact k
def spCkS (a : Ad) : Sp := fun vs H Q E => ∃ (p t1 t2 al al2 : Addr) (sg W sg2 W2 : List Nat) (A B : Rel), vs = [.ref al, .ref p] ∧ H p = some (.lst [.ref t1, .ref t2]) ∧ Tb a H t1 al sg W A ∧ Tb a H t2 al2 sg2 W2 B ∧
  (Alike sg W sg2 W2 → Q .non H) ∧ (¬ Alike sg W sg2 W2 → ∀ H', Same H H' → E (.ref a.cMixed) none H')
theorem scPCheckShared : FnScope ["alphabet", "things", "thing"] ["alphabet", "things"] (defScope sPCheckShared) := ⟨rfl, rfl, rfl, by decide +kernel, rfl, by decide +kernel, by decide +kernel⟩
theorem ok_ckS (T : Fns K mg a d) (GAlEq : FnOk P w K mg base CX0 1 a.aAlEq d.dAlEq ["self", "other"] (spEq a.cAlphabet)) : FnOk P w K mg base (L2.CX P w) 3 a.aPCheckShared d.dPCheckShared ["alphabet", "things"] (spCkS a) := by
  refine T.FPCheckShared.okX scPCheckShared (fun vs H Q E h => ?_) (fun cdv A outer s H vs Q E hr h => ?_)
  · obtain ⟨p, t1, t2, al, al2, sg, W, sg2, W2, A, B, rfl, _⟩ := h
    rfl
  · obtain ⟨p, t1, t2, al, al2, sg, W, sg2, W2, R1, R2, rfl, hp, hT1, hT2, k1, k2⟩ := h
    refine ⟨_, ((pss_one (ps_for (passes_of rfl) rfl (pi_list (pv 1)) (pg_name (i := 2) scPCheckShared.nd rfl (Or.inl rfl)) (pss_one (ps_if (pt_cmpR (op_neI T.neA T.moA T.mAlEq.at_ T.mAlEq.fn (GAlEq.raw T.bAlEq .nil) (hr.mono (by decide)) pass0) (pe_fld (pv 2) rfl) (pv 0) (nomark _)) (pss_one (ps_raise rfl (takes_of rfl rfl rfl rfl) (pmk_bare PySem.F.excBase_ValueError T.xMixed T.gcMixed T.kMixed (raises_own T.eMixed T.tMixed) (by rfl)))) pss_nil))))), ?_⟩
    have nTa := T.nTa
    have clT := T.clT
    have hal : AlG a.cAlphabet H al sg W := by
      obtain ⟨_, _, z⟩ := hT1
      exact z.al
    walk_at "go"
    refine for_L (xs := [.ref t1, .ref t2]) (fun i σ H' => Stop (∃ x, σ = [some (.ref al), some (.ref p), x] ∧ H' = H ∧ (2 ≤ i → Alike sg W sg2 W2))) ⟨none, rfl, rfl, (fun h => absurd h (by decide))⟩ (fun i σ H' _ hh => ?_) ?_ ?_
    · obtain ⟨x, _, rfl, _⟩ := hh
      exact SqL.of hp
    · rintro i v σ H' hv ⟨x, rfl, rfl, hi⟩
      match i, hv with
      | 0, hv =>
        obtain rfl : V.ref t1 = v := Option.some.inj hv
        obtain ⟨lp, qs, ⟨dx, ht⟩, ha2, _, _⟩ := id hT1
        walk_at "go"
        refine ne_al T.eqA ha2 hal ⟨_, rfl, ?_⟩
        have e : Alike sg W sg W := ⟨rfl, rfl⟩
        rw [decide_eq_true e]
        walk_at "go"
        exact ⟨_, rfl, rfl, fun h => absurd h (by decide)⟩
      | 1, hv =>
        obtain rfl : V.ref t2 = v := Option.some.inj hv
        obtain ⟨lp, qs, ⟨dx, ht⟩, ha2, _, _⟩ := id hT2
        walk_at "go"
        refine ne_al T.eqA ha2 hal ⟨_, rfl, ?_⟩
        by_cases e : Alike sg2 W2 sg W
        · have e' : Alike sg W sg2 W2 := ⟨e.1.symm, e.2.symm⟩
          rw [decide_eq_true e]
          walk_at "go"
          exact ⟨_, rfl, rfl, fun _ => e'⟩
        · have e' : ¬ Alike sg W sg2 W2 := fun z => e ⟨z.1.symm, z.2.symm⟩
          rw [decide_eq_false e]
          walk_at "go"
          exact k2 e' _ (fun _ _ h => h)
    · rintro σ H' ⟨x, rfl, rfl, hi⟩
      exact k1 (hi (Nat.le_refl 2))
def spCkA (a : Ad) : Sp := fun vs H Q E => ∃ (p t1 t2 al al2 : Addr) (sg W sg2 W2 : List Nat) (A B : Rel), vs = [.ref p] ∧ H p = some (.lst [.ref t1, .ref t2]) ∧ Tb a H t1 al sg W A ∧ Tb a H t2 al2 sg2 W2 B ∧
  (Alike sg W sg2 W2 → Q .non H) ∧ (¬ Alike sg W sg2 W2 → ∀ H', Same H H' → E (.ref a.cMixed) none H')
theorem scPCheckAlphabets : FnScope ["things"] ["things"] (defScope sPCheckAlphabets) := ⟨rfl, rfl, rfl, by decide +kernel, rfl, by decide +kernel, by decide +kernel⟩
theorem ok_ckA (T : Fns K mg a d) (GAlEq : FnOk P w K mg base CX0 1 a.aAlEq d.dAlEq ["self", "other"] (spEq a.cAlphabet)) : FnOk P w K mg base (L2.CX P w) 4 a.aPCheckAlphabets d.dPCheckAlphabets ["things"] (spCkA a) := by
  have GPCheckShared := ok_ckS (P := P) (w := w) (base := base) T GAlEq
  refine T.FPCheckAlphabets.okX scPCheckAlphabets (fun vs H Q E h => ?_) (fun cdv A outer s H vs Q E hr h => ?_)
  · obtain ⟨p, t1, t2, al, al2, sg, W, sg2, W2, A, B, rfl, _⟩ := h
    rfl
  · obtain ⟨p, t1, t2, al, al2, sg, W, sg2, W2, R1, R2, rfl, hp, hT1, hT2, k1, k2⟩ := h
    refine ⟨_, ((pss_one (ps_expr (pe_call GPCheckShared (hr.mono (by decide)) (by rfl) T.gPCheckShared T.FPCheckShared.kp T.bPCheckShared .nil (passes_call (takes_of rfl rfl rfl rfl) (fun _ _ _ _ h => h)) (pa_cons (pe_fld (pe_ix (r := rIxL K) ix_list (pv 0) pe_int (fun _ _ => rfl)) rfl) (pa_cons (pv 0) pa_nil)))))), ?_⟩
    have nTa := T.nTa
    have clT := T.clT
    obtain ⟨lp, qs, ⟨dx, ht⟩, _⟩ := id hT1
    walk_at "go"
    refine ⟨p, t1, t2, al, al2, sg, W, sg2, W2, R1, R2, rfl, hp, hT1, hT2, k1, k2⟩
end
end
section
set_option Elab.async false
set_option linter.all false
set_option maxRecDepth 100000
set_option maxHeartbeats 4000000
open PySem PySem.Spec PyProof.Rows L2 NSet

local macro_rules | `(tactic| walk_at "side") => `(tactic| exact .inl (by assumption))
local macro_rules | `(tactic| walk_at "go1") => `(tactic| (with_reducible refine iGTup (by assumption) rfl ?_))
local macro_rules | `(tactic| walk_at "go1") => `(tactic| (with_reducible refine iGCons ?_))
local macro_rules | `(tactic| walk_at "go1") => `(tactic| (with_reducible refine iGNil ?_))

section
variable {P : Program} {w : World} {K : PySem.W.Frag} {mg : Str → Option Value} {base : Heap} {a : Ad} {d : Fd}
def relP (qs : List (Addr × Nat × Nat)) : Rel := relQ (qs.map (·.2))
def spInit (a : Ad) : Sp := fun vs H Q _ => ∃ (t al p dx : Addr) (sg W : List Nat) (qs : List (Addr × Nat × Nat)), vs = [.ref t, .ref al, .ref p] ∧ H t = some (.ins a.cTable dx []) ∧ AlG a.cAlphabet H al sg W ∧ SgOk sg ∧ PrAt H p qs ∧ qs.length ≤ 4000 ∧ (∀ q ∈ qs, q.2.1 ∈ sg ∧ q.2.2 ∈ sg) ∧
  ∀ lp ms H', H lp = none → Kp t H H' → (TbL a H' t al sg W (relP qs) lp ms) → Q .non H'
theorem scTInit : FnScope ["self", "alphabet", "pairs", "index", "told", "out"] ["self", "alphabet", "pairs"] (defScope sTInit) := ⟨rfl, rfl, rfl, by decide +kernel, rfl, by decide +kernel, by decide +kernel⟩
theorem ok_init (T : Fns K mg a d) : FnOk P w K mg base (L2.CX P w) 3 a.aTInit d.dTInit ["self", "alphabet", "pairs"] (spInit a) := by
  have GIsSign : FnOk P w K mg base CX0 1 a.aIsSign d.dIsSign ["self", "text"] (spIsSign a) := ok_isSign T
  have GBadPair : FnOk P w K mg base CX0 1 a.eBadPair d.eBadPair ["self", "index"] (fun _ _ _ _ => False) := ⟨fun _ _ _ _ h => h.elim, fun _ _ _ _ _ _ _ _ _ _ _ _ _ h => h.elim⟩
  refine T.FTInit.okX scTInit (fun vs H Q E h => ?_) (fun cdv A outer s H vs Q E hr h => ?_)
  · obtain ⟨t, al, p, dx, sg, W, qs, rfl, _⟩ := h
    rfl
  · obtain ⟨t, al, p, dx, sg, W, qs, rfl, ht, hal, hsg, hp, hl, hm, k⟩ := h
    refine ⟨_, ((pss_cons (ps_for (passes_of rfl) rfl (pi_enum (by rfl) T.z_enum (pa_cons (pv 2) pa_nil)) (pg_tup rfl (pgs_cons (pg_name (i := 3) scTInit.nd rfl (Or.inl rfl)) (pgs_cons (pg_tup rfl (pgs_cons (pg_name (i := 4) scTInit.nd rfl (Or.inl rfl)) (pgs_cons (pg_name (i := 5) scTInit.nd rfl (Or.inl rfl)) pgs_nil))) pgs_nil))) (pss_one (ps_if (pt_not (PW.pt (pw_and (pt_val (pe_meth (pv 1) T.clA T.mIsSign GIsSign (hr.mono (by decide)) T.bIsSign .nil pass0 (pa_cons (pv 4) pa_nil))) (pw_and1 (pt_val (pe_meth (pv 1) T.clA T.mIsSign GIsSign (hr.mono (by decide)) T.bIsSign .nil pass0 (pa_cons (pv 5) pa_nil))))))) (pss_one (ps_raise rfl (takes_of rfl rfl rfl rfl) (pmk_oex T.xBadPair.ox T.xBadPair.iC T.xBadPair.tI GBadPair (hr.mono (by decide)) T.xBadPair.bB .nil pass0 (by rfl) T.xBadPair.gB (pa_cons (pv 3) pa_nil)))) pss_nil)))
      (pss_cons (ps_fld (pv 0) (pv 1) rfl)
      (pss_one (ps_fld (pv 0) (pe_callB (cr_sortN rfl) (by rfl) T.z_sorted (by decide +kernel) (pa_cons (pe_callTy (cr_setN rfl (Nat.lt_of_succ_lt hr.unitu)) (by rfl) T.z_set (by decide +kernel) (pa_cons (pe_lc (own := [("told", 4), ("out", 5)]) (g := (gTup K 2 (gCons (gName 4) (gCons (gName 5) gNil)))) (by rfl) scTInit.nd (pi_list (pv 2)) (blkOk_by (own := [("told", 4), ("out", 5)]) (N := ["self", "alphabet", "pairs", "index", "told", "out"]) (sc := defScope sTInit) (by decide +kernel)) (fun _ _ _ _ _ => (pg_tup rfl (pgs_cons (pg_name (i := 4) scTInit.nd rfl (Or.inl rfl)) (pgs_cons (pg_name (i := 5) scTInit.nd rfl (Or.inl rfl)) pgs_nil)))) (fun _ _ _ _ _ => pts_nil) (fun _ _ _ _ _ => (pe_tup (pa_cons (pv 4) (pa_cons (pv 5) pa_nil))))) pa_nil)) pa_nil)) rfl))))), ?_⟩
    have clA := T.clA
    have hpl := hp.l
    refine ⟨_, rfl, p, _, rfl, SqL.of hpl, for_it (walk_enum (K := K) (a := p) (xs := qs.map fun q => V.ref q.1)) (fun i σ H' => Stop (∃ (v3 v4 v5 : Option V), σ = [some (.ref t), some (.ref al), some (.ref p), v3, v4, v5] ∧ Same H H')) ⟨none, none, none, rfl, fun _ _ h => h⟩ (fun i σ H' _ hP => ?_) ?_ ?_⟩
    · obtain ⟨v3, v4, v5, rfl, s⟩ := hP
      exact SqL.of (s _ _ hpl)
    · rintro i x σ H4 H5 hi ⟨v3, v4, v5, rfl, s⟩ ⟨Tp, x1, y1, rfl, hTp, rfl, hx1, hy1⟩
      cases hx1
      have hy1 : (qs.map fun q => V.ref q.1)[i]? = some y1 := hy1
      rw [List.getElem?_map] at hy1
      obtain ⟨q, hq, rfl⟩ := Option.map_eq_some_iff.mp hy1
      have hqm := List.mem_of_getElem? hq
      have s5 := Vk.Same.trans s (Same.upd_new (o := .tup [.int (i : Nat), .ref q.1]) hTp)
      have hT5 : (upd H4 Tp (.tup [.int (i : Nat), .ref q.1])) Tp = some (.tup [.int (i : Nat), .ref q.1]) := upd_same
      generalize upd H4 Tp (.tup [.int (i : Nat), .ref q.1]) = H5 at s5 hT5 ⊢
      have hqt := s5 _ _ (hp.t q hqm)
      have hal5 := hal.same s5
      obtain ⟨dxa, ll, vv, hi5⟩ := hal5.ins
      have hl5 := hsg.l
      have hm5 := hm q hqm
      walk_at "go"
      refine ⟨al, q.2.1, sg, W, rfl, hal5, hl5, ?_⟩
      rw [decide_eq_true hm5.1]
      walk_at "go"
      refine ⟨al, q.2.2, sg, W, rfl, hal5, hl5, ?_⟩
      rw [decide_eq_true hm5.2]
      walk_at "go"
      exact ⟨_, _, _, rfl, s5⟩
    · rintro σ H4 ⟨v3, v4, v5, rfl, s⟩
      have ht4 := s _ _ ht
      have hcT := T.clT
      have hnTa := T.nTa
      have hnTp := T.nTp
      have hp4 := hp.same s
      have hal4 := hal.same s
      have np4 : p ≠ t := fun z => by
        have := hp4.l
        rw [z, ht4] at this
        cases this
      have nal : al ≠ t := fun z => by
        obtain ⟨dxa, ll, vv, e⟩ := hal4.ins
        rw [z, ht4] at e
        injection (Option.some.inj e) with _ _ e3
        cases e3
      walk_at "go"
      rename_i D hD
      have n1 : putF "alphabet" (V.ref al) [] = ([("alphabet", V.ref al)] : List (Str × V)) := rfl
      rw [n1] at hD ⊢
      generalize hH1 : upd H4 t (.ins a.cTable dx [("alphabet", .ref al)]) = H1 at hD ⊢
      have kp1 : Kp t H H1 := fun c o hc e => by rw [← hH1, upd_ne hc]; exact s _ _ e
      have ht1 : H1 t = some (.ins a.cTable dx [("alphabet", .ref al)]) := by rw [← hH1]; exact upd_same
      have hp1 : PrAt H1 p qs := ⟨kp1 _ _ np4 hp.l, fun q hq => kp1 _ _ (fun z => by
        have := hp.t q hq
        rw [z, ht] at this
        cases this) (hp.t q hq)⟩
      have hal1 : AlG a.cAlphabet H1 al sg W := by
        obtain ⟨l, v, ⟨dxa, e⟩, z⟩ := hal
        exact ⟨l, v, ⟨dxa, kp1 _ _ nal e⟩, z⟩
      refine lc_list (K := K) (a := p) (xs := qs.map fun q => V.ref q.1) (fun i H' => NewP H1 D ((qs.map (·.2)).take i) H') (NewP.start hD) (fun i H' _ h => SqL.of (by obtain ⟨_, _, _, s⟩ := h; exact s _ _ hp1.l)) ?_ ?_
      · rintro i x H5 hi hP
        rw [List.getElem?_map] at hi
        obtain ⟨q, hq, rfl⟩ := Option.map_eq_some_iff.mp hi
        have hqm := List.mem_of_getElem? hq
        have hil := (List.getElem?_eq_some_iff.mp hq).1
        obtain ⟨ms, hms, ems, s5⟩ := id hP
        have hqt := s5 _ _ (hp1.t q hqm)
        walk_at "go"
        rename_i pp hpp
        exact newp_put (l' := (qs.map (·.2)).take (i + 1)) hms ems s5 hD hpp (by rw [List.length_take]; omega) q.2.1 q.2.2 (by
          rw [List.take_add_one, List.getElem?_map, hq]
          rfl)
      · rintro H5 ⟨ms, hms, ems, s5⟩
        rw [List.length_map, List.take_of_length_le (by rw [List.length_map]; exact Nat.le_refl _)] at ems
        have hmq : ∀ q ∈ ms, q.2.1 ∈ sg ∧ q.2.2 ∈ sg := fun q hq => by
          have : q.2 ∈ qs.map (·.2) := by rw [← ems]; exact List.mem_map.mpr ⟨q, hq, rfl⟩
          obtain ⟨z, hz, e⟩ := List.mem_map.mp this
          rw [← e]
          exact hm z hz
        refine ⟨D, ms.map keyP, rfl, SqL.of (by rw [List.map_map]; exact hms.l), fun x hx => ?_, few_keys hsg hmq, fun st L hst hnd hin hcov => ?_⟩
        · obtain ⟨q, hq, rfl⟩ := List.mem_map.mp hx
          exact SqT.of (hms.t q hq)
        walk_at "go"
        show rSortN K w [V.ref st] (upd H5 st (NSet.SetN w st L)) _
        have s6 : Same H5 (upd H5 st (NSet.SetN w st L)) := Same.upd_new hst
        have hst6 : (upd H5 st (NSet.SetN w st L)) st = some (NSet.SetN w st L) := upd_same
        generalize upd H5 st (NSet.SetN w st L) = H6 at s6 hst6 ⊢
        refine ⟨st, L, fun _ => true, rfl, hst6, fun x hx => ?_, fun L' lp pm nd lt od hlp => ?_⟩
        · obtain ⟨q, hq, rfl⟩ := List.mem_map.mp (hin x hx)
          exact ⟨SqT.of (s6 _ _ (hms.t q hq)), ⟨rfl, rfl, trivial⟩, by unfold keyP kp; simp⟩
        obtain ⟨ns, eL, gns, ens⟩ := set_sort hsg hmq hin hcov pm nd od
        rw [ems] at ens
        subst eL
        have s7 : Same H6 (upd H6 lp (.lst ((ns.map keyP).map fun q => V.ref q.1))) := Same.upd_new hlp
        have hlp7 : (upd H6 lp (.lst ((ns.map keyP).map fun q => V.ref q.1))) lp = some (.lst (ns.map fun q => V.ref q.1)) := by rw [upd_same, List.map_map]; rfl
        generalize upd H6 lp (.lst ((ns.map keyP).map fun q => V.ref q.1)) = H7 at s7 hlp7 ⊢
        have s57 := Vk.Same.trans s5 (Vk.Same.trans s6 s7)
        have ht7 := s57 _ _ ht1
        have hal7 := hal1.same s57
        walk_at "go"
        have n2 : putF "_pairs" (V.ref lp) [("alphabet", V.ref al)] = ([("alphabet", V.ref al), ("_pairs", V.ref lp)] : List (Str × V)) := by
          show (if ("alphabet" : Str) = "_pairs" then _ else (("alphabet" : Str), V.ref al) :: putF "_pairs" (V.ref lp) []) = _
          rw [if_neg (by decide +kernel)]
          rfl
        rw [n2]
        have h16 := Vk.Same.trans s5 s6
        have nlt : lp ≠ t := fun z => by
          rw [z, h16 _ _ ht1] at hlp
          cases hlp
        have nqt : ∀ q ∈ ns, q.1 ≠ t := fun q hq z => by
          have := s57 
          have h8 := Vk.Same.trans s6 s7 _ _ (hms.t q (gns q hq))
          rw [z, ht7] at h8
          cases h8
        refine k lp ns _ ?_ (Kp.trans (Kp.trans kp1 (Vk.Same.kp s57 t)) (Kp.upd t H7 _)) ⟨⟨dx, upd_same⟩, ?_, ⟨by rw [upd_ne nlt]; exact hlp7, fun q hq => by rw [upd_ne (nqt q hq)]; exact Vk.Same.trans s6 s7 _ _ (hms.t q (gns q hq))⟩, ens⟩
        · cases hh : H lp with
          | none => rfl
          | some o =>
            rw [h16 _ _ (kp1 _ _ nlt hh)] at hlp
            cases hlp
        · obtain ⟨l, v, ⟨dxa, e⟩, z⟩ := hal7
          exact ⟨l, v, ⟨dxa, by rw [upd_ne nal]; exact e⟩, z⟩
end
end
section
set_option Elab.async false
set_option linter.all false
set_option maxRecDepth 100000
set_option maxHeartbeats 4000000
open PySem PySem.Spec PyProof.Rows L2 NSet

local macro_rules | `(tactic| walk_at "side") => `(tactic| exact .inl (by assumption))
local macro_rules | `(tactic| walk_at "go1") => `(tactic| (with_reducible refine iGTup (by assumption) rfl ?_))
local macro_rules | `(tactic| walk_at "go1") => `(tactic| (with_reducible refine iGCons ?_))
local macro_rules | `(tactic| walk_at "go1") => `(tactic| (with_reducible refine iGNil ?_))
local macro_rules | `(tactic| walk_at "go1") => `(tactic| (with_reducible refine iMakeV ?_))
local macro_rules | `(tactic| walk_at "go1") => `(tactic| (with_reducible refine iMakeD ?_))
local macro_rules | `(tactic| walk_at "go1") => `(tactic| (with_reducible refine iLc2S ?_))
local macro_rules | `(tactic| walk_at "go1") => `(tactic| (with_reducible refine iLc2L ?_))
local macro_rules | `(tactic| walk_at "go1") => `(tactic| (with_reducible refine iIStr ?_))

section
variable {P : Program} {w : World} {K : PySem.W.Frag} {mg : Str → Option Value} {base : Heap} {a : Ad} {d : Fd}
/-- what Table(..) asks: one place for all makers -/
theorem iMk {a : Ad} {t al p dx : Addr} {H0 : Hp} {sg W : List Nat} {qs : List (Addr × Nat × Nat)} {Q : VK} {E : XK} (ht : H0 t = none) (hd : H0 dx = none) (hn : dx ≠ t) (hal : AlG a.cAlphabet H0 al sg W) (hs : SgOk sg) (hp : PrAt H0 p qs) (hl : qs.length ≤ 4000) (hm : ∀ q ∈ qs, q.2.1 ∈ sg ∧ q.2.2 ∈ sg)
    (k : ∀ lp ms H', H0 lp = none → Same H0 H' → TbL a H' t al sg W (relP qs) lp ms → Q (.ref t) H') : spInit a [.ref t, .ref al, .ref p] (upd (upd H0 dx (.own t)) t (.ins a.cTable dx [])) (fun v H2 => v = .non ∧ Q (.ref t) H2) E := by
  have s1 : Same H0 (upd (upd H0 dx (.own t)) t (.ins a.cTable dx [])) := fun c o hc => by
    rw [upd_ne (fun z => by rw [z, ht] at hc; cases hc), upd_ne (fun z => by rw [z, hd] at hc; cases hc)]
    exact hc
  refine ⟨t, al, p, dx, sg, W, qs, rfl, upd_same, hal.same s1, hs, hp.same s1, hl, hm, fun lp ms H' h1 h2 h3 => ⟨rfl, k lp ms H' (Same.free s1 h1) (fun c o hc => ?_) h3⟩⟩
  exact h2 c o (fun z => by rw [z, ht] at hc; cases hc) (s1 c o hc)
theorem fm_len (sg : List Nat) : ∀ l : List Nat, (l.flatMap fun s => sg.map fun t => (s, t)).length ≤ l.length * sg.length
  | [] => by simp
  | a :: l => by
    rw [List.flatMap_cons, List.length_append, List.length_map, List.length_cons, Nat.succ_mul]
    have := fm_len sg l
    omega
theorem mem_ms {ms : List (Addr × Nat × Nat)} {l : List (Nat × Nat)} (e : ms.map (·.2) = l) {q : Addr × Nat × Nat} (hq : q ∈ ms) : q.2 ∈ l := by
  rw [← e]
  exact List.mem_map.mpr ⟨q, hq, rfl⟩
def spTFull (a : Ad) : Sp := fun vs H Q _ => ∃ (al : Addr) (sg W : List Nat), vs = [.ref a.cTable, .ref al] ∧ AlG a.cAlphabet H al sg W ∧ SgOk sg ∧ ∀ t H', Same H H' → Tb a H' t al sg W (fun _ _ => true) → Q (.ref t) H'
def MkT (K : PySem.W.Frag) (a : Ad) : Prop := Mk K a.cTable a.aTInit
theorem scTFull : FnScope ["cls", "alphabet", "told", "out"] ["cls", "alphabet"] (defScope sTFull) := ⟨rfl, rfl, rfl, by decide +kernel, rfl, by decide +kernel, by decide +kernel⟩
theorem ok_full (T : Fns K mg a d) (MT : Mk K a.cTable a.aTInit) (bTInit : Binds K d.dTInit ["self", "alphabet", "pairs"] []) : FnOk P w K mg base (L2.CX P w) 5 a.aTFull d.dTFull ["cls", "alphabet"] (spTFull a) := by
  have GTInit := ok_init (P := P) (w := w) (base := base) T
  refine T.FTFull.okX scTFull (fun vs H Q E h => ?_) (fun cdv A outer s H vs Q E hr h => ?_)
  · obtain ⟨al, sg, W, rfl, _⟩ := h
    rfl
  · obtain ⟨al, sg, W, rfl, hal, hsg, k⟩ := h
    have clA := T.clA
    have nS := T.nS
    obtain ⟨dxa, ll, vv, hi⟩ := hal.ins
    refine ⟨_, ((pss_one (ps_ret (pe_makeV (pv 0) MT GTInit (hr.mono (by decide)) bTInit .nil (passes_call (takes_of rfl rfl rfl rfl) (fun _ _ _ _ h => h)) (pa_cons (pv 1) (pa_cons (pe_lc2 (own := [("told", 2), ("out", 3)]) (vs1 := [3]) (g := (gName 2)) (g1 := (gName 3)) (by rfl) scTFull.nd (pi_str (pe_fld (pv 1) rfl)) (blkOk_by (own := [("told", 2), ("out", 3)]) (N := ["cls", "alphabet", "told", "out"]) (sc := defScope sTFull) (by decide +kernel)) (by decide) (fun _ _ _ _ _ => (pg_name (i := 2) scTFull.nd rfl (Or.inl rfl))) (fun _ _ _ _ _ => pts_nil) (fun _ _ _ _ _ => (pi_str (pe_fldK (K := K) (by rfl) (pv 1) (by rfl)))) (fun _ _ _ _ _ => (pg_name (i := 3) scTFull.nd rfl (Or.inl rfl))) (fun _ _ _ _ _ => pts_nil) (fun _ _ _ _ _ => (pe_tup (pa_cons (pv 2) (pa_cons (pv 3) pa_nil))))) pa_nil)))))), ?_⟩
    walk_at "go"
    rename_i D hD
    have hl5 := hsg.l
    refine lc2_it walk_S (fun i H' => NewP H D ((sg.take i).flatMap fun s => sg.map fun t => (s, t)) H') (NewP.start hD) (fun _ _ _ _ => trivial) ?_ (fun H' hP => ?_)
    · rintro i x H5 H6 hii hP ⟨rfl, c, hc, rfl⟩
      obtain ⟨ms0, hms0, ems0, s50⟩ := id hP
      have hi5 := s50 _ _ hi
      walk_at "go"
      refine inner_it walk_S (fun j H' => NewP H D (((sg.take i).flatMap fun s => sg.map fun t => (s, t)) ++ (sg.take j).map fun t => (c, t)) H') (by rw [List.take_zero, List.map_nil, List.append_nil]; exact hP) (fun _ _ _ _ => trivial) ?_ (fun H' hP2 => ?_)
      · rintro j x H7 H8 hj hP2 ⟨rfl, c2, hc2, rfl⟩
        obtain ⟨ms, hms, ems, s5⟩ := id hP2
        walk_at "go"
        rename_i pp hpp
        exact newp_put (l' := (((sg.take i).flatMap fun s => sg.map fun t => (s, t)) ++ (sg.take (j + 1)).map fun t => (c, t))) hms ems s5 hD hpp (by
          have h1 := fm_len sg (sg.take i)
          rw [List.length_take] at h1
          have h2 := Nat.mul_le_mul (show min i sg.length ≤ 5 by omega) hl5
          rw [List.length_append, List.length_map, List.length_take]
          omega) c c2 (by
          rw [List.take_add_one, hc2, List.map_append, ← List.append_assoc]
          rfl)
      · rw [List.take_length] at hP2
        rw [List.take_add_one, hc, List.flatMap_append]
        simpa using hP2
    · obtain ⟨ms, hms, ems, s5⟩ := hP
      rw [List.take_length] at ems
      walk_at "go"
      intro x dx hx hd hn
      refine iMk (qs := ms) hx hd hn (hal.same s5) hsg hms ?_ (fun q hq => ?_) fun lp ns H' h1 h2 h3 => k _ _ (Vk.Same.trans s5 h2) (Tb.agr ⟨lp, ns, h3⟩ hsg.a fun s hs t ht => ?_)
      · rw [← List.length_map (f := (·.2)), ems]
        have h1 := fm_len sg sg
        have h2 := Nat.mul_le_mul hl5 hl5
        omega
      · obtain ⟨s, hs, h⟩ := List.mem_flatMap.mp (mem_ms ems hq)
        obtain ⟨t, ht, e⟩ := List.mem_map.mp h
        rw [← e]
        exact ⟨hs, ht⟩
      · unfold relP relQ
        rw [ems, decide_eq_true_iff]
        exact List.mem_flatMap.mpr ⟨s, hs, List.mem_map.mpr ⟨t, ht, rfl⟩⟩
end
end
section
set_option Elab.async false
set_option linter.all false
set_option maxRecDepth 100000
set_option maxHeartbeats 4000000
open PySem PySem.Spec PyProof.Rows L2 NSet

local macro_rules | `(tactic| walk_at "side") => `(tactic| exact .inl (by assumption))
local macro_rules | `(tactic| walk_at "go1") => `(tactic| (with_reducible refine iGTup (by assumption) rfl ?_))
local macro_rules | `(tactic| walk_at "go1") => `(tactic| (with_reducible refine iGCons ?_))
local macro_rules | `(tactic| walk_at "go1") => `(tactic| (with_reducible refine iGNil ?_))
local macro_rules | `(tactic| walk_at "go1") => `(tactic| (with_reducible refine iMakeV ?_))
local macro_rules | `(tactic| walk_at "go1") => `(tactic| (with_reducible refine iMakeD ?_))
local macro_rules | `(tactic| walk_at "go1") => `(tactic| (with_reducible refine iLc2S ?_))
local macro_rules | `(tactic| walk_at "go1") => `(tactic| (with_reducible refine iLc2L ?_))
local macro_rules | `(tactic| walk_at "go1") => `(tactic| (with_reducible refine iIStr ?_))

/-! pairs and rows as data -/
theorem okS1 {c : Nat} (h : c < 0x110000) : PyData.strOk (S [c]) = true := by
  show [c].toArray.all (fun c => decide (c < 0x110000)) = true
  simp
  exact h
def dq (q : Nat × Nat) : PyData := .tuple [.str (S [q.1]), .str (S [q.2])]
theorem dp_tup {K : PySem.W.Frag} {H : Hp} {x : Addr} {q : Nat × Nat} (h : H x = some (.tup [.str (S [q.1]), .str (S [q.2])])) : Dp K H (.ref x) (dq q) := .tup (SqT.of h) (.cons (.str _) (.cons (.str _) .nil))
theorem dp_allp {K : PySem.W.Frag} {H : Hp} : ∀ qs : List (Addr × Nat × Nat), (∀ q ∈ qs, H q.1 = some (.tup [.str (S [q.2.1]), .str (S [q.2.2])])) → DpAll K H (qs.map fun q => V.ref q.1) ((qs.map (·.2)).map dq)
  | [], _ => .nil
  | q :: qs, h => .cons (dp_tup (h q List.mem_cons_self)) (dp_allp qs fun z hz => h z (List.mem_cons_of_mem _ hz))
theorem PrAt.dp {K : PySem.W.Frag} {H : Hp} {p : Addr} {qs : List (Addr × Nat × Nat)} (h : PrAt H p qs) : Dp K H (.ref p) (.list ((qs.map (·.2)).map dq)) := .lst (SqL.of h.l) (dp_allp qs h.t)
theorem can_dq {q : Nat × Nat} (h : q.1 < 128 ∧ q.2 < 128) : PyData.canLay0 (dq q) = true := by
  simp [dq, PyData.canLay0, PyData.canLayAll0, okS1 (show q.1 < 0x110000 by omega), okS1 (show q.2 < 0x110000 by omega)]
theorem dep_dq {q : Nat × Nat} : PyData.depth (dq q) = 1 := by
  simp [dq, PyData.depth, PyData.depthAll]
theorem shaped_dq {q : Nat × Nat} (h : q.1 < 128 ∧ q.2 < 128) : SeqAt.shaped (dq q) = true := by
  simp [SeqAt.shaped, can_dq h, dep_dq]
theorem can_dqs : ∀ l : List (Nat × Nat), (∀ q ∈ l, q.1 < 128 ∧ q.2 < 128) → PyData.canLayAll0 (l.map dq) = true
  | [], _ => by simp [PyData.canLayAll0]
  | q :: l, h => by simp [PyData.canLayAll0, can_dq (h q List.mem_cons_self), can_dqs l fun z hz => h z (List.mem_cons_of_mem _ hz)]
theorem dep_dqs : ∀ l : List (Nat × Nat), PyData.depthAll (l.map dq) ≤ 1
  | [] => by simp [PyData.depthAll]
  | q :: l => by
    have := dep_dqs l
    simp [PyData.depthAll, dep_dq]
    omega
theorem shaped_dqs {l : List (Nat × Nat)} (h : ∀ q ∈ l, q.1 < 128 ∧ q.2 < 128) : SeqAt.shaped (.list (l.map dq)) = true := by
  have := dep_dqs l
  simp [SeqAt.shaped, PyData.canLay0, PyData.depth, can_dqs l h]
  omega
theorem S1_eq (a b : Nat) : (S [a] == S [b]) = decide (a = b) := by
  rw [Bool.eq_iff_iff, beq_iff_eq, decide_eq_true_iff, S_inj]
  simp
theorem eqv_dq (a b : Nat × Nat) : PyData.eqv (dq a) (dq b) = decide (a = b) := by
  obtain ⟨a1, a2⟩ := a
  obtain ⟨b1, b2⟩ := b
  simp [dq, PyData.eqv, PyData.eqvAll, S1_eq]
theorem eqv_dqs : ∀ l m : List (Nat × Nat), PyData.eqvAll (l.map dq) (m.map dq) = decide (l = m)
  | [], [] => by simp [PyData.eqvAll]
  | [], _ :: _ => by simp [PyData.eqvAll]
  | _ :: _, [] => by simp [PyData.eqvAll]
  | a :: l, b :: m => by simp [PyData.eqvAll, eqv_dq, eqv_dqs l m]
theorem eqv_dql (l m : List (Nat × Nat)) : PyData.eqv (.list (l.map dq)) (.list (m.map dq)) = decide (l = m) := by
  show PyData.eqvAll _ _ = _
  exact eqv_dqs l m
theorem any_dq (l : List (Nat × Nat)) (q : Nat × Nat) : ((l.map dq).any fun z => PyData.eqv z (dq q)) = decide (q ∈ l) := by
  rw [List.any_map, Bool.eq_iff_iff, List.any_eq_true, decide_eq_true_iff]
  constructor
  · rintro ⟨x, hx, e⟩
    have e2 : PyData.eqv (dq x) (dq q) = true := e
    rw [eqv_dq, decide_eq_true_iff] at e2
    rw [← e2]
    exact hx
  · intro h
    exact ⟨q, h, show PyData.eqv (dq q) (dq q) = true by rw [eqv_dq, decide_eq_true_iff]⟩
theorem TbL.low {a : Ad} {H : Hp} {t al lp : Addr} {sg W : List Nat} {R : Rel} {qs : List (Addr × Nat × Nat)} (h : TbL a H t al sg W R lp qs) (g : SgOk sg) : ∀ q ∈ qs.map (·.2), q.1 < 128 ∧ q.2 < 128 := fun q hq => by
  rw [h.c] at hq
  obtain ⟨h1, h2, _⟩ := mem_can.mp hq
  exact ⟨g.c _ h1, g.c _ h2⟩
section
variable {P : Program} {w : World} {K : PySem.W.Frag} {mg : Str → Option Value} {base : Heap} {a : Ad} {d : Fd}
theorem isi_T (T : Fns K mg a d) {x dx : Addr} {fs : List (Str × V)} {H : Hp} {Q : VK} (h : H x = some (.ins a.cTable dx fs)) (k : Q (.bl true) H) : rIsi K [.ref x, .ref a.cTable] H Q := by
  refine ⟨_, _, _, _, true, rfl, .own _, .base (.ins h T.clT T.icT T.igO T.itO T.imT), ?_, k⟩
  show PySem.W.kitOne K (.ref a.cTable) (.ref a.cTable) = some true
  unfold PySem.W.kitOne
  rw [if_pos (beq_iff_eq.mpr rfl)]
theorem eq_al {H : Hp} {al2 al : Addr} {sg2 W2 sg W : List Nat} {Q : VK} (eqA : PySem.W.notFirst K a.cAlphabet (.ref a.cAlphabet) = true) (h1 : AlG a.cAlphabet H al2 sg2 W2) (h2 : AlG a.cAlphabet H al sg W) (k : Q (.bl (decide (Alike sg2 W2 sg W))) H) :
    rOwnI K a.cAlphabet (spEq a.cAlphabet) E0 (.ref al2) (.ref al) H Q := by
  obtain ⟨l2, v2, hal2, e1, e2⟩ := h1
  obtain ⟨l, v, hal, e3, e4⟩ := h2
  obtain ⟨dy, z2⟩ := id hal2
  obtain ⟨dz, z3⟩ := id hal
  refine ⟨al2, dy, _, al, a.cAlphabet, dz, _, rfl, rfl, z2, z3, eqA, al2, al, l2, v2, l, v, rfl, hal2, hal, ?_⟩
  rw [← alike_eq, e1, e2, e3, e4]
  exact k
def spGet (a : Ad) : Sp := fun vs H Q _ => ∃ (t al : Addr) (c : Nat) (sg W : List Nat) (R : Rel), vs = [.ref t, .str (S [c])] ∧ Tb a H t al sg W R ∧ SgOk sg ∧ c ∈ sg ∧ ∀ H', Same H H' → Q (.str (S (sg.filter (R c)))) H'
theorem scTGet : FnScope ["self", "sign", "told", "out"] ["self", "sign"] (defScope sTGet) := ⟨rfl, rfl, rfl, by decide +kernel, rfl, by decide +kernel, by decide +kernel⟩
theorem ok_get (T : Fns K mg a d) : FnOk P w K mg base (L2.CX P w) 3 a.aTGet d.dTGet ["self", "sign"] (spGet a) := by
  have GIsSign : FnOk P w K mg base CX0 1 a.aIsSign d.dIsSign ["self", "text"] (spIsSign a) := ok_isSign T
  have GUnknownSign : FnOk P w K mg base CX0 1 a.eUnk d.eUnk ["self", "sign"] (fun _ _ _ _ => False) := ⟨fun _ _ _ _ h => h.elim, fun _ _ _ _ _ _ _ _ _ _ _ _ _ h => h.elim⟩
  refine T.FTGet.okX scTGet (fun vs H Q E h => ?_) (fun cdv A outer s H vs Q E hr h => ?_)
  · obtain ⟨t, al, c, sg, W, R, rfl, _⟩ := h
    rfl
  · obtain ⟨t, al, c, sg, W, R, rfl, ⟨lp, qs, hT⟩, hsg, hc, k⟩ := h
    obtain ⟨⟨dx, ht⟩, hal, hp, ec⟩ := id hT
    obtain ⟨dxa, ll, vv, hi⟩ := hal.ins
    have clA := T.clA
    have clT := T.clT
    have nTa := T.nTa
    have nTp := T.nTp
    have hl5 := hsg.l
    refine ⟨_, ((pss_cons (ps_if (pt_not (pt_val (pe_meth (pe_fld (pv 0) rfl) T.clA T.mIsSign GIsSign (hr.mono (by decide)) T.bIsSign .nil pass0 (pa_cons (pv 1) pa_nil)))) (pss_one (ps_raise rfl (takes_of rfl rfl rfl rfl) (pmk_oex T.xUnknownSign.ox T.xUnknownSign.iC T.xUnknownSign.tI GUnknownSign (hr.mono (by decide)) T.xUnknownSign.bB .nil pass0 (by rfl) T.xUnknownSign.gB (pa_cons (pv 1) pa_nil)))) pss_nil)
      (pss_one (ps_ret (pe_join (pe_strS (l := []) (by decide +kernel)) (pe_lc (own := [("told", 2), ("out", 3)]) (g := (gTup K 2 (gCons (gName 2) (gCons (gName 3) gNil)))) (by rfl) scTGet.nd (pi_list (pe_fld (pv 0) rfl)) (blkOk_by (own := [("told", 2), ("out", 3)]) (N := ["self", "sign", "told", "out"]) (sc := defScope sTGet) (by decide +kernel)) (fun _ _ _ _ _ => (pg_tup rfl (pgs_cons (pg_name (i := 2) scTGet.nd rfl (Or.inl rfl)) (pgs_cons (pg_name (i := 3) scTGet.nd rfl (Or.inl rfl)) pgs_nil)))) (fun _ _ _ _ _ => (pts_one (pt_cmpR op_eq (pv 2) (pv 1) (nomark _)))) (fun _ _ _ _ _ => (pv 3)))))))), ?_⟩
    walk_at "go"
    refine ⟨al, c, sg, W, rfl, hal, hl5, ?_⟩
    rw [decide_eq_true hc]
    have hpl := hp.l
    walk_at "go"
    rename_i D hD
    refine lc_list (K := K) (a := lp) (xs := qs.map fun q => V.ref q.1) (fun i H' => H' D = some (.lst ((((qs.take i).map (·.2)).filter fun q => decide (q.1 = c)).map fun q => V.str (S [q.2]))) ∧ Same H H') ⟨upd_same, Same.upd_new hD⟩ (fun i H' _ h => SqL.of (h.2 _ _ hpl)) ?_ ?_
    · rintro i x H5 hi ⟨hD5, s5⟩
      rw [List.getElem?_map] at hi
      obtain ⟨q, hq, rfl⟩ := Option.map_eq_some_iff.mp hi
      have hqm := List.mem_of_getElem? hq
      have hil := (List.getElem?_eq_some_iff.mp hq).1
      have hqt := s5 _ _ (hp.t q hqm)
      have hq25 := hT.len hsg
      have e1 : ((qs.take (i + 1)).map (·.2)).filter (fun q => decide (q.1 = c)) = ((qs.take i).map (·.2)).filter (fun q => decide (q.1 = c)) ++ if decide (q.2.1 = c) = true then [q.2] else [] := by
        rw [List.take_add_one, hq, List.map_append, List.filter_append]
        show _ ++ List.filter _ [q.2] = _
        rw [List.filter_cons, List.filter_nil]
      have hlen : (((qs.take i).map (·.2)).filter fun q => decide (q.1 = c)).length ≤ 25 := by
        have h1 := List.length_filter_le (fun q : Nat × Nat => decide (q.1 = c)) ((qs.take i).map (·.2))
        rw [List.length_map, List.length_take] at h1
        omega
      walk_at "go"
      · rename_i e
        rw [if_pos (decide_eq_true e)] at e1
        refine ⟨by rw [List.length_map, sizeLine_eq]; omega, ?_, fun b o hb => ?_⟩
        · rw [upd_same, e1, List.map_append]
          rfl
        · rw [upd_ne (fun z => by rw [z, hD] at hb; cases hb)]
          exact s5 _ _ hb
      · rename_i e
        rw [if_neg (by simpa using e), List.append_nil] at e1
        rw [e1]
        exact ⟨hD5, s5⟩
    · rintro H5 ⟨hD5, s5⟩
      have e3 : ((canL sg R).filter fun q => decide (q.1 = c)).map (fun q => V.str (S [q.2])) = (sg.filter (R c)).map fun x => V.str (S [x]) := by
        rw [← can_row hsg.a hc, List.map_map]
        rfl
      rw [List.length_map, List.take_of_length_le (Nat.le_refl _), ec, e3] at hD5
      have hj := join_S (l := sg.filter (R c)) (by have := List.length_filter_le (R c) sg; omega)
      refine ⟨S [], D, (sg.filter (R c)).map fun x => S [x], rfl, rfl, .inl (SqL.of (by rw [hD5, List.map_map]; rfl)), hj.1, ?_⟩
      rw [hj.2]
      exact k H5 s5
def spLen (a : Ad) : Sp := fun vs H Q _ => ∃ (t al : Addr) (sg W : List Nat) (R : Rel), vs = [.ref t] ∧ Tb a H t al sg W R ∧ SgOk sg ∧ Q (.int ((canL sg R).length : Int)) H
theorem scTLen : FnScope ["self"] ["self"] (defScope sTLen) := ⟨rfl, rfl, rfl, by decide +kernel, rfl, by decide +kernel, by decide +kernel⟩
theorem ok_len (T : Fns K mg a d) : FnOk P w K mg base CX0 1 a.aTLen d.dTLen ["self"] (spLen a) := by
  refine T.FTLen.ok scTLen (fun vs H Q E h => ?_) (fun cdv A outer s H vs Q E hr h => ?_)
  · obtain ⟨t, al, sg, W, R, rfl, _⟩ := h
    rfl
  · obtain ⟨t, al, sg, W, R, rfl, ⟨lp, qs, hT⟩, hsg, k⟩ := h
    obtain ⟨⟨dx, ht⟩, hal, hp, ec⟩ := id hT
    have clT := T.clT
    have nTp := T.nTp
    have hpl := hp.l
    refine ⟨_, ((pss_one (ps_ret (pe_callB call_len_seq (by rfl) T.z_len (by decide +kernel) (pa_cons (pe_fld (pv 0) rfl) pa_nil))))), ?_⟩
    walk_at "go"
    have e : (canL sg R).length = qs.length := by rw [← ec, List.length_map]
    rw [List.length_map, ← e]
    exact k
def spPairsM (a : Ad) : Sp := fun vs H Q _ => ∃ (t al : Addr) (sg W : List Nat) (R : Rel), vs = [.ref t] ∧ Tb a H t al sg W R ∧ SgOk sg ∧ ∀ p ms H', PrAt H' p ms → ms.map (·.2) = canL sg R → Same H H' → Q (.ref p) H'
theorem scTPairs : FnScope ["self"] ["self"] (defScope sTPairs) := ⟨rfl, rfl, rfl, by decide +kernel, rfl, by decide +kernel, by decide +kernel⟩
theorem ok_pairsM (T : Fns K mg a d) : FnOk P w K mg base CX0 1 a.aTPairs d.dTPairs ["self"] (spPairsM a) := by
  refine T.FTPairs.ok scTPairs (fun vs H Q E h => ?_) (fun cdv A outer s H vs Q E hr h => ?_)
  · obtain ⟨t, al, sg, W, R, rfl, _⟩ := h
    rfl
  · obtain ⟨t, al, sg, W, R, rfl, ⟨lp, qs, hT⟩, hsg, k⟩ := h
    obtain ⟨⟨dx, ht⟩, hal, hp, ec⟩ := id hT
    have clT := T.clT
    have nTp := T.nTp
    have hpl := hp.l
    refine ⟨_, ((pss_one (ps_ret (pe_callTy call_list_of (by rfl) T.z_list (by decide +kernel) (pa_cons (pe_fld (pv 0) rfl) pa_nil))))), ?_⟩
    walk_at "go"
    rename_i p hpn
    have s1 : Same H (upd H p (.lst (qs.map fun q => V.ref q.1))) := Same.upd_new hpn
    exact k p qs _ ⟨upd_same, fun q hq => s1 _ _ (hp.t q hq)⟩ ec s1
def spInM (a : Ad) : Sp := fun vs H Q _ => ∃ (t al x : Addr) (q : Nat × Nat) (sg W : List Nat) (R : Rel), vs = [.ref t, .ref x] ∧ Tb a H t al sg W R ∧ SgOk sg ∧ H x = some (.tup [.str (S [q.1]), .str (S [q.2])]) ∧ q.1 < 128 ∧ q.2 < 128 ∧ Q (.bl (decide (q ∈ canL sg R))) H
theorem scTIn : FnScope ["self", "pair"] ["self", "pair"] (defScope sTIn) := ⟨rfl, rfl, rfl, by decide +kernel, rfl, by decide +kernel, by decide +kernel⟩
theorem ok_inM (T : Fns K mg a d) : FnOk P w K mg base CX0 2 a.aTIn d.dTIn ["self", "pair"] (spInM a) := by
  refine T.FTIn.ok scTIn (fun vs H Q E h => ?_) (fun cdv A outer s H vs Q E hr h => ?_)
  · obtain ⟨t, al, x, q, sg, W, R, rfl, _⟩ := h
    rfl
  · obtain ⟨t, al, x, q, sg, W, R, rfl, ⟨lp, qs, hT⟩, hsg, hx, q1, q2, k⟩ := h
    obtain ⟨⟨dx, ht⟩, hal, hp, ec⟩ := id hT
    have clT := T.clT
    have nTp := T.nTp
    have hpl := hp.l
    refine ⟨_, ((pss_one (ps_ret (pe_cmpR (op_inD hr.unitu) (pv 1) (pe_fld (pv 0) rfl) rfl)))), ?_⟩
    have hd := hp.dp (K := K)
    rw [ec] at hd
    walk_at "go"
    refine ⟨dq q, (canL sg R).map dq, dp_tup hx, hd, shaped_dq ⟨q1, q2⟩, shaped_dqs (by rw [← ec]; exact hT.low hsg), ?_⟩
    rw [any_dq]
    exact k
def spEqM (a : Ad) : Sp := fun vs H Q _ => ∃ (t al t2 al2 : Addr) (sg W sg2 W2 : List Nat) (A B : Rel), vs = [.ref t, .ref t2] ∧ Tb a H t al sg W A ∧ Tb a H t2 al2 sg2 W2 B ∧ SgOk sg ∧ SgOk sg2 ∧ Q (.bl (decide (Alike sg W sg2 W2) && decide (canL sg A = canL sg2 B))) H
theorem scTEq : FnScope ["self", "other"] ["self", "other"] (defScope sTEq) := ⟨rfl, rfl, rfl, by decide +kernel, rfl, by decide +kernel, by decide +kernel⟩
theorem ok_eqM (T : Fns K mg a d) (GAlEq : FnOk P w K mg base CX0 1 a.aAlEq d.dAlEq ["self", "other"] (spEq a.cAlphabet)) : FnOk P w K mg base CX0 2 a.aTEq d.dTEq ["self", "other"] (spEqM a) := by
  refine T.FTEq.ok scTEq (fun vs H Q E h => ?_) (fun cdv A outer s H vs Q E hr h => ?_)
  · obtain ⟨t, al, t2, al2, sg, W, sg2, W2, R, R2, rfl, _⟩ := h
    rfl
  · obtain ⟨t, al, t2, al2, sg, W, sg2, W2, R, R2, rfl, ⟨lp, qs, hT⟩, ⟨lp2, qs2, hT2⟩, hsg, hsg2, k⟩ := h
    obtain ⟨⟨dx, ht⟩, hal, hp, ec⟩ := id hT
    obtain ⟨⟨dx2, ht2⟩, hal2, hp2, ec2⟩ := id hT2
    have clT := T.clT
    have nTp := T.nTp
    have nTa := T.nTa
    refine ⟨_, ((pss_one (ps_ret (pe_and (pe_callB call_isi (by rfl) T.z_isinstance (by decide +kernel) (pa_cons (pv 1) (pa_cons (pe_glob (v := .ref a.cTable) (by rfl) T.gcTable rfl) pa_nil))) (pe_and (pe_cmpR (op_ownI (fun _ _ => rfl) T.mAlEq.at_ T.mAlEq.fn GAlEq (hr.mono (by decide)) T.bAlEq pass0) (pe_fld (pv 0) rfl) (pe_fld (pv 1) rfl) (nomark _)) (pe_one (pe_cmpR (op_eqD hr.units) (pe_fld (pv 0) rfl) (pe_fld (pv 1) rfl) (nomark _)))))))), ?_⟩
    walk_at "go"
    refine isi_T T ht2 ?_
    walk_at "go"
    refine eq_al T.eqA hal hal2 ⟨_, rfl, ?_⟩
    by_cases e : Alike sg W sg2 W2
    · rw [decide_eq_true e] at k ⊢
      rw [Bool.true_and] at k
      walk_at "go"
      have hd1 := hp.dp (K := K)
      have hd2 := hp2.dp (K := K)
      refine ⟨_, _, hd1, hd2, shaped_dqs (hT.low hsg), shaped_dqs (hT2.low hsg2), ?_⟩
      rw [eqv_dql, ec, ec2]
      exact k
    · rw [decide_eq_false e] at k ⊢
      rw [Bool.false_and] at k
      walk_at "go"
      exact k
end
end
section
set_option Elab.async false
set_option linter.all false
set_option maxRecDepth 100000
set_option maxHeartbeats 4000000
open PySem PySem.Spec PyProof.Rows L2 NSet

local macro_rules | `(tactic| walk_at "side") => `(tactic| exact .inl (by assumption))
local macro_rules | `(tactic| walk_at "go1") => `(tactic| (with_reducible refine iGTup (by assumption) rfl ?_))
local macro_rules | `(tactic| walk_at "go1") => `(tactic| (with_reducible refine iGCons ?_))
local macro_rules | `(tactic| walk_at "go1") => `(tactic| (with_reducible refine iGNil ?_))
local macro_rules | `(tactic| walk_at "go1") => `(tactic| (with_reducible refine iMakeV ?_))
local macro_rules | `(tactic| walk_at "go1") => `(tactic| (with_reducible refine iMakeD ?_))
local macro_rules | `(tactic| walk_at "go1") => `(tactic| (with_reducible refine iLc2S ?_))
local macro_rules | `(tactic| walk_at "go1") => `(tactic| (with_reducible refine iLc2L ?_))
local macro_rules | `(tactic| walk_at "go1") => `(tactic| (with_reducible refine iIStr ?_))

theorem iIxI {C : Addr} {sp : Sp} {E : L2.St → XK} {ta tb : TE} {σ : L2.St} {H : Hp} {Q : VK} (h : ta σ H fun x H1 => tb σ H1 fun y H2 => ∃ a dx fs, x = .ref a ∧ H2 a = some (.ins C dx fs) ∧ sp [x, y] H2 Q (E σ)) : tIxI C sp E ta tb σ H Q := h
local macro_rules | `(tactic| walk_at "go1") => `(tactic| (with_reducible refine iIxI ?_))
section
variable {P : Program} {w : World} {K : PySem.W.Frag} {mg : Str → Option Value} {base : Heap} {a : Ad} {d : Fd}
theorem NewP.same {H1 H H' : Hp} {D : Addr} {l : List (Nat × Nat)} (h : NewP H1 D l H) (s : Same H H') : NewP H1 D l H' := by
  obtain ⟨ms, h1, h2, h3⟩ := h
  exact ⟨ms, h1.same s, h2, Vk.Same.trans h3 s⟩
theorem rel_of {sg : List Nat} {R : Rel} {l : List (Nat × Nat)} (hc : l = canL sg R) {s t : Nat} (hs : s ∈ sg) (ht : t ∈ sg) : (s, t) ∈ l ↔ R s t = true := by
  rw [hc, mem_can]
  exact ⟨fun h => h.2.2, fun h => ⟨hs, ht, h⟩⟩
def mulL (sg : List Nat) (B : Rel) (l : List (Nat × Nat)) : List (Nat × Nat) := l.flatMap fun q => (sg.filter (B q.2)).map fun o => (q.1, o)
theorem mul_len (sg : List Nat) (B : Rel) : ∀ l : List (Nat × Nat), (mulL sg B l).length ≤ l.length * sg.length
  | [] => by simp [mulL]
  | q :: l => by
    have := mul_len sg B l
    have h2 := List.length_filter_le (B q.2) sg
    unfold mulL at this ⊢
    rw [List.flatMap_cons, List.length_append, List.length_map, List.length_cons, Nat.succ_mul]
    omega
theorem mem_mul {sg : List Nat} {B : Rel} {l : List (Nat × Nat)} {s u : Nat} : (s, u) ∈ mulL sg B l ↔ ∃ m, (s, m) ∈ l ∧ u ∈ sg ∧ B m u = true := by
  unfold mulL
  rw [List.mem_flatMap]
  constructor
  · rintro ⟨q, hq, h⟩
    obtain ⟨o, ho, e⟩ := List.mem_map.mp h
    cases e
    obtain ⟨h1, h2⟩ := List.mem_filter.mp ho
    exact ⟨q.2, hq, h1, h2⟩
  · rintro ⟨m, h1, h2, h3⟩
    exact ⟨(s, m), h1, List.mem_map.mpr ⟨u, List.mem_filter.mpr ⟨h2, h3⟩, rfl⟩⟩
def spTMul (a : Ad) : Sp := fun vs H Q E => ∃ (t al t2 al2 : Addr) (sg W sg2 W2 : List Nat) (A B : Rel), vs = [.ref t, .ref t2] ∧ Tb a H t al sg W A ∧ Tb a H t2 al2 sg2 W2 B ∧ SgOk sg ∧ SgOk sg2 ∧
  (Alike sg W sg2 W2 → ∀ r H', Same H H' → Tb a H' r al sg W (compR sg A B) → Q (.ref r) H') ∧ (¬ Alike sg W sg2 W2 → ∀ H', Same H H' → E (.ref a.cMixed) none H')
theorem scTMul : FnScope ["self", "other", "told", "mid", "out"] ["self", "other"] (defScope sTMul) := ⟨rfl, rfl, rfl, by decide +kernel, rfl, by decide +kernel, by decide +kernel⟩
theorem ok_mul (T : Fns K mg a d) (GAlEq : FnOk P w K mg base CX0 1 a.aAlEq d.dAlEq ["self", "other"] (spEq a.cAlphabet)) (MT : Mk K a.cTable a.aTInit) (bTInit : Binds K d.dTInit ["self", "alphabet", "pairs"] []) : FnOk P w K mg base (L2.CX P w) 6 a.aTMul d.dTMul ["self", "other"] (spTMul a) := by
  have GTInit := ok_init (P := P) (w := w) (base := base) T
  have GPCheckAlphabets := ok_ckA (P := P) (w := w) (base := base) T GAlEq
  have GTGet := ok_get (P := P) (w := w) (base := base) T
  refine T.FTMul.okX scTMul (fun vs H Q E h => ?_) (fun cdv A outer s H vs Q E hr h => ?_)
  · obtain ⟨t, al, t2, al2, sg, W, sg2, W2, R, R2, rfl, _⟩ := h
    rfl
  · obtain ⟨t, al, t2, al2, sg, W, sg2, W2, R, R2, rfl, hT0, hT20, hsg, hsg2, k1, k2⟩ := h
    obtain ⟨lp, qs, hT⟩ := id hT0
    obtain ⟨lp2, qs2, hT2⟩ := id hT20
    obtain ⟨⟨dx, ht⟩, hal, hp, ec⟩ := id hT
    obtain ⟨⟨dx2, ht2⟩, hal2, hp2, ec2⟩ := id hT2
    have clT := T.clT
    have nTp := T.nTp
    have nTa := T.nTa
    have hq25 := hT.len hsg
    have hq25b := hT2.len hsg2
    refine ⟨_, ((pss_cons (ps_expr (pe_call GPCheckAlphabets (hr.mono (by decide)) (by rfl) T.gPCheckAlphabets T.FPCheckAlphabets.kp T.bPCheckAlphabets .nil (passes_call (takes_of rfl rfl rfl rfl) (fun _ _ _ _ h => h)) (pa_cons (pe_lst (pa_cons (pv 0) (pa_cons (pv 1) pa_nil))) pa_nil)))
      (pss_one (ps_ret (pe_make MT GTInit (hr.mono (by decide)) (by rfl) T.gcTable bTInit .nil (passes_call (takes_of rfl rfl rfl rfl) (fun _ _ _ _ h => h)) (pa_cons (pe_fld (pv 0) rfl) (pa_cons (pe_lc2 (own := [("told", 2), ("mid", 3), ("out", 4)]) (vs1 := [4]) (g := (gTup K 2 (gCons (gName 2) (gCons (gName 3) gNil)))) (g1 := (gName 4)) (by rfl) scTMul.nd (pi_list (pe_fld (pv 0) rfl)) (blkOk_by (own := [("told", 2), ("mid", 3), ("out", 4)]) (N := ["self", "other", "told", "mid", "out"]) (sc := defScope sTMul) (by decide +kernel)) (by decide) (fun _ _ _ _ _ => (pg_tup rfl (pgs_cons (pg_name (i := 2) scTMul.nd rfl (Or.inl rfl)) (pgs_cons (pg_name (i := 3) scTMul.nd rfl (Or.inl rfl)) pgs_nil)))) (fun _ _ _ _ _ => pts_nil) (fun _ _ _ _ _ => (pi_str (pe_ixI T.mTGet.at_ T.fnTGet T.mTGet.fn (GTGet.raw T.bTGet .nil) (hr.mono (by decide)) (fun σ pins H s e s' => passE pins σ H s e s') (pv 1) (pv 3) (fun _ _ => rfl)))) (fun _ _ _ _ _ => (pg_name (i := 4) scTMul.nd rfl (Or.inl rfl))) (fun _ _ _ _ _ => pts_nil) (fun _ _ _ _ _ => (pe_tup (pa_cons (pv 2) (pa_cons (pv 4) pa_nil))))) pa_nil))))))), ?_⟩
    walk_at "go"
    rename_i cp hcp
    have s0 : Same H (upd H cp (.lst [.ref t, .ref t2])) := Same.upd_new hcp
    have hcp1 : (upd H cp (.lst [.ref t, .ref t2])) cp = some (.lst [.ref t, .ref t2]) := upd_same
    generalize upd H cp (.lst [.ref t, .ref t2]) = H1 at s0 hcp1 ⊢
    refine ⟨cp, t, t2, al, al2, sg, W, sg2, W2, R, R2, rfl, hcp1, hT0.same s0, hT20.same s0, fun ek => ?_, fun ek H' s => k2 ek H' (Vk.Same.trans s0 s)⟩
    obtain ⟨rfl, rfl⟩ := ek
    have k1 := k1 ⟨rfl, rfl⟩
    have hp1 := hp.same s0
    have hp21 := hp2.same s0
    have ht1 := s0 _ _ ht
    have ht21 := s0 _ _ ht2
    have hal1 := hal.same s0
    have hpl := hp1.l
    have hpl2 := hp21.l
    have hT1 := hT.same s0
    have hT21 := hT2.same s0
    walk_at "go"
    rename_i D hD
    have hl5 := hsg.l
    have mlen : ∀ i, (mulL sg R2 ((qs.map (·.2)).take i)).length ≤ 125 := fun i => by
      have h1 := mul_len sg R2 ((qs.map (·.2)).take i)
      rw [List.length_take, List.length_map] at h1
      have h2 := Nat.mul_le_mul (show min i qs.length ≤ 25 by omega) hl5
      omega
    refine lc2_it (walk_list (K := K) (a := lp) (xs := qs.map fun q => V.ref q.1)) (fun i H' => NewP H1 D (mulL sg R2 ((qs.map (·.2)).take i)) H') (NewP.start hD) (fun i H' _ h => SqL.of (by obtain ⟨_, _, _, s⟩ := h; exact s _ _ hpl)) ?_ (fun H' hP => ?_)
    · rintro i x H5 H6 hii hP ⟨rfl, hi⟩
      rw [List.getElem?_map] at hi
      obtain ⟨q, hq, rfl⟩ := Option.map_eq_some_iff.mp hi
      have hqm := List.mem_of_getElem? hq
      obtain ⟨ms0, hms0, ems0, s50⟩ := id hP
      have hqt := s50 _ _ (hp1.t q hqm)
      have ht25 := s50 _ _ ht21
      walk_at "go"
      refine ⟨t2, al2, q.2.2, sg, W, R2, rfl, ⟨lp2, qs2, hT21.same s50⟩, hsg, (hT.mem hqm).2.1, fun H7 s7 => ?_⟩
      have hP7 := hP.same s7
      walk_at "go"
      refine inner_it walk_S (fun j H' => NewP H1 D (mulL sg R2 ((qs.map (·.2)).take i) ++ ((sg.filter (R2 q.2.2)).take j).map fun o => (q.2.1, o)) H') (by rw [List.take_zero, List.map_nil, List.append_nil]; exact hP7) (fun _ _ _ _ => trivial) ?_ (fun H' hP2 => ?_)
      · rintro j x H8 H9 hj hP2 ⟨rfl, c2, hc2, rfl⟩
        obtain ⟨ms, hms, ems, s5⟩ := id hP2
        walk_at "go"
        rename_i pp hpp
        exact newp_put (l' := (mulL sg R2 ((qs.map (·.2)).take i) ++ ((sg.filter (R2 q.2.2)).take (j + 1)).map fun o => (q.2.1, o))) hms ems s5 hD hpp (by
          have h1 := mlen i
          have h2 := List.length_filter_le (R2 q.2.2) sg
          rw [List.length_append, List.length_map, List.length_take]
          omega) q.2.1 c2 (by
          rw [List.take_add_one, hc2, List.map_append, ← List.append_assoc]
          rfl)
      · rw [List.take_length] at hP2
        have e : mulL sg R2 ((qs.map (·.2)).take (i + 1)) = mulL sg R2 ((qs.map (·.2)).take i) ++ (sg.filter (R2 q.2.2)).map fun o => (q.2.1, o) := by
          unfold mulL
          rw [List.take_add_one, List.getElem?_map, hq, List.flatMap_append]
          congr 1
          exact List.append_nil _
        rw [e]
        exact hP2
    · obtain ⟨ms, hms, ems, s5⟩ := hP
      have hm125 := mlen (qs.map fun q => V.ref q.1).length
      rw [← ems, List.length_map] at hm125
      rw [List.length_map, List.take_of_length_le (by rw [List.length_map]; exact Nat.le_refl _)] at ems
      walk_at "go"
      intro x dx' hx hdx hn
      refine iMk (qs := ms) hx hdx hn (hal1.same s5) hsg hms (by omega) (fun q hq => ?_) fun lp' ns H' h1 h2 h3 => k1 _ _ (Vk.Same.trans s0 (Vk.Same.trans s5 h2)) (Tb.agr ⟨lp', ns, h3⟩ hsg.a fun s hs u hu => ?_)
      · have m := mem_ms ems hq
        obtain ⟨z, m1, m2, _⟩ := mem_mul.mp m
        rw [ec] at m1
        exact ⟨(mem_can.mp m1).1, m2⟩
      · unfold relP relQ compR
        rw [ems, Bool.eq_iff_iff, decide_eq_true_iff, mem_mul, List.any_eq_true]
        constructor
        · rintro ⟨z, m1, _, m3⟩
          have m4 := m1
          rw [ec] at m4
          have hz := (mem_can.mp m4).2.1
          exact ⟨z, hz, by rw [Bool.and_eq_true]; exact ⟨(rel_of ec hs hz).mp m1, m3⟩⟩
        · rintro ⟨z, hz, e⟩
          rw [Bool.and_eq_true] at e
          exact ⟨z, (rel_of ec hs hz).mpr e.1, hu, e.2⟩
def spTInv (a : Ad) : Sp := fun vs H Q _ => ∃ (t al : Addr) (sg W : List Nat) (A : Rel), vs = [.ref t] ∧ Tb a H t al sg W A ∧ SgOk sg ∧ ∀ r H', Same H H' → Tb a H' r al sg W (invR A) → Q (.ref r) H'
theorem scTInv : FnScope ["self", "told", "out"] ["self"] (defScope sTInv) := ⟨rfl, rfl, rfl, by decide +kernel, rfl, by decide +kernel, by decide +kernel⟩
theorem ok_inv (T : Fns K mg a d) (MT : Mk K a.cTable a.aTInit) (bTInit : Binds K d.dTInit ["self", "alphabet", "pairs"] []) : FnOk P w K mg base (L2.CX P w) 6 a.aTInv d.dTInv ["self"] (spTInv a) := by
  have GTInit := ok_init (P := P) (w := w) (base := base) T
  refine T.FTInv.okX scTInv (fun vs H Q E h => ?_) (fun cdv A outer s H vs Q E hr h => ?_)
  · obtain ⟨t, al, sg, W, R, rfl, _⟩ := h
    rfl
  · obtain ⟨t, al, sg, W, R, rfl, ⟨lp, qs, hT⟩, hsg, k⟩ := h
    obtain ⟨⟨dx, ht⟩, hal, hp, ec⟩ := id hT
    have clT := T.clT
    have nTp := T.nTp
    have nTa := T.nTa
    have hq25 := hT.len hsg
    have hpl := hp.l
    refine ⟨_, ((pss_one (ps_ret (pe_make MT GTInit (hr.mono (by decide)) (by rfl) T.gcTable bTInit .nil (passes_call (takes_of rfl rfl rfl rfl) (fun _ _ _ _ h => h)) (pa_cons (pe_fld (pv 0) rfl) (pa_cons (pe_lc (own := [("told", 1), ("out", 2)]) (g := (gTup K 2 (gCons (gName 1) (gCons (gName 2) gNil)))) (by rfl) scTInv.nd (pi_list (pe_fld (pv 0) rfl)) (blkOk_by (own := [("told", 1), ("out", 2)]) (N := ["self", "told", "out"]) (sc := defScope sTInv) (by decide +kernel)) (fun _ _ _ _ _ => (pg_tup rfl (pgs_cons (pg_name (i := 1) scTInv.nd rfl (Or.inl rfl)) (pgs_cons (pg_name (i := 2) scTInv.nd rfl (Or.inl rfl)) pgs_nil)))) (fun _ _ _ _ _ => pts_nil) (fun _ _ _ _ _ => (pe_tup (pa_cons (pv 2) (pa_cons (pv 1) pa_nil))))) pa_nil)))))), ?_⟩
    walk_at "go"
    rename_i D hD
    refine lc_list (K := K) (a := lp) (xs := qs.map fun q => V.ref q.1) (fun i H' => NewP H D (((qs.map (·.2)).take i).map fun q => (q.2, q.1)) H') (NewP.start hD) (fun i H' _ h => SqL.of (by obtain ⟨_, _, _, s⟩ := h; exact s _ _ hpl)) ?_ ?_
    · rintro i x H5 hi hP
      rw [List.getElem?_map] at hi
      obtain ⟨q, hq, rfl⟩ := Option.map_eq_some_iff.mp hi
      have hqm := List.mem_of_getElem? hq
      have hil := (List.getElem?_eq_some_iff.mp hq).1
      obtain ⟨ms, hms, ems, s5⟩ := id hP
      have hqt := s5 _ _ (hp.t q hqm)
      walk_at "go"
      rename_i pp hpp
      exact newp_put (l' := ((qs.map (·.2)).take (i + 1)).map fun q => (q.2, q.1)) hms ems s5 hD hpp (by rw [List.length_map, List.length_take]; omega) q.2.2 q.2.1 (by
        rw [List.take_add_one, List.getElem?_map, hq, List.map_append]
        rfl)
    · rintro H5 ⟨ms, hms, ems, s5⟩
      rw [List.length_map, List.take_of_length_le (by rw [List.length_map]; exact Nat.le_refl _)] at ems
      walk_at "go"
      intro x dx' hx hdx hn
      have hlen : ms.length = qs.length := by
        have := congrArg List.length ems
        rwa [List.length_map, List.length_map, List.length_map] at this
      refine iMk (qs := ms) hx hdx hn (hal.same s5) hsg hms (by omega) (fun q hq => ?_) fun lp' ns H' h1 h2 h3 => k _ _ (Vk.Same.trans s5 h2) (Tb.agr ⟨lp', ns, h3⟩ hsg.a fun s hs u hu => ?_)
      · have m := mem_ms ems hq
        obtain ⟨z, m1, e⟩ := List.mem_map.mp m
        rw [ec] at m1
        rw [← e]
        exact ⟨(mem_can.mp m1).2.1, (mem_can.mp m1).1⟩
      · unfold relP relQ invR
        rw [ems, Bool.eq_iff_iff, decide_eq_true_iff, ← rel_of ec hu hs, List.mem_map]
        constructor
        · rintro ⟨z, m1, e⟩
          cases e
          exact m1
        · intro m
          exact ⟨(u, s), m, rfl⟩
end
end
section
set_option Elab.async false
set_option linter.all false
set_option maxRecDepth 100000
set_option maxHeartbeats 4000000
open PySem PySem.Spec PyProof.Rows L2 NSet

local macro_rules | `(tactic| walk_at "side") => `(tactic| exact .inl (by assumption))
local macro_rules | `(tactic| walk_at "go1") => `(tactic| (with_reducible refine iGTup (by assumption) rfl ?_))
local macro_rules | `(tactic| walk_at "go1") => `(tactic| (with_reducible refine iGCons ?_))
local macro_rules | `(tactic| walk_at "go1") => `(tactic| (with_reducible refine iGNil ?_))
local macro_rules | `(tactic| walk_at "go1") => `(tactic| (with_reducible refine iMakeV ?_))
local macro_rules | `(tactic| walk_at "go1") => `(tactic| (with_reducible refine iMakeD ?_))
local macro_rules | `(tactic| walk_at "go1") => `(tactic| (with_reducible refine iLc2S ?_))
local macro_rules | `(tactic| walk_at "go1") => `(tactic| (with_reducible refine iLc2L ?_))
local macro_rules | `(tactic| walk_at "go1") => `(tactic| (with_reducible refine iIStr ?_))
local macro_rules | `(tactic| walk_at "go1") => `(tactic| (with_reducible refine iIxI ?_))

section
variable {P : Program} {w : World} {K : PySem.W.Frag} {mg : Str → Option Value} {base : Heap} {a : Ad} {d : Fd}
theorem cut63 (xs : List Int) : ∃ ys : List Int, cutV (xs.map V.int) none (some 63) = ys.map V.int ∧ ys.length ≤ 63 := by
  unfold cutV
  rw [← List.map_drop, ← List.map_take]
  refine ⟨_, rfl, ?_⟩
  rw [List.length_take]
  have : HT.sIx (xs.map V.int).length (xs.map V.int).length (some 63) ≤ 63 := by
    unfold HT.sIx
    simp
    omega
  omega
def spBag (K : PySem.W.Frag) : Sp := fun vs H Q _ => ∃ (s : Addr) (xs : List Int), vs = [.ref s] ∧ SqL K H s (xs.map V.int) ∧ xs.length ≤ 3000 ∧ ∀ (b g u : Addr) (H' : Hp), H b = none → H g = none → H u = none → BagB H' b g u → Same H H' → Q (.ref b) H'
theorem scBag : FnScope ["_law_script", "_law_great", "_law_cell", "_law_small"] ["_law_script"] (defScope sBag) := ⟨rfl, rfl, rfl, by decide +kernel, rfl, by decide +kernel, by decide +kernel⟩
theorem ok_bag (T : Fns K mg a d) : FnOk P w K mg base CX0 1 a.aBag d.dBag ["_law_script"] (spBag K) := by
  refine T.FBag.ok scBag (fun vs H Q E h => ?_) (fun cdv A outer s H vs Q E hr h => ?_)
  · obtain ⟨s, xs, rfl, _⟩ := h
    rfl
  · obtain ⟨sc, xs, rfl, hs, hl, k⟩ := h
    refine ⟨_, ((pss_cons (ps_setLc (i := 1) (own := [("_law_cell", 2)]) (g := gName 2) (by rfl) scBag.nd rfl rfl (by rfl) (pi_list (pe_slice sl_list (pv 0) po_none (po_some pe_int))) (blkOk_by (own := [("_law_cell", 2)]) (N := ["_law_script", "_law_great", "_law_cell", "_law_small"]) (sc := defScope sBag) (by decide +kernel)) (fun _ _ _ _ _ => pg_name (i := 2) scBag.nd rfl (Or.inl rfl)) (fun _ _ _ _ _ => (pts_one (pt_cmpR op_gt (pv 2) (pe_op op_pow pe_int pe_int) (nomark _)))) (fun _ _ _ _ _ => (pe_op op_sub (pe_callTy call_int1 (by rfl) T.z_int (by decide +kernel) (pa_cons (pv 2) pa_nil)) (pe_op op_pow pe_int pe_int))))
      (pss_cons (ps_setLc (i := 3) (own := [("_law_cell", 2)]) (g := gName 2) (by rfl) scBag.nd rfl rfl (by rfl) (pi_list (pe_slice sl_list (pv 0) po_none (po_some pe_int))) (blkOk_by (own := [("_law_cell", 2)]) (N := ["_law_script", "_law_great", "_law_cell", "_law_small"]) (sc := defScope sBag) (by decide +kernel)) (fun _ _ _ _ _ => pg_name (i := 2) scBag.nd rfl (Or.inl rfl)) (fun _ _ _ _ _ => (pts_one (pt_cmpR op_le (pv 2) (pe_op op_pow pe_int pe_int) (nomark _)))) (fun _ _ _ _ _ => (pe_op op_mod (pe_callTy call_int1 (by rfl) T.z_int (by decide +kernel) (pa_cons (pv 2) pa_nil)) pe_int)))
      (pss_one (ps_ret (pe_lst (pa_cons (pv 1) (pa_cons (pv 3) (pa_cons pe_int (pa_cons pe_int pa_nil)))))))))), ?_⟩
    walk_at "go"
    rename_i ps hps D hD
    obtain ⟨ys, hc, hy⟩ := cut63 xs
    rw [hc] at hD ⊢
    have s1 : Same H (upd H ps (.lst (ys.map V.int))) := Same.upd_new hps
    have h1 : (upd H ps (.lst (ys.map V.int))) ps = some (.lst (ys.map V.int)) := upd_same
    generalize upd H ps (.lst (ys.map V.int)) = H1 at s1 h1 hD ⊢
    refine lc_list (K := K) (a := ps) (xs := ys.map V.int) (fun i H' => ∃ gl : List Int, H' D = some (.lst (gl.map V.int)) ∧ gl.length ≤ i ∧ Same H1 H') ⟨[], upd_same, Nat.le_refl _, Same.upd_new hD⟩ (fun i H' _ h => SqL.of (by obtain ⟨_, _, _, s⟩ := h; exact s _ _ h1)) ?_ ?_
    · rintro i x H5 hi ⟨gl, hgl, hll, s5⟩
      rw [List.getElem?_map] at hi
      obtain ⟨z, hz, rfl⟩ := Option.map_eq_some_iff.mp hi
      have hil := (List.getElem?_eq_some_iff.mp hz).1
      walk_at "go"
      · refine ⟨by rw [List.length_map, sizeLine_eq]; omega, gl ++ [z - 10 ^ Int.toNat 18], by rw [upd_same, List.map_append]; rfl, by rw [List.length_append]; simpa using hll, fun b o hb => ?_⟩
        rw [upd_ne (fun e => by rw [e, hD] at hb; cases hb)]
        exact s5 _ _ hb
      · exact s5
    · rintro H5 ⟨gl, hgl, hll, s5⟩
      rw [List.length_map] at hll
      have hs5 := SqL.same hs (Vk.Same.trans s1 s5)
      walk_at "go"
      rename_i ps2 hps2 D2 hD2
      obtain ⟨ys2, hc2, hy2⟩ := cut63 xs
      rw [hc2] at hD2 ⊢
      have s6 : Same H5 (upd H5 ps2 (.lst (ys2.map V.int))) := Same.upd_new hps2
      have h6 : (upd H5 ps2 (.lst (ys2.map V.int))) ps2 = some (.lst (ys2.map V.int)) := upd_same
      generalize upd H5 ps2 (.lst (ys2.map V.int)) = H6 at s6 h6 hD2 ⊢
      refine lc_list (K := K) (a := ps2) (xs := ys2.map V.int) (fun i H' => ∃ sl : List Int, H' D2 = some (.lst (sl.map V.int)) ∧ sl.length ≤ i ∧ Same H6 H') ⟨[], upd_same, Nat.le_refl _, Same.upd_new hD2⟩ (fun i H' _ h => SqL.of (by obtain ⟨_, _, _, s⟩ := h; exact s _ _ h6)) ?_ ?_
      · rintro i x H7 hi ⟨sl, hsl, hsll, s7⟩
        rw [List.getElem?_map] at hi
        obtain ⟨z, hz, rfl⟩ := Option.map_eq_some_iff.mp hi
        have hil := (List.getElem?_eq_some_iff.mp hz).1
        walk_at "go"
        · refine ⟨by rw [List.length_map, sizeLine_eq]; omega, sl ++ [z % 2147483647], by rw [upd_same, List.map_append]; rfl, by rw [List.length_append]; simpa using hsll, fun b o hb => ?_⟩
          rw [upd_ne (fun e => by rw [e, hD2] at hb; cases hb)]
          exact s7 _ _ hb
        · exact s7
      · rintro H7 ⟨sl, hsl, hsll, s7⟩
        rw [List.length_map] at hsll
        have hg7 := s7 _ _ (s6 _ _ hgl)
        have hDD : D ≠ D2 := fun e => by
          rw [← e, s6 _ _ hgl] at hD2
          cases hD2
        have s17 := Vk.Same.trans s5 (Vk.Same.trans s6 s7)
        walk_at "go"
        rename_i b hb
        have nb1 : b ≠ D := (ne_of_none hg7 hb).symm
        have nb2 : b ≠ D2 := (ne_of_none hsl hb).symm
        have s07 := Vk.Same.trans s1 s17
        exact k b D D2 _ (Same.free s07 hb) (Same.free s1 hD) (Same.free (Vk.Same.trans s1 (Vk.Same.trans s5 s6)) hD2) ⟨gl, sl, 0, 11, upd_same, by rw [upd_ne nb1.symm]; exact hg7, by rw [upd_ne nb2.symm]; exact hsl, nb1, nb2, hDD, by omega, by omega⟩ (Vk.Same.trans s07 (Same.upd_new hb))
def spSigns : Sp := fun vs H Q _ => ∃ (l : List Nat), vs = [.str (S l)] ∧ l.length ≤ 4 ∧ ∀ H', Same H H' → Q (.str (S (45 :: srtL l))) H'
theorem scSigns : FnScope ["_law_letters", "_law_one"] ["_law_letters"] (defScope sSigns) := ⟨rfl, rfl, rfl, by decide +kernel, rfl, by decide +kernel, by decide +kernel⟩
theorem ok_signs (T : Fns K mg a d) : FnOk P w K mg base CX0 1 a.aSigns d.dSigns ["_law_letters"] spSigns := by
  refine T.FSigns.ok scSigns (fun vs H Q E h => ?_) (fun cdv A outer s H vs Q E hr h => ?_)
  · obtain ⟨l, rfl, _⟩ := h
    rfl
  · obtain ⟨l, rfl, hl, k⟩ := h
    refine ⟨_, ((pss_one (ps_ret (pe_op op_addS (pe_strS (l := [45]) (by decide +kernel)) (pe_join (pe_strS (l := []) (by decide +kernel)) (pe_callB cr_sortedS (by rfl) T.z_sorted (by decide +kernel) (pa_cons (pe_lc (own := [("_law_one", 1)]) (g := gName 1) (by rfl) scSigns.nd (pi_str (pv 0)) (blkOk_by (own := [("_law_one", 1)]) (N := ["_law_letters", "_law_one"]) (sc := defScope sSigns) (by decide +kernel)) (fun _ _ _ _ _ => pg_name (i := 1) scSigns.nd rfl (Or.inl rfl)) (fun _ _ _ _ _ => pts_nil) (fun _ _ _ _ _ => (pe_callTy SkE.call_str_str (by rfl) T.z_str (by decide +kernel) (pa_cons (pv 1) pa_nil)))) pa_nil))))))), ?_⟩
    walk_at "go"
    rename_i D hD
    refine lcg_S (fun i H' => H' D = some (.lst ((l.take i).map fun c => V.str (S [c]))) ∧ Same H H') ⟨upd_same, Same.upd_new hD⟩ (fun _ => rfl) (fun i c H' hc hP => ?_) (fun H' hP => ?_)
    · have hil := (List.getElem?_eq_some_iff.mp hc).1
      obtain ⟨h1, s1⟩ := hP
      walk_at "go"
      refine ⟨by rw [List.length_map, List.length_take, sizeLine_eq]; omega, ?_, fun b o hb => ?_⟩
      · rw [upd_same, List.take_add_one, hc, List.map_append]
        rfl
      · rw [upd_ne (fun e => by rw [e, hD] at hb; cases hb)]
        exact s1 _ _ hb
    · obtain ⟨h1, s1⟩ := hP
      rw [List.take_length] at h1
      walk_at "go"
      refine ⟨D, l.map fun c => S [c], rfl, SqL.of (by rw [h1, List.map_map]; rfl), by rw [List.length_map]; omega, fun ys q pm so hq => ?_⟩
      have e := sorted_signs pm so
      subst e
      have hj := join_S (l := srtL l) (by rw [srtL_len]; omega)
      refine ⟨S [], q, (srtL l).map fun c => S [c], rfl, rfl, .inl (SqL.of upd_same), hj.1, ?_⟩
      rw [hj.2]
      have s2 : Same H (upd H' q (.lst (((srtL l).map fun c => S [c]).map V.str))) := Vk.Same.trans s1 (Same.upd_new hq)
      generalize upd H' q (.lst (((srtL l).map fun c => S [c]).map V.str)) = H2 at s2 ⊢
      exact ⟨[45], srtL l, rfl, rfl, by rw [srtL_len]; show 1 + _ ≤ _; omega, k H2 s2⟩
def spOuts : Sp := fun vs H Q _ => ∃ (sg : List Nat) (p : Addr) (qs : List (Addr × Nat × Nat)), vs = [.str (S sg), .ref p] ∧ SgOk sg ∧ PrAt H p qs ∧ qs.length ≤ 200 ∧ (∀ q ∈ qs, q.2.1 ∈ sg ∧ q.2.2 ∈ sg) ∧ ∀ r H', H r = none → Same H H' → RowAt H' r sg (relP qs) → Q (.ref r) H'
theorem scOuts : FnScope ["_law_signs_here", "_law_pairs_here", "_law_rows", "_law_told_here", "_law_out"] ["_law_signs_here", "_law_pairs_here"] (defScope sOuts) := ⟨rfl, rfl, rfl, by decide +kernel, rfl, by decide +kernel, by decide +kernel⟩
theorem ok_outs (T : Fns K mg a d) : FnOk P w K mg base CX0 2 a.aOuts d.dOuts ["_law_signs_here", "_law_pairs_here"] spOuts := by
  refine T.FOuts.ok scOuts (fun vs H Q E h => ?_) (fun cdv A outer s H vs Q E hr h => ?_)
  · obtain ⟨sg, p, qs, rfl, _⟩ := h
    rfl
  · obtain ⟨sg, p, qs, rfl, hsg, hp, hl, hm, k⟩ := h
    refine ⟨_, ((pss_cons (ps_set (i := 2) scOuts.nd rfl (Or.inl rfl) (pe_lst pa_nil))
      (pss_cons (ps_for PassesOwn.never rfl (pi_str (pv 0)) (pg_name (i := 3) scOuts.nd rfl (Or.inr rfl)) (pss_one (ps_expr (pe_bm PySem.F.plainAttrs_list PySem.F.slot_list_append PySem.F.type_list_append mt_append (pv 2) (pa_cons (pe_join (pe_strS (l := []) (by decide +kernel)) (pe_lc (own := [("_law_out", 4)]) (g := gName 4) (by rfl) scOuts.nd (pi_str (pv 0)) (blkOk_by (own := [("_law_out", 4)]) (N := ["_law_signs_here", "_law_pairs_here", "_law_rows", "_law_told_here", "_law_out"]) (sc := defScope sOuts) (by decide +kernel)) (fun _ _ _ _ _ => pg_name (i := 4) scOuts.nd rfl (Or.inl rfl)) (fun _ _ _ _ _ => (pts_one (pt_cmpR (r := rInD K) (op_inD hr.unitu) (pe_tup (pa_cons (pv 3) (pa_cons (pv 4) pa_nil))) (pv 1) rfl))) (fun _ _ _ _ _ => (pv 4)))) pa_nil)))))
      (pss_one (ps_ret (pv 2)))))), ?_⟩
    walk_at "go"
    rename_i rp hrp
    refine for_S (fun i σ H' => Stop (∃ (v3 v4 : Option V), σ = [some (.str (S sg)), some (.ref p), some (.ref rp), v3, v4] ∧ H' rp = some (.lst (((sg.take i).map fun s => sg.filter (relP qs s)).map fun r => V.str (S r))) ∧ Fr [rp] H H')) ⟨none, none, rfl, upd_same, Fr.upd_new hrp⟩ ?_ ?_
    · rintro i c σ H5 hc ⟨v3, v4, rfl, hr5, f5⟩
      have hcm := List.mem_of_getElem? hc
      have hic := (List.getElem?_eq_some_iff.mp hc).1
      have hl5 := hsg.l
      walk_at "go"
      rename_i D hD
      have nD : rp ≠ D := ne_of_none hr5 hD
      have np : p ≠ rp := fun z => by
        have := hp.l
        rw [z, hrp] at this
        cases this
      have hp5 : PrAt H5 p qs := hp.fr f5 (by simpa using np) (fun q hq => by
        have := hp.t q hq
        simp
        intro z
        rw [z, hrp] at this
        cases this)
      have low : ∀ q ∈ qs.map (·.2), q.1 < 128 ∧ q.2 < 128 := fun q hq => by
        obtain ⟨z, hz, e⟩ := List.mem_map.mp hq
        rw [← e]
        exact ⟨hsg.c _ (hm z hz).1, hsg.c _ (hm z hz).2⟩
      refine lcg_S (fun j H' => H' D = some (.lst (((sg.take j).filter (relP qs c)).map fun o => V.str (S [o]))) ∧ Same H5 H') ⟨upd_same, Same.upd_new hD⟩ (fun _ => rfl) (fun j o H6 ho hP => ?_) (fun H6 hP => ?_)
      · obtain ⟨h6, s6⟩ := hP
        have hom := List.mem_of_getElem? ho
        have e1 : (sg.take (j + 1)).filter (relP qs c) = (sg.take j).filter (relP qs c) ++ if relP qs c o = true then [o] else [] := by
          rw [List.take_add_one, ho, List.filter_append]
          show _ ++ List.filter _ [o] = _
          rw [List.filter_cons, List.filter_nil]
        have hlen : ((sg.take j).filter (relP qs c)).length ≤ 5 := by
          have h1 := List.length_filter_le (relP qs c) (sg.take j)
          rw [List.length_take] at h1
          omega
        have hp6 := hp5.same s6
        walk_at "go"
        rename_i tp htp
        have s7 : Same H6 (upd H6 tp (.tup [.str (S [c]), .str (S [o])])) := Same.upd_new htp
        have ht7 : (upd H6 tp (.tup [.str (S [c]), .str (S [o])])) tp = some (.tup [.str (S [c]), .str (S [o])]) := upd_same
        generalize upd H6 tp (.tup [.str (S [c]), .str (S [o])]) = H7 at s7 ht7 ⊢
        have hd7 := (hp6.same s7).dp (K := K)
        refine ⟨dq (c, o), (qs.map (·.2)).map dq, dp_tup (q := (c, o)) ht7, hd7, shaped_dq ⟨hsg.c _ hcm, hsg.c _ hom⟩, shaped_dqs low, ?_⟩
        rw [any_dq]
        have er : decide ((c, o) ∈ qs.map (·.2)) = relP qs c o := rfl
        rw [er]
        have h7 := s7 _ _ h6
        by_cases e : relP qs c o = true
        · rw [if_pos e] at e1
          rw [e]
          walk_at "go"
          refine ⟨by rw [List.length_map, sizeLine_eq]; omega, ?_, fun b o' hb => ?_⟩
          · rw [upd_same, e1, List.map_append]
            rfl
          · rw [upd_ne (fun z => by rw [z, hD] at hb; cases hb)]
            exact s7 _ _ (s6 _ _ hb)
        · rw [if_neg e, List.append_nil] at e1
          rw [Bool.eq_false_iff.mpr e]
          walk_at "go"
          rw [e1]
          exact ⟨h7, Vk.Same.trans s6 s7⟩
      · obtain ⟨h6, s6⟩ := hP
        rw [List.take_length] at h6
        have hj := join_S (l := sg.filter (relP qs c)) (by have := List.length_filter_le (relP qs c) sg; omega)
        refine ⟨S [], D, (sg.filter (relP qs c)).map fun x => S [x], rfl, rfl, .inl (SqL.of (by rw [h6, List.map_map]; rfl)), hj.1, ?_⟩
        rw [hj.2]
        have hr6 := s6 _ _ hr5
        walk_at "go"
        refine iAppend hr6 (by rw [List.length_map, List.length_map, List.length_take, sizeLine_eq]; omega) ?_
        walk_at "go"
        refine ⟨_, _, rfl, ?_, Fr.trans (Fr.trans f5 (Fr.of_same s6)) Fr.in0⟩
        rw [upd_same, List.take_add_one, hc, List.map_append, List.map_append]
        rfl
    · rintro σ H5 ⟨v3, v4, rfl, hr5, f5⟩
      rw [List.take_length] at hr5
      walk_at "go"
      exact k rp H5 hrp (f5.forget1 hrp) hr5
def rowsP (sg : List Nat) (R : Rel) (l : List Nat) : List (Nat × Nat) := l.flatMap fun s => (sg.filter (R s)).map fun o => (s, o)
theorem rows_len (sg : List Nat) (R : Rel) : ∀ l : List Nat, (rowsP sg R l).length ≤ l.length * sg.length
  | [] => by simp [rowsP]
  | a :: l => by
    have := rows_len sg R l
    have h2 := List.length_filter_le (R a) sg
    unfold rowsP at this ⊢
    rw [List.flatMap_cons, List.length_append, List.length_map, List.length_cons, Nat.succ_mul]
    omega
def spIs (a : Ad) : Sp := fun vs H Q _ => ∃ (t al al2 p : Addr) (sg W : List Nat) (R : Rel), vs = [.ref t, .ref al2, .str (S sg), .ref p] ∧ Tb a H t al sg W R ∧ AlG a.cAlphabet H al2 sg W ∧ SgOk sg ∧ RowAt H p sg R ∧ ∀ H', Same H H' → Q (.bl true) H'
theorem scIs : FnScope ["_law_table_here", "_law_alphabet", "_law_signs_here", "_law_outs_here", "_law_rows", "_law_k", "_law_told_here", "_law_out"] ["_law_table_here", "_law_alphabet", "_law_signs_here", "_law_outs_here"] (defScope sIs) := ⟨rfl, rfl, rfl, by decide +kernel, rfl, by decide +kernel, by decide +kernel⟩
theorem ok_is (T : Fns K mg a d) (GAlEq : FnOk P w K mg base CX0 1 a.aAlEq d.dAlEq ["self", "other"] (spEq a.cAlphabet)) : FnOk P w K mg base CX0 5 a.aIs d.dIs ["_law_table_here", "_law_alphabet", "_law_signs_here", "_law_outs_here"] (spIs a) := by
  have GTGet := ok_get (P := P) (w := w) (base := base) T
  have GTPairs := ok_pairsM (P := P) (w := w) (base := base) T
  have GTLen := ok_len (P := P) (w := w) (base := base) T
  refine T.FIs.ok scIs (fun vs H Q E h => ?_) (fun cdv A outer s H vs Q E hr h => ?_)
  · obtain ⟨t, al, al2, p, sg, W, R, rfl, _⟩ := h
    rfl
  · obtain ⟨t, al, al2, p, sg, W, R, rfl, hT0, hal2, hsg, hrow, k⟩ := h
    obtain ⟨lp, qs, hT⟩ := id hT0
    obtain ⟨⟨dx, ht⟩, hal, hp, ec⟩ := id hT
    have clT := T.clT
    have nTp := T.nTp
    have nTa := T.nTa
    have hl5 := hsg.l
    refine ⟨_, ((pss_cons (ps_if (PW.pt (pw_or (pt_not (pt_val (pe_callB call_isi (by rfl) T.z_isinstance (by decide +kernel) (pa_cons (pv 0) (pa_cons (pe_glob (v := .ref a.cTable) (by rfl) T.gcTable rfl) pa_nil))))) (pw_or1 (pt_not (pt_cmpR (op_ownI (fun _ _ => rfl) T.mAlEq.at_ T.mAlEq.fn GAlEq (hr.mono (by decide)) T.bAlEq pass0) (pe_fld (pv 0) rfl) (pv 1) (nomark _)))))) (pss_one (ps_ret pe_bl)) pss_nil)
      (pss_cons (ps_set (i := 4) scIs.nd rfl (Or.inl rfl) (pe_lst pa_nil))
      (pss_cons (ps_for PassesOwn.never rfl (pi_range1 (by rfl) T.z_range (pa_cons (pe_callB call_lenS (by rfl) T.z_len (by decide +kernel) (pa_cons (pv 2) pa_nil)) pa_nil)) (pg_name (i := 5) scIs.nd rfl (Or.inr rfl)) (pss_cons (ps_set (i := 6) scIs.nd rfl (Or.inl rfl) (pe_ixI T.mTGet.at_ T.fnTGet T.mTGet.fn (GTGet.raw T.bTGet .nil) (hr.mono (by decide)) (fun σ pins H s e s' => passE pins σ H s e s') (pv 0) (pe_ix ix_str (pv 2) (pv 5) (fun _ _ => rfl)) (fun _ _ => rfl)))
      (pss_cons (ps_if (PW.pt (pw_or (pt_not (pt_val (pe_callB call_isi (by rfl) T.z_isinstance (by decide +kernel) (pa_cons (pv 6) (pa_cons (pe_bltn (v := .ty "str") (by rfl) T.z_str (by decide +kernel) rfl) pa_nil))))) (pw_or1 (pt_cmpR op_ne (pv 6) (pe_ix (r := rIxL K) ix_list (pv 3) (pv 5) (fun _ _ => rfl)) (nomark _))))) (pss_one (ps_ret pe_bl)) pss_nil)
      (pss_one (ps_set (i := 4) scIs.nd rfl (Or.inl rfl) (pe_op op_cat (pv 4) (pe_lc (own := [("_law_out", 7)]) (g := gName 7) (by rfl) scIs.nd (pi_str (pe_ix (r := rIxL K) ix_list (pv 3) (pv 5) (fun _ _ => rfl))) (blkOk_by (own := [("_law_out", 7)]) (N := ["_law_table_here", "_law_alphabet", "_law_signs_here", "_law_outs_here", "_law_rows", "_law_k", "_law_told_here", "_law_out"]) (sc := defScope sIs) (by decide +kernel)) (fun _ _ _ _ _ => pg_name (i := 7) scIs.nd rfl (Or.inl rfl)) (fun _ _ _ _ _ => pts_nil) (fun _ _ _ _ _ => (pe_tup (pa_cons (pe_ix ix_str (pv 2) (pv 5) (fun _ _ => rfl)) (pa_cons (pv 7) pa_nil)))))))))))
      (pss_cons (ps_set (i := 6) scIs.nd rfl (Or.inl rfl) (pe_meth0 (pv 0) T.clT T.mTPairs GTPairs (hr.mono (by decide)) T.bTPairs .nil pass0))
      (pss_one (ps_ret (pe_and (pe_callB call_isi (by rfl) T.z_isinstance (by decide +kernel) (pa_cons (pv 6) (pa_cons (pe_bltn (v := .ty "list") (by rfl) T.z_list (by decide +kernel) rfl) pa_nil))) (pe_and (pe_cmpR (op_eqD hr.units) (pv 6) (pv 4) (nomark _)) (pe_one (pe_cmpR op_eq (pe_callB (call_lenI T.mTLen.at_ T.mTLen.fn (GTLen.raw T.bTLen .nil) (hr.mono (by decide)) pass0) (by rfl) T.z_len (by decide +kernel) (pa_cons (pv 0) pa_nil)) (pe_callB call_len_seq (by rfl) T.z_len (by decide +kernel) (pa_cons (pv 4) pa_nil)) (nomark _)))))))))))), ?_⟩
    walk_at "go"
    refine isi_T T ht ?_
    walk_at "go"
    refine eq_al T.eqA hal hal2 ⟨_, rfl, ?_⟩
    have e : Alike sg W sg W := ⟨rfl, rfl⟩
    rw [decide_eq_true e]
    walk_at "go"
    rename_i r0 hr0
    refine for_R (fun i σ H' => Stop (∃ (pr : Addr) (ns : List (Addr × Nat × Nat)) (v5 v6 v7 : Option V), σ = [some (.ref t), some (.ref al2), some (.str (S sg)), some (.ref p), some (.ref pr), v5, v6, v7] ∧ PrAt H' pr ns ∧ ns.map (·.2) = rowsP sg R (sg.take i) ∧ Same H H')) ⟨r0, [], none, none, none, rfl, ⟨upd_same, fun q hq => nomatch hq⟩, rfl, Same.upd_new hr0⟩ ?_ ?_
    · rintro i σ H5 hi ⟨pr, ns, v5, v6, v7, rfl, hns, ens, s5⟩
      have hi2 : i < sg.length := by simpa using hi
      have hc : sg[i]? = some sg[i] := List.getElem?_eq_getElem hi2
      have hcm := List.getElem_mem hi2
      generalize sg[i] = c at hc hcm
      have ht5 := s5 _ _ ht
      have ij : (0 : Int) + (i : Int) = (i : Int) := Int.zero_add _
      rw [ij]
      have hrow5 : H5 p = some (.lst ((outsL sg R).map fun r => V.str (S r))) := s5 _ _ hrow
      have hoc : (outsL sg R)[i]? = some (sg.filter (R c)) := by unfold outsL; rw [List.getElem?_map, hc]; rfl
      have hov : ((outsL sg R).map fun r => V.str (S r))[i]? = some (V.str (S (sg.filter (R c)))) := by rw [List.getElem?_map, hoc]; rfl
      have hfl := List.length_filter_le (R c) sg
      walk_at "go"
      refine ⟨t, al, c, sg, W, R, rfl, ⟨lp, qs, hT.same s5⟩, hsg, hcm, fun H6 s6 => ?_⟩
      have s06 := Vk.Same.trans s5 s6
      have hrow6 : H6 p = some (.lst ((outsL sg R).map fun r => V.str (S r))) := s06 _ _ hrow
      walk_at "go"
      rename_i D hD
      refine lcg_S (fun j H' => NewP H6 D (((sg.filter (R c)).take j).map fun o => (c, o)) H') (NewP.start hD) (fun _ => rfl) (fun j o H7 ho hP => ?_) (fun H7 hP => ?_)
      · obtain ⟨ms, hms, ems, s7⟩ := id hP
        have hjl := (List.getElem?_eq_some_iff.mp ho).1
        walk_at "go"
        rename_i pp hpp
        exact newp_put (l' := ((sg.filter (R c)).take (j + 1)).map fun o => (c, o)) hms ems s7 hD hpp (by rw [List.length_map, List.length_take]; omega) c o (by
          rw [List.take_add_one, ho, List.map_append]
          rfl)
      · obtain ⟨ms, hms, ems, s7⟩ := hP
        rw [List.take_length] at ems
        have hns7 := hns.same (Vk.Same.trans s6 s7)
        have l1 : ns.length ≤ 25 := by
          have := congrArg List.length ens
          rw [List.length_map] at this
          have h2 := rows_len sg R (sg.take i)
          rw [List.length_take] at h2
          have h3 := Nat.mul_le_mul (show min i sg.length ≤ 5 by omega) hl5
          omega
        have l2 : ms.length ≤ 5 := by
          have := congrArg List.length ems
          rw [List.length_map, List.length_map] at this
          omega
        refine iCat hns7.l hms.l (by rw [List.length_map, List.length_map, sizeLine_eq]; omega) fun q hq => ?_
        have s8 : Same H7 (upd H7 q (.lst ((ns.map fun q => V.ref q.1) ++ ms.map fun q => V.ref q.1))) := Same.upd_new hq
        walk_at "go"
        refine ⟨q, ns ++ ms, _, _, _, rfl, ⟨by rw [upd_same, List.map_append], fun z hz => ?_⟩, ?_, Vk.Same.trans s06 (Vk.Same.trans s7 s8)⟩
        · rcases List.mem_append.mp hz with m | m
          · exact s8 _ _ (hns7.t z m)
          · exact s8 _ _ (hms.t z m)
        · unfold rowsP at ens ⊢
          rw [List.map_append, ens, ems, List.take_add_one, hc, List.flatMap_append]
          congr 1
          exact (List.append_nil _).symm
    · rintro σ H5 ⟨pr, ns, v5, v6, v7, rfl, hns, ens, s5⟩
      rw [Int.toNat_natCast, List.take_length] at ens
      have ht5 := s5 _ _ ht
      walk_at "go"
      refine ⟨t, al, sg, W, R, rfl, ⟨lp, qs, hT.same s5⟩, hsg, fun pp ms H6 hms ems s6 => ?_⟩
      have hns6 := hns.same s6
      have ht6 := s6 _ _ ht5
      have hml := hms.l
      have hT6 := hT.same (Vk.Same.trans s5 s6)
      walk_at "go"
      have e1 : ns.map (·.2) = canL sg R := ens
      refine ⟨_, _, _, _, true, rfl, .ty "list", .base (.lst hml), rfl, ?_⟩
      walk_at "go"
      refine ⟨_, _, hms.dp, hns6.dp, shaped_dqs (by rw [ems, ← ec]; exact hT6.low hsg), shaped_dqs (by rw [e1, ← ec]; exact hT6.low hsg), ?_⟩
      rw [eqv_dql, ems, e1, decide_eq_true rfl]
      have hnl := hns6.l
      walk_at "go"
      have h25 := can_len (R := R) hsg.a
      have h26 := Nat.mul_le_mul hl5 hl5
      refine ⟨t, dx, _, rfl, ht6, t, al, sg, W, R, rfl, ⟨lp, qs, hT6⟩, hsg, _, rfl, by omega, ?_⟩
      walk_at "go"
      have e2 : ns.length = (canL sg R).length := by rw [← e1, List.length_map]
      rw [List.length_map, e2, decide_eq_true rfl]
      exact k H6 (Vk.Same.trans s5 s6)
end
end
section
set_option Elab.async false
set_option linter.all false
set_option maxRecDepth 100000
set_option maxHeartbeats 4000000
open PySem PySem.Spec PyProof.Rows L2 NSet

local macro_rules | `(tactic| walk_at "side") => `(tactic| exact .inl (by assumption))
local macro_rules | `(tactic| walk_at "go1") => `(tactic| (with_reducible refine iGTup (by assumption) rfl ?_))
local macro_rules | `(tactic| walk_at "go1") => `(tactic| (with_reducible refine iGCons ?_))
local macro_rules | `(tactic| walk_at "go1") => `(tactic| (with_reducible refine iGNil ?_))
local macro_rules | `(tactic| walk_at "go1") => `(tactic| (with_reducible refine iMakeV ?_))
local macro_rules | `(tactic| walk_at "go1") => `(tactic| (with_reducible refine iMakeD ?_))
local macro_rules | `(tactic| walk_at "go1") => `(tactic| (with_reducible refine iLc2S ?_))
local macro_rules | `(tactic| walk_at "go1") => `(tactic| (with_reducible refine iLc2L ?_))
local macro_rules | `(tactic| walk_at "go1") => `(tactic| (with_reducible refine iIStr ?_))
local macro_rules | `(tactic| walk_at "go1") => `(tactic| (with_reducible refine iIxI ?_))

section
variable {P : Program} {w : World} {K : PySem.W.Frag} {mg : Str → Option Value} {base : Heap} {a : Ad} {d : Fd}
theorem join_flat : ∀ l : List (List Nat), Txt.join (S []) (l.map S) = S l.flatten := fun l => by
  refine (PySem.StrLaws.glued_eq_join _ _).trans ?_
  induction l with
  | nil => rfl
  | cons x r ih =>
    cases r with
    | nil =>
      show S x = S (x ++ [])
      rw [List.append_nil]
    | cons y r =>
      show S x ++ S [] ++ Str.join (S []) ((y :: r).map S) = _
      rw [ih, S_app, S_app, List.append_nil]
      rfl
theorem join_fm (l : List Nat) (f : Nat → List Nat) : Txt.join (S []) (l.map fun m => S (f m)) = S (l.map f).flatten := by
  rw [← join_flat, List.map_map]
  rfl
theorem sum_fm (f : Nat → List Nat) (hf : ∀ m, (f m).length ≤ 5) : ∀ l : List Nat, ((l.map fun m => S (f m)).map (·.length)).sum ≤ l.length * 5
  | [] => by simp
  | a :: l => by
    have h1 := sum_fm f hf l
    have h2 := hf a
    rw [List.map_cons, List.map_cons, List.sum_cons, S_len, List.length_cons, Nat.succ_mul]
    omega
theorem outs_ix {sg : List Nat} {R : Rel} {i c : Nat} (h : sg[i]? = some c) : ((outsL sg R).map fun r => V.str (S r))[i]? = some (V.str (S (sg.filter (R c)))) := by
  unfold outsL
  rw [List.getElem?_map, List.getElem?_map, h]
  rfl
theorem row_step {H5 : Hp} {rp : Addr} {sg : List Nat} {i c : Nat} {f : Nat → List Nat} (hc : sg[i]? = some c) : ((sg.take (i + 1)).map f).map (fun r => V.str (S r)) = ((sg.take i).map f).map (fun r => V.str (S r)) ++ [V.str (S (f c))] := by
  rw [List.take_add_one, hc, List.map_append, List.map_append]
  rfl
def spProduct : Sp := fun vs H Q _ => ∃ (sg : List Nat) (p1 p2 : Addr) (A B : Rel), vs = [.str (S sg), .ref p1, .ref p2] ∧ SgOk sg ∧ RowAt H p1 sg A ∧ RowAt H p2 sg B ∧ ∀ r H', H r = none → Same H H' → RowAt H' r sg (compR sg A B) → Q (.ref r) H'
theorem scProduct : FnScope ["_law_signs_here", "_law_one", "_law_other_here", "_law_rows", "_law_outs_here", "_law_got", "_law_mid", "_law_sign"] ["_law_signs_here", "_law_one", "_law_other_here"] (defScope sProduct) := ⟨rfl, rfl, rfl, by decide +kernel, rfl, by decide +kernel, by decide +kernel⟩
theorem ok_product (T : Fns K mg a d) : FnOk P w K mg base CX0 1 a.aProduct d.dProduct ["_law_signs_here", "_law_one", "_law_other_here"] spProduct := by
  refine T.FProduct.ok scProduct (fun vs H Q E h => ?_) (fun cdv A outer s H vs Q E hr h => ?_)
  · obtain ⟨sg, p1, p2, A, B, rfl, _⟩ := h
    rfl
  · obtain ⟨sg, p1, p2, R1, R2, rfl, hsg, h1, h2, k⟩ := h
    have hl5 := hsg.l
    unfold RowAt at h1 h2
    refine ⟨_, ((pss_cons (ps_set (i := 3) scProduct.nd rfl (Or.inl rfl) (pe_lst pa_nil))
      (pss_cons (ps_for PassesOwn.never rfl (pi_list (pv 1)) (pg_name (i := 4) scProduct.nd rfl (Or.inl rfl)) (pss_cons (ps_set (i := 5) scProduct.nd rfl (Or.inr rfl) (pe_join (pe_strS (l := []) (by decide +kernel)) (pe_lc (own := [("_law_mid", 6)]) (g := gName 6) (by rfl) scProduct.nd (pi_str (pv 4)) (blkOk_by (own := [("_law_mid", 6)]) (N := ["_law_signs_here", "_law_one", "_law_other_here", "_law_rows", "_law_outs_here", "_law_got", "_law_mid", "_law_sign"]) (sc := defScope sProduct) (by decide +kernel)) (fun _ _ _ _ _ => pg_name (i := 6) scProduct.nd rfl (Or.inl rfl)) (fun _ _ _ _ _ => pts_nil) (fun _ _ _ _ _ => (pe_ix (r := rIxL K) ix_list (pv 2) (pe_m1 F.slot_str_find F.type_str_find mt_findS (pv 0) (pv 6)) (fun _ _ => rfl))))))
      (pss_one (ps_expr (pe_bm PySem.F.plainAttrs_list PySem.F.slot_list_append PySem.F.type_list_append mt_append (pv 3) (pa_cons (pe_join (pe_strS (l := []) (by decide +kernel)) (pe_lc (own := [("_law_sign", 7)]) (g := gName 7) (by rfl) scProduct.nd (pi_str (pv 0)) (blkOk_by (own := [("_law_sign", 7)]) (N := ["_law_signs_here", "_law_one", "_law_other_here", "_law_rows", "_law_outs_here", "_law_got", "_law_mid", "_law_sign"]) (sc := defScope sProduct) (by decide +kernel)) (fun _ _ _ _ _ => pg_name (i := 7) scProduct.nd rfl (Or.inl rfl)) (fun _ _ _ _ _ => (pts_one (pt_cmpR op_inS (pv 7) (pv 5) rfl))) (fun _ _ _ _ _ => (pv 7)))) pa_nil))))))
      (pss_one (ps_ret (pv 3)))))), ?_⟩
    walk_at "go"
    rename_i rp hrp
    have n1r : p1 ≠ rp := ne_of_none h1 hrp
    have n2r : p2 ≠ rp := ne_of_none h2 hrp
    refine for_L (xs := (outsL sg R1).map fun r => V.str (S r)) (fun i σ H' => Stop (∃ (v4 v5 v6 v7 : Option V), σ = [some (.str (S sg)), some (.ref p1), some (.ref p2), some (.ref rp), v4, v5, v6, v7] ∧ H' rp = some (.lst (((sg.take i).map fun s => sg.filter (compR sg R1 R2 s)).map fun r => V.str (S r))) ∧ Fr [rp] H H')) ⟨none, none, none, none, rfl, upd_same, Fr.upd_new hrp⟩ (fun i σ H' _ hh => ?_) ?_ ?_
    · obtain ⟨_, _, _, _, _, _, f5⟩ := hh
      exact SqL.of (f5 _ _ (by simpa using n1r) h1)
    · rintro i x σ H5 hx ⟨v4, v5, v6, v7, rfl, hr5, f5⟩
      unfold outsL at hx
      rw [List.getElem?_map, List.getElem?_map] at hx
      obtain ⟨r, hr, rfl⟩ := Option.map_eq_some_iff.mp hx
      obtain ⟨c, hc, rfl⟩ := Option.map_eq_some_iff.mp hr
      have hic := (List.getElem?_eq_some_iff.mp hc).1
      have h15 := f5 _ _ (by simpa using n1r) h1
      have h25 := f5 _ _ (by simpa using n2r) h2
      have hf1 := List.length_filter_le (R1 c) sg
      walk_at "go"
      rename_i D hD
      refine lc_text (l := sg.filter (R1 c)) (fun _ => true) (fun m => V.str (S (sg.filter (R2 m)))) (by omega) (fun _ => rfl) (fun m hm H6 Q6 off r => ?_) (fun m hm _ H6 Q6 off r => ?_) ?_
      · walk_at "go"
        exact r
      · have hms := (List.mem_filter.mp hm).1
        have h26 := (off p2 (ne_of_none h25 hD)).trans h25
        walk_at "go"
        refine iIxL (SqL.of h26) (atI_nat (outs_ix (n1_at hms))) ?_
        exact r
      rw [List.filter_eq_self.mpr (fun _ _ => rfl)]
      have s6 : Same H5 (upd H5 D (.lst ((sg.filter (R1 c)).map fun m => V.str (S (sg.filter (R2 m)))))) := Same.upd_new hD
      have hD6 : (upd H5 D (.lst ((sg.filter (R1 c)).map fun m => V.str (S (sg.filter (R2 m)))))) D = some (.lst ((sg.filter (R1 c)).map fun m => V.str (S (sg.filter (R2 m))))) := upd_same
      generalize upd H5 D (.lst ((sg.filter (R1 c)).map fun m => V.str (S (sg.filter (R2 m))))) = H6 at s6 hD6 ⊢
      have hsum := sum_fm (fun m => sg.filter (R2 m)) (fun m => Nat.le_trans (List.length_filter_le _ sg) hl5) (sg.filter (R1 c))
      refine ⟨S [], D, (sg.filter (R1 c)).map fun m => S (sg.filter (R2 m)), rfl, rfl, .inl (SqL.of (by rw [hD6, List.map_map]; rfl)), by rw [S_len, List.length_nil]; omega, ?_⟩
      rw [join_fm]
      have hg : ∀ o, o ∈ ((sg.filter (R1 c)).map fun m => sg.filter (R2 m)).flatten ↔ (o ∈ sg ∧ compR sg R1 R2 c o = true) := fun o => by
        unfold compR
        rw [List.mem_flatten, List.any_eq_true]
        constructor
        · rintro ⟨r, hr, ho⟩
          obtain ⟨m, hm, rfl⟩ := List.mem_map.mp hr
          obtain ⟨a1, a2⟩ := List.mem_filter.mp hm
          obtain ⟨b1, b2⟩ := List.mem_filter.mp ho
          exact ⟨b1, m, a1, by rw [Bool.and_eq_true]; exact ⟨a2, b2⟩⟩
        · rintro ⟨b1, m, a1, e⟩
          rw [Bool.and_eq_true] at e
          exact ⟨_, List.mem_map.mpr ⟨m, List.mem_filter.mpr ⟨a1, e.1⟩, rfl⟩, List.mem_filter.mpr ⟨b1, e.2⟩⟩
      have hgl : ((sg.filter (R1 c)).map fun m => sg.filter (R2 m)).flatten.length ≤ 100 := by
        rw [List.length_flatten]
        have : ∀ l : List Nat, ((l.map fun m => sg.filter (R2 m)).map List.length).sum ≤ l.length * 5 := by
          intro l
          induction l with
          | nil => simp
          | cons a l ih =>
            have h2 := List.length_filter_le (R2 a) sg
            rw [List.map_cons, List.map_cons, List.sum_cons, List.length_cons, Nat.succ_mul]
            omega
        have := this (sg.filter (R1 c))
        omega
      generalize ((sg.filter (R1 c)).map fun m => sg.filter (R2 m)).flatten = got at hg hgl ⊢
      walk_at "go"
      rename_i D2 hD2
      refine lc_text (l := sg) (fun o => decide (o ∈ got)) (fun o => V.str (S [o])) (by omega) (fun _ => rfl) (fun o ho H7 Q7 off r => ?_) (fun o ho hp7 H7 Q7 off r => ?_) ?_
      · walk_at "go"
        exact r
      · walk_at "go"
        exact r
      have eF : (sg.filter fun o => decide (o ∈ got)) = sg.filter (compR sg R1 R2 c) := List.filter_congr fun o ho => by
        rw [Bool.eq_iff_iff, decide_eq_true_iff, hg]
        exact ⟨fun h => h.2, fun h => ⟨ho, h⟩⟩
      rw [eF]
      have s7 : Same H6 (upd H6 D2 (.lst ((sg.filter (compR sg R1 R2 c)).map fun o => V.str (S [o])))) := Same.upd_new hD2
      have hD7 : (upd H6 D2 (.lst ((sg.filter (compR sg R1 R2 c)).map fun o => V.str (S [o])))) D2 = some (.lst ((sg.filter (compR sg R1 R2 c)).map fun o => V.str (S [o]))) := upd_same
      generalize upd H6 D2 (.lst ((sg.filter (compR sg R1 R2 c)).map fun o => V.str (S [o]))) = H7 at s7 hD7 ⊢
      have hj := join_S (l := sg.filter (compR sg R1 R2 c)) (by have := List.length_filter_le (compR sg R1 R2 c) sg; omega)
      refine ⟨S [], D2, (sg.filter (compR sg R1 R2 c)).map fun x => S [x], rfl, rfl, .inl (SqL.of (by rw [hD7, List.map_map]; rfl)), hj.1, ?_⟩
      rw [hj.2]
      have hr7 := s7 _ _ (s6 _ _ hr5)
      walk_at "go"
      refine iAppend hr7 (by rw [List.length_map, List.length_map, List.length_take, sizeLine_eq]; omega) ?_
      walk_at "go"
      exact ⟨_, _, _, _, rfl, by rw [upd_same, row_step (H5 := H5) (rp := rp) hc], Fr.trans (Fr.trans f5 (Fr.of_same (Vk.Same.trans s6 s7))) Fr.in0⟩
    · rintro σ H5 ⟨v4, v5, v6, v7, rfl, hr5, f5⟩
      rw [List.length_map, show (outsL sg R1).length = sg.length from List.length_map .., List.take_length] at hr5
      walk_at "go"
      exact k rp H5 hrp (f5.forget1 hrp) hr5
theorem dp_sgs {K : PySem.W.Frag} {H : Hp} : ∀ l : List Nat, DpAll K H (l.map fun o => V.str (S [o])) (l.map fun o => PyData.str (S [o]))
  | [] => .nil
  | a :: l => .cons (.str _) (dp_sgs l)
theorem can_sgs : ∀ l : List Nat, (∀ c ∈ l, c < 128) → PyData.canLayAll0 (l.map fun o => PyData.str (S [o])) = true
  | [], _ => by simp [PyData.canLayAll0]
  | a :: l, h => by simp [PyData.canLayAll0, PyData.canLay0, okS1 (show a < 0x110000 by have := h a List.mem_cons_self; omega), can_sgs l fun z hz => h z (List.mem_cons_of_mem _ hz)]
theorem dep_sgs : ∀ l : List Nat, PyData.depthAll (l.map fun o => PyData.str (S [o])) = 0
  | [] => by simp [PyData.depthAll]
  | a :: l => by simp [PyData.depthAll, PyData.depth, dep_sgs l]
theorem iNeNil {K : PySem.W.Frag} {H : Hp} {Q : VK} {D p : Addr} {l : List Nat} (hD : H D = some (.lst (l.map fun o => V.str (S [o])))) (hp : H p = some (.lst [])) (hl : ∀ c ∈ l, c < 128) (k : Q (.bl (!l.isEmpty)) H) : rNeD K (.ref D) (.ref p) H Q := by
  refine ⟨.list (l.map fun o => PyData.str (S [o])), .list [], .lst (SqL.of hD) (dp_sgs l), .lst (SqL.of hp) .nil, ?_, ?_, ?_⟩
  · simp [SeqAt.shaped, PyData.canLay0, PyData.depth, can_sgs l hl, dep_sgs]
  · simp [SeqAt.shaped, PyData.canLay0, PyData.canLayAll0, PyData.depth, PyData.depthAll]
  · have e : PyData.eqv (.list (l.map fun o => PyData.str (S [o]))) (.list []) = l.isEmpty := by
      cases l <;> simp [PyData.eqv, PyData.eqvAll]
    rw [e]
    exact k
def spInside : Sp := fun vs H Q _ => ∃ (sg : List Nat) (p1 p2 : Addr) (A B : Rel), vs = [.ref p1, .ref p2] ∧ SgOk sg ∧ RowAt H p1 sg A ∧ RowAt H p2 sg B ∧ ∀ H', Same H H' → Q (.bl (inR sg A B)) H'
theorem scInside : FnScope ["_law_one", "_law_other_here", "_law_k", "_law_sign"] ["_law_one", "_law_other_here"] (defScope sInside) := ⟨rfl, rfl, rfl, by decide +kernel, rfl, by decide +kernel, by decide +kernel⟩
theorem ok_inside (T : Fns K mg a d) : FnOk P w K mg base CX0 1 a.aInside d.dInside ["_law_one", "_law_other_here"] spInside := by
  refine T.FInside.ok scInside (fun vs H Q E h => ?_) (fun cdv A outer s H vs Q E hr h => ?_)
  · obtain ⟨sg, p1, p2, A, B, rfl, _⟩ := h
    rfl
  · obtain ⟨sg, p1, p2, R1, R2, rfl, hsg, h1, h2, k⟩ := h
    have hl5 := hsg.l
    unfold RowAt at h1 h2
    refine ⟨_, ((pss_cons (ps_for PassesOwn.never rfl (pi_range1 (by rfl) T.z_range (pa_cons (pe_callB call_len_seq (by rfl) T.z_len (by decide +kernel) (pa_cons (pv 0) pa_nil)) pa_nil)) (pg_name (i := 2) scInside.nd rfl (Or.inr rfl)) (pss_one (ps_if (pt_cmpR (op_neD hr.units) (pe_lc (own := [("_law_sign", 3)]) (g := gName 3) (by rfl) scInside.nd (pi_str (pe_ix (r := rIxL K) ix_list (pv 0) (pv 2) (fun _ _ => rfl))) (blkOk_by (own := [("_law_sign", 3)]) (N := ["_law_one", "_law_other_here", "_law_k", "_law_sign"]) (sc := defScope sInside) (by decide +kernel)) (fun _ _ _ _ _ => pg_name (i := 3) scInside.nd rfl (Or.inl rfl)) (fun _ _ _ _ _ => (pts_one (pt_cmpR op_notInS (pv 3) (pe_ix (r := rIxL K) ix_list (pv 1) (pv 2) (fun _ _ => rfl)) rfl))) (fun _ _ _ _ _ => (pv 3))) (pe_lst pa_nil) (nomark _)) (pss_one (ps_ret pe_bl)) pss_nil)))
      (pss_one (ps_ret pe_bl)))), ?_⟩
    walk_at "go"
    have hol : ((outsL sg R1).map fun r => V.str (S r)).length = sg.length := by simp [outsL]
    rw [hol]
    refine ⟨by omega, ?_⟩
    refine for_R (fun i σ H' => Stop (∃ (v2 v3 : Option V), σ = [some (.ref p1), some (.ref p2), v2, v3] ∧ Same H H' ∧ ∀ s ∈ sg.take i, ∀ t ∈ sg, R1 s t = true → R2 s t = true)) ⟨none, none, rfl, fun _ _ h => h, fun s hs => nomatch hs⟩ ?_ ?_
    · rintro i σ H5 hi ⟨v2, v3, rfl, s5, hin⟩
      have hi2 : i < sg.length := by simpa using hi
      have hc : sg[i]? = some sg[i] := List.getElem?_eq_getElem hi2
      have hcm := List.getElem_mem hi2
      generalize sg[i] = c at hc hcm
      have h15 := s5 _ _ h1
      have h25 := s5 _ _ h2
      have ij : (0 : Int) + (i : Int) = (i : Int) := Int.zero_add _
      rw [ij]
      have hf1 := List.length_filter_le (R1 c) sg
      have hf2 := List.length_filter_le (R2 c) sg
      have o1 := outs_ix (R := R1) hc
      have o2 := outs_ix (R := R2) hc
      walk_at "go"
      rename_i D hD
      refine lc_text (l := sg.filter (R1 c)) (fun o => !decide (o ∈ sg.filter (R2 c))) (fun o => V.str (S [o])) (by omega) (fun _ => rfl) (fun o ho H7 Q7 off r => ?_) (fun o ho hp7 H7 Q7 off r => ?_) ?_
      · have h27 := (off p2 (ne_of_none h25 hD)).trans h25
        walk_at "go"
        exact r
      · walk_at "go"
        exact r
      have s7 : Same H5 (upd H5 D (.lst (((sg.filter (R1 c)).filter fun o => !decide (o ∈ sg.filter (R2 c))).map fun o => V.str (S [o])))) := Same.upd_new hD
      have hD7 : (upd H5 D (.lst (((sg.filter (R1 c)).filter fun o => !decide (o ∈ sg.filter (R2 c))).map fun o => V.str (S [o])))) D = some (.lst (((sg.filter (R1 c)).filter fun o => !decide (o ∈ sg.filter (R2 c))).map fun o => V.str (S [o]))) := upd_same
      generalize upd H5 D (.lst (((sg.filter (R1 c)).filter fun o => !decide (o ∈ sg.filter (R2 c))).map fun o => V.str (S [o]))) = H7 at s7 hD7 ⊢
      walk_at "go"
      rename_i pe hpe
      have s8 : Same H7 (upd H7 pe (.lst [])) := Same.upd_new hpe
      refine iNeNil (s8 _ _ hD7) upd_same (fun z hz => hsg.c z (List.mem_filter.mp (List.mem_filter.mp hz).1).1) ?_
      generalize upd H7 pe (.lst []) = H8 at s8 ⊢
      have s58 := Vk.Same.trans s5 (Vk.Same.trans s7 s8)
      cases hl : (sg.filter (R1 c)).filter fun o => !decide (o ∈ sg.filter (R2 c)) with
      | nil =>
        walk_at "go"
        refine ⟨_, _, rfl, s58, fun s hs t ht hr => ?_⟩
        rw [List.take_add_one, hc] at hs
        rcases List.mem_append.mp hs with m | m
        · exact hin s m t ht hr
        · have e : s = c := by simpa using m
          subst e
          have hn : t ∉ ((sg.filter (R1 s)).filter fun o => !decide (o ∈ sg.filter (R2 s))) := by rw [hl]; exact List.not_mem_nil
          rw [List.mem_filter, List.mem_filter] at hn
          by_cases hb : t ∈ sg.filter (R2 s)
          · exact (List.mem_filter.mp hb).2
          · exact absurd ⟨⟨ht, hr⟩, by simp [hb]⟩ hn
      | cons o l =>
        walk_at "go"
        have ho : o ∈ ((sg.filter (R1 c)).filter fun o => !decide (o ∈ sg.filter (R2 c))) := by rw [hl]; exact List.mem_cons_self
        obtain ⟨m1, m2⟩ := List.mem_filter.mp ho
        obtain ⟨m3, m4⟩ := List.mem_filter.mp m1
        have m5 : o ∉ sg.filter (R2 c) := fun h => by
          rw [decide_eq_true h] at m2
          cases m2
        have e : inR sg R1 R2 = false := decide_eq_false fun h => m5 (List.mem_filter.mpr ⟨m3, h c hcm o m3 m4⟩)
        rw [e] at k
        exact k _ s58
    · rintro σ H5 ⟨v2, v3, rfl, s5, hin⟩
      have hin' : ∀ s ∈ sg, ∀ t ∈ sg, R1 s t = true → R2 s t = true := fun s hs => hin s (by
        rw [Int.toNat_natCast, List.take_length]
        exact hs)
      walk_at "go"
      have e : inR sg R1 R2 = true := decide_eq_true hin'
      rw [e] at k
      exact k H5 s5
end
end
section
set_option Elab.async false
set_option linter.all false
set_option maxRecDepth 100000
set_option maxHeartbeats 4000000
open PySem PySem.Spec PyProof.Rows L2 NSet

local macro_rules | `(tactic| walk_at "side") => `(tactic| exact .inl (by assumption))
local macro_rules | `(tactic| walk_at "go1") => `(tactic| (with_reducible refine iGTup (by assumption) rfl ?_))
local macro_rules | `(tactic| walk_at "go1") => `(tactic| (with_reducible refine iGCons ?_))
local macro_rules | `(tactic| walk_at "go1") => `(tactic| (with_reducible refine iGNil ?_))
local macro_rules | `(tactic| walk_at "go1") => `(tactic| (with_reducible refine iMakeV ?_))
local macro_rules | `(tactic| walk_at "go1") => `(tactic| (with_reducible refine iMakeD ?_))
local macro_rules | `(tactic| walk_at "go1") => `(tactic| (with_reducible refine iLc2S ?_))
local macro_rules | `(tactic| walk_at "go1") => `(tactic| (with_reducible refine iLc2L ?_))
local macro_rules | `(tactic| walk_at "go1") => `(tactic| (with_reducible refine iIStr ?_))
local macro_rules | `(tactic| walk_at "go1") => `(tactic| (with_reducible refine iIxI ?_))
local macro_rules | `(tactic| walk_at "go1") => `(tactic| (with_reducible refine iStep2 ?_))
local macro_rules | `(tactic| walk_at "go1") => `(tactic| (with_reducible refine iRevS ?_))
local macro_rules | `(tactic| walk_at "go1") => `(tactic| (with_reducible refine iRevL ?_))
local macro_rules | `(tactic| walk_at "go1") => `(tactic| (with_reducible refine iBinO ?_))
local macro_rules | `(tactic| walk_at "go1") => `(tactic| (with_reducible refine iCMeth ?_))

theorem AlOk.due {l v : List Nat} (h : AlOk l v) : dueT l v = "" := by
  unfold dueT
  rw [if_neg (by
    rintro (q | q | q)
    · have := h.h1; omega
    · have := h.h4; omega
    · exact q h.dl), if_neg (fun q => q ⟨h.vn, h.vl⟩)]
theorem az_ge : ∀ c ∈ azL, 97 ≤ c ∧ c < 123 := by decide +kernel
theorem AlOk.ge {l v : List Nat} (h : AlOk l v) : ∀ c ∈ l, 97 ≤ c ∧ c < 123 := fun c hc => az_ge c (h.dl.2 c hc)
theorem asc_srt {l : List Nat} (h : l.Nodup) : Asc (srtL l) := ((srtL_le l).and (srtL_nodup.mpr h)).imp fun q => by omega
theorem AlOk.sg {l v : List Nat} (h : AlOk l v) : SgOk (45 :: srtL l) := by
  refine ⟨List.pairwise_cons.mpr ⟨fun c hc => ?_, asc_srt h.dl.1⟩, ?_, by simp, fun c hc => ?_⟩
  · have := h.ge c (srtL_mem.mp hc); omega
  · have := h.h4
    rw [List.length_cons, srtL_len]; omega
  · rcases List.mem_cons.mp hc with e | e
    · omega
    · have := h.ge c (srtL_mem.mp e); omega
theorem AlOk.vlen {l v : List Nat} (h : AlOk l v) : v.length ≤ 4 := by
  have := len_of_sub h.vn h.vl
  have := h.h4
  omega
theorem TbL.fr {a : Ad} {H H' : Hp} {t al lp b g u : Addr} {sg W : List Nat} {R : Rel} {qs : List (Addr × Nat × Nat)} (h : TbL a H t al sg W R lp qs) (f : Fr [b, g] H H') (hB : BagB H b g u) (lb : lp ≠ b) (lg : lp ≠ g) : TbL a H' t al sg W R lp qs := by
  obtain ⟨gl, sl, n, r, e1, e2, e3, _⟩ := hB
  have off : ∀ {x : Addr} {o : HO}, H x = some o → (∀ xs, o ≠ .lst xs) → H' x = some o := fun {x o} hx ho => f x o (by
    intro m
    rcases List.mem_cons.mp m with z | z
    · rw [z, e1] at hx; exact ho _ (Option.some.inj hx).symm
    · rw [List.mem_singleton.mp z, e2] at hx; exact ho _ (Option.some.inj hx).symm) hx
  obtain ⟨⟨dx, h1⟩, ⟨l, v, ⟨dy, h2⟩, z⟩, h3, h4⟩ := h
  exact ⟨⟨dx, off h1 fun xs z => by cases z⟩, ⟨l, v, ⟨dy, off h2 fun xs z => by cases z⟩, z⟩, ⟨f _ _ (by simp [lb, lg]) h3.l, fun q hq => off (h3.t q hq) fun xs z => by cases z⟩, h4⟩
/-- what Alphabet(..) asks -/
theorem iMkA {C B : Addr} {al dx : Addr} {H0 : Hp} {l v : List Nat} {R : Hp → Prop} {E : XK} (ht : H0 al = none) (hd : H0 dx = none) (hn : dx ≠ al) (hk : AlOk l v) (k : ∀ H', Same H0 H' → AlG C H' al (45 :: srtL l) (srtL v) → R H') :
    spAl C B [.ref al, .str (S l), .str (S v)] (upd (upd H0 dx (.own al)) al (.ins C dx [])) (fun w H2 => w = .non ∧ R H2) E := by
  have s1 : Same H0 (upd (upd H0 dx (.own al)) al (.ins C dx [])) := fun c o hc => by
    rw [upd_ne (fun z => by rw [z, ht] at hc; cases hc), upd_ne (fun z => by rw [z, hd] at hc; cases hc)]
    exact hc
  have := hk.h4
  have := hk.vlen
  refine ⟨al, dx, l, v, rfl, upd_same, by omega, by omega, fun _ H' h1 h2 => ⟨rfl, k H' (fun c o hc => h2 c o (fun z => by rw [z, ht] at hc; cases hc) (s1 c o hc)) ⟨l, v, h1, rfl, rfl⟩⟩, fun h => absurd hk.due h⟩
theorem iMkT {a : Ad} {t al p dx : Addr} {H0 : Hp} {sg W : List Nat} {qs : List (Addr × Nat × Nat)} {R : Hp → Prop} {E : XK} (ht : H0 t = none) (hd : H0 dx = none) (hn : dx ≠ t) (hal : AlG a.cAlphabet H0 al sg W) (hs : SgOk sg) (hp : PrAt H0 p qs) (hl : qs.length ≤ 4000) (hm : ∀ q ∈ qs, q.2.1 ∈ sg ∧ q.2.2 ∈ sg)
    (k : ∀ lp ms H', H0 lp = none → Same H0 H' → TbL a H' t al sg W (relP qs) lp ms → R H') : spInit a [.ref t, .ref al, .ref p] (upd (upd H0 dx (.own t)) t (.ins a.cTable dx [])) (fun v H2 => v = .non ∧ R H2) E :=
  iMk (Q := fun _ H2 => R H2) ht hd hn hal hs hp hl hm k
def spOther : Sp := fun vs H Q _ => ∃ (b g u np : Addr) (l v : List Nat), vs = [.ref b, .ref np] ∧ BagB H b g u ∧ H np = some (.lst [.str (S l), .str (S v)]) ∧ AlOk l v ∧ np ≠ b ∧ np ≠ g ∧
  ∀ (p : Addr) (l2 v2 : List Nat) (H' : Hp), H' p = some (.lst [.str (S l2), .str (S v2)]) → AlOk l2 v2 → ¬ Alike (45 :: srtL l) (srtL v) (45 :: srtL l2) (srtL v2) → BagB H' b g u → Fr [b, g] H H' → Q (.ref p) H'
def swapL (c d : Nat) (l : List Nat) : List Nat := l.map fun x => if x = c then d else x
theorem repl_swap {c d : Nat} : ∀ l : List Nat, StrLaws.replL [c] [d] l = swapL c d l
  | [] => StrLaws.replL_nil
  | x :: r => by
    by_cases h : x = c
    · subst h
      rw [StrLaws.replL_hit (by simp) (by simp)]
      show [d] ++ StrLaws.replL [x] [d] r = _
      rw [repl_swap r]
      unfold swapL
      rw [List.map_cons, if_pos rfl]
      rfl
    · rw [StrLaws.replL_miss (by simpa using h), repl_swap r]
      unfold swapL
      rw [List.map_cons, if_neg h]
theorem replace_S {c d : Nat} (l : List Nat) : Txt.replace (S l) (S [c]) (S [d]) = S (swapL c d l) := by
  have h := StrLaws.replace_list (x := S l) (y := S [c]) (z := S [d]) (by rw [S_len]; exact Nat.le_refl 1)
  rw [S_cps, S_cps, S_cps, repl_swap] at h
  rw [S_of (Txt.replace (S l) (S [c]) (S [d])), h]
theorem not_alike_l {l v l2 v2 : List Nat} (h : ¬ l.Perm l2) : ¬ Alike (45 :: srtL l) (srtL v) (45 :: srtL l2) (srtL v2) := fun ⟨e, _⟩ => h (srtL_congr.mp (List.tail_eq_of_cons_eq e))
theorem not_alike_v {l v l2 v2 : List Nat} (h : ¬ v.Perm v2) : ¬ Alike (45 :: srtL l) (srtL v) (45 :: srtL l2) (srtL v2) := fun ⟨_, e⟩ => h (srtL_congr.mp e)
theorem AlOk.drop {l v : List Nat} {c : Nat} (h : AlOk l v) : AlOk l (v.filter (· != c)) := ⟨h.dl, h.h1, h.h4, h.vn.filter _, fun d hd => h.vl d (List.mem_filter.mp hd).1⟩
theorem AlOk.put {l v : List Nat} {c : Nat} (h : AlOk l v) (hc : c ∈ l) (hn : c ∉ v) : AlOk l (v ++ [c]) := by
  refine ⟨h.dl, h.h1, h.h4, ?_, fun d hd => ?_⟩
  · rw [List.nodup_append]
    exact ⟨h.vn, by simp, fun a ha b hb => by
      have : b = c := by simpa using hb
      subst this
      exact fun e => hn (e ▸ ha)⟩
  · rcases List.mem_append.mp hd with q | q
    · exact h.vl d q
    · have : d = c := by simpa using q
      subst this
      exact hc
theorem AlOk.cut {l v : List Nat} {r c : Nat} (h : AlOk l v) (hc : l[r]? = some c) (h2 : 1 < l.length) : AlOk (l.take r ++ l.drop (r + 1)) (v.filter (· != c)) := by
  have p := cut_perm hc
  have hn : (c :: (l.take r ++ l.drop (r + 1))).Nodup := p.nodup_iff.mpr h.dl.1
  have hl := p.length_eq
  rw [List.length_cons] at hl
  have := h.h4
  refine ⟨⟨(List.nodup_cons.mp hn).2, fun d hd => h.dl.2 d (p.mem_iff.mp (List.mem_cons_of_mem _ hd))⟩, by omega, by omega, h.vn.filter _, fun d hd => ?_⟩
  obtain ⟨q1, q2⟩ := List.mem_filter.mp hd
  rcases List.mem_cons.mp (p.mem_iff.mpr (h.vl d q1)) with e | e
  · subst e; simp at q2
  · exact e
theorem swap_nodup {c d : Nat} {l : List Nat} (h : l.Nodup) (hd : d ∉ l) : (swapL c d l).Nodup := by
  unfold swapL
  refine List.Pairwise.map _ (fun a b hab => ?_) (List.Pairwise.imp_of_mem (R := fun a b => a ≠ b) (S := fun a b => a ≠ b ∧ a ∈ l ∧ b ∈ l) (fun {a b} ha hb hab => ⟨hab, ha, hb⟩) h)
  obtain ⟨hab, ha, hb⟩ := hab
  by_cases h1 : a = c
  · subst h1
    rw [if_pos rfl, if_neg (fun e => hab e.symm)]
    exact fun e => hd (e ▸ hb)
  · rw [if_neg h1]
    by_cases h2 : b = c
    · subst h2
      rw [if_pos rfl]
      exact fun e => hd (e ▸ ha)
    · rw [if_neg h2]
      exact hab
theorem AlOk.swap {l v : List Nat} {c d : Nat} (h : AlOk l v) (hd : d ∈ azL) (hn : d ∉ l) : AlOk (swapL c d l) (swapL c d v) := by
  refine ⟨⟨swap_nodup h.dl.1 hn, fun x hx => ?_⟩, by unfold swapL; rw [List.length_map]; exact h.h1, by unfold swapL; rw [List.length_map]; exact h.h4, swap_nodup h.vn (fun q => hn (h.vl _ q)), fun x hx => ?_⟩
  · unfold swapL at hx
    obtain ⟨y, hy, e⟩ := List.mem_map.mp hx
    subst e
    by_cases h1 : y = c
    · rw [if_pos h1]; exact hd
    · rw [if_neg h1]; exact h.dl.2 y hy
  · unfold swapL at hx ⊢
    obtain ⟨y, hy, e⟩ := List.mem_map.mp hx
    exact List.mem_map.mpr ⟨y, h.vl y hy, e⟩
theorem rest_pos {l v : List Nat} (h : AlOk l v) : 0 < (azL.filter fun c => decide (c ∉ l)).length := by
  rcases Nat.eq_zero_or_pos (azL.filter fun c => decide (c ∉ l)).length with e | e
  · have e2 := List.eq_nil_of_length_eq_zero e
    have key : ∀ c ∈ azL, c ∈ l := fun c hc => by
      by_cases hin : c ∈ l
      · exact hin
      · have : c ∈ azL.filter fun c => decide (c ∉ l) := List.mem_filter.mpr ⟨hc, by simp [hin]⟩
        rw [e2] at this
        cases this
    have := len_of_sub az_nodup key
    rw [az_len] at this
    have := h.h4
    omega
  · exact e
theorem nk0 {y : Str} : ∀ p ∈ ([] : List (Str × Nat)), p.1 ≠ y := fun p hp => by cases hp
theorem nk {x y : Str} {t : Nat} {l : List (Str × Nat)} (h : (x == y) = false) (r : ∀ p ∈ l, p.1 ≠ y) : ∀ p ∈ (x, t) :: l, p.1 ≠ y := fun p hp => by
  rcases List.mem_cons.mp hp with rfl | hp
  · exact beq_eq_false_iff_ne.mp h
  · exact r p hp
theorem azL_S : PySem.Str.ofString "abcdefghijklmnopqrstuvwxyz" = S azL := by decide +kernel
section
variable {P : Program} {w : World} {K : PySem.W.Frag} {mg : Str → Option Value} {base : Heap} {a : Ad} {d : Fd}
theorem scOther : FnScope ["_law_bag_here", "_law_names_here", "_law_letters", "_law_vowels", "_law_at", "_law_letter", "_law_rest", "_law_one", "_law_other_here", "_law_kind"] ["_law_bag_here", "_law_names_here"] (defScope sOther) := ⟨rfl, rfl, rfl, by decide +kernel, rfl, by decide +kernel, by decide +kernel⟩
theorem ok_other (T : Fns K mg a d) : FnOk P w K mg base CX0 3 a.aOther d.dOther ["_law_bag_here", "_law_names_here"] spOther := by
  have GTake := ok_take (P := P) (w := w) (base := base) T
  refine T.FOther.ok scOther (fun vs H Q E h => ?_) (fun cdv A0 outer s H vs Q E hr h => ?_)
  · obtain ⟨b, g, u, np, l, v, rfl, _⟩ := h
    rfl
  · obtain ⟨b, g, u, np, l, v, rfl, hB, hnp, hok, nb, ng, k⟩ := h
    refine ⟨_, (pss_cons (ps_set (i := 2) scOther.nd rfl (Or.inr rfl) (pe_ix (r := rIxL K) ix_list (pv 1) pe_int (fun _ _ => rfl)))
      (pss_cons (ps_set (i := 3) scOther.nd rfl (Or.inl rfl) (pe_ix (r := rIxL K) ix_list (pv 1) pe_int (fun _ _ => rfl)))
      (pss_q (i := 4) scOther.nd rfl rfl (pe_call GTake (hr.mono (by decide)) (by rfl) T.gTake T.FTake.kp T.bTake .nil pass0 (pa_cons (pv 0) (pa_cons (pe_callB call_lenS (by rfl) T.z_len (by decide +kernel) (pa_cons (pv 2) pa_nil)) pa_nil)))
      (pssq_ix (i := 5) (j := 2) scOther.nd rfl rfl nk0 rfl (Or.inr (Or.inl rfl)) (pq 4) (fun _ _ => rfl) fun t1 _ =>
      (pssq_lcT (i := 6) (i1 := 7) (j := 2) (lit := azL) (by rfl) scOther.nd rfl rfl (nk (by decide) nk0) (blkOk_by (own := [("_law_one", 7)]) (N := ["_law_bag_here", "_law_names_here", "_law_letters", "_law_vowels", "_law_at", "_law_letter", "_law_rest", "_law_one", "_law_other_here", "_law_kind"]) (sc := defScope sOther) (by decide +kernel)) azL_S (by decide +kernel) (by decide) rfl rfl (by decide) (fun _ _ => rfl) (fun _ _ => Or.inr (Or.inl rfl)) (by rfl) fun kk mm hk1 hkk =>
      (pssq_ixT (i := 8) (j := 6) (kk := kk) (mm := mm) (Nat.le_refl _) scOther.nd rfl rfl (nk (by decide) nk0) hkk hk1 rfl (Or.inl rfl) (peq_call GTake (hr.mono (by decide)) (by rfl) T.gTake T.FTake.kp T.bTake (paq_cons (pq 0) (paq_cons (peq_callB callq_lenTok (by rfl) T.z_len (by decide +kernel) (paq_cons (pq 6) paq_nil)) paq_nil))) (fun _ _ => rfl) fun t2 ht2 =>
      (pssq_set (i := 9) scOther.nd rfl rfl (nk (by decide) (nk (by decide) nk0)) (peq_call GTake (hr.mono (by decide)) (by rfl) T.gTake T.FTake.kp T.bTake (paq_cons (pq 0) (paq_cons peq_int paq_nil)))
      (pssq_if (ptq_and (ptq_eq (pq 9) peq_int) (ptq_and1 (ptq_inS (pq 5) (pq 3)))) (pssq_ret (peq_lst (paq_cons (pq 2) (paq_cons (peq_rplE (ix := 3) (iy := 5) (ty := t1) rfl (Or.inl rfl) rfl rfl (by simp)) paq_nil))))
      (pssq_if (ptq_eq (pq 9) peq_int) (pssq_ret (peq_lst (paq_cons (pq 2) (paq_cons (peq_add (pq 3) (pq 5)) paq_nil))))
      (pssq_if (ptq_and (ptq_eq (pq 9) peq_int) (ptq_and1 (ptq_gt (peq_callB callq_lenS (by rfl) T.z_len (by decide +kernel) (paq_cons (pq 2) paq_nil)) peq_int))) (pssq_ret (peq_lst (paq_cons (peq_add (peq_slice (pq 2) poq_none (poq_some (pq 4))) (peq_slice (pq 2) (poq_some (peq_addI (pq 4) peq_int)) poq_none)) (paq_cons (peq_rplE (ix := 3) (iy := 5) (ty := t1) rfl (Or.inl rfl) rfl rfl (by simp)) paq_nil))))
      (pssq_ret (peq_lst (paq_cons (peq_rpl (ix := 2) (iy := 5) (iz := 8) (ty := t1) (tz := t2) rfl (Or.inr (Or.inl rfl)) rfl rfl (by simp) rfl rfl (by simp) (Nat.ne_of_lt (ht2 ("_law_letter", t1) (by simp)))) (paq_cons (peq_rpl (ix := 3) (iy := 5) (iz := 8) (ty := t1) (tz := t2) rfl (Or.inl rfl) rfl rfl (by simp) rfl rfl (by simp) (Nat.ne_of_lt (ht2 ("_law_letter", t1) (by simp)))) paq_nil))))
      (fun _ _ _ h => h)) (fun _ _ _ h => h)) (fun _ _ _ h => h))))))))), ?_⟩
    have h4 := hok.h4
    have h1 := hok.h1
    have hv4 := hok.vlen
    walk_at "go"
    refine ⟨b, g, u, l.length, rfl, hB, by omega, by omega, fun r H1 hr1 hB1 f1 => ?_⟩
    obtain ⟨c, hc⟩ : ∃ c, l[r]? = some c := ⟨_, List.getElem?_eq_getElem hr1⟩
    have hcl : c ∈ l := List.mem_of_getElem? hc
    have hca : c ∈ azL := hok.dl.2 c hcl
    have hc8 : c < 256 := by have := az_ge c hca; omega
    refine ⟨l, rfl, by omega, _, rfl, r, c, rfl, hc, l, rfl, fun kk mm L hL => ⟨L, rfl, ?_⟩⟩
    have hrest := rest_pos hok
    have hrl : (azL.filter fun c => decide (c ∉ l)).length ≤ 26 := Nat.le_trans (List.length_filter_le _ _) (Nat.le_of_eq az_len)
    have hrm : ∀ d ∈ azL.filter fun c => decide (c ∉ l), d ∈ azL ∧ d ∉ l := fun d hd => by
      obtain ⟨q1, q2⟩ := List.mem_filter.mp hd
      exact ⟨q1, by simpa using q2⟩
    generalize (azL.filter fun c => decide (c ∉ l)) = rest at hrest hrl hrm ⊢
    have f2 : Fr [b, g] H (upd H1 L (TokL L kk mm rest)) := f1.trans (Fr.upd_new hL)
    have hB2 : BagB (upd H1 L (TokL L kk mm rest)) b g u := hB1.same (Same.upd_new hL)
    have hL2 : (upd H1 L (TokL L kk mm rest)) L = some (TokL L kk mm rest) := upd_same
    have Lb := hB1.ne hL
    generalize upd H1 L (TokL L kk mm rest) = H2 at f2 hB2 hL2 ⊢
    refine ⟨_, rfl, ⟨_, rfl, L, kk, mm, rest, rfl, hL2, by omega, ?_⟩⟩
    refine ⟨b, g, u, rest.length, rfl, hB2, hrest, by omega, fun r2 H3 hr3 hB3 f3 => ?_⟩
    obtain ⟨d, hd⟩ : ∃ d, rest[r2]? = some d := ⟨_, List.getElem?_eq_getElem hr3⟩
    obtain ⟨hda, hdl⟩ := hrm d (List.mem_of_getElem? hd)
    have hcd : c ≠ d := fun e => hdl (e ▸ hcl)
    have hL3 : H3 L = some (TokL L kk mm rest) := f3 _ _ (by simp [Lb.1, Lb.2.1]) hL2
    refine ⟨rest, r2, d, rfl, hL3, by omega, hd, ?_⟩
    refine ⟨_, rfl, ⟨b, g, u, 3, rfl, hB3, by omega, by omega, fun r3 H4 hr4 hB4 f4 => ?_⟩⟩
    have f5 : Fr [b, g] H H4 := (f2.trans f3).trans f4
    clear f1 f2 f3 f4 hL3 hL2 hB1 hB2 hB3 hL
    have out : ∀ (l2 v2 : List Nat) (p : Addr), H4 p = none → AlOk l2 v2 → ¬ Alike (45 :: srtL l) (srtL v) (45 :: srtL l2) (srtL v2) → ∀ x y : Str, x = S l2 → y = S v2 → Q (.ref p) (upd H4 p (.lst [.str x, .str y])) := fun l2 v2 p hp ok2 na x y ex ey => by
      subst ex ey
      exact k p l2 v2 _ upd_same ok2 na (hB4.same (Same.upd_new hp)) (f5.trans (Fr.upd_new hp))
    have two : ([.str (S l), .str (S l)] : List V).length ≤ sizeLine := by show 2 ≤ sizeLine; decide
    refine ⟨_, rfl, r3, 0, rfl, rfl, ?_⟩
    dsimp only
    by_cases e0 : r3 = 0
    · subst e0
      rw [if_pos (by simp)]
      refine ⟨_, rfl, _, rfl, c, v, rfl, rfl, ?_⟩
      by_cases hin : c ∈ v
      · rw [if_pos (by simpa using hin)]
        refine ⟨_, rfl, v, c, rfl, rfl, by omega, ⟨by show 2 ≤ sizeLine; decide, fun p hp => ?_⟩⟩
        exact out l _ p hp (hok.drop (c := c)) (not_alike_v fun q => by
          have : c ∈ v.filter (· != c) := q.mem_iff.mp hin
          simp at this) _ _ rfl (repl_S hc8)
      · rw [if_neg (by simpa using hin)]
        refine ⟨_, rfl, 0, 0, rfl, rfl, ?_⟩
        dsimp only
        rw [if_pos (by simp)]
        refine ⟨_, rfl, _, rfl, _, rfl, v, [c], rfl, rfl, by simp; omega, ⟨by show 2 ≤ sizeLine; decide, fun p hp => ?_⟩⟩
        exact out l _ p hp (hok.put hcl hin) (not_alike_v fun q => by
          have := q.length_eq
          rw [List.length_append] at this
          simp at this) _ _ rfl rfl
    · rw [if_neg (by simp; omega)]
      refine ⟨_, rfl, r3, 0, rfl, rfl, ?_⟩
      dsimp only
      rw [if_neg (by simp; omega)]
      refine ⟨_, rfl, r3, 1, rfl, rfl, ?_⟩
      dsimp only
      have last : ∀ σ : L2.St, σ[2]? = some (some (.str (S l))) → σ[3]? = some (some (.str (S v))) → σ[5]? = some (some (.str (S [c]))) → σ[8]? = some (some (.str (S [d]))) → tRet (tLst (tCons (tRpl 2 5 8) (tCons (tRpl 3 5 8) tNil))) { nx := fun x H' => Q V.non H', rt := Q } σ H4 := fun σ s2 s3 s5 s8 => by
        refine ⟨l, c, d, s2, s5, s8, hcd, by omega, v, c, d, s3, s5, s8, hcd, by omega, ⟨by show 2 ≤ sizeLine; decide, fun p hp => ?_⟩⟩
        exact out _ _ p hp (hok.swap hda hdl) (not_alike_l fun q => by
          have : c ∈ swapL c d l := q.mem_iff.mp hcl
          unfold swapL at this
          obtain ⟨y, hy, e⟩ := List.mem_map.mp this
          by_cases h1 : y = c
          · rw [if_pos h1] at e; exact hcd e.symm
          · rw [if_neg h1] at e; exact h1 e) _ _ (replace_S l) (replace_S v)
      by_cases e1 : r3 = 1
      · rw [if_pos (by simp; omega)]
        refine ⟨_, rfl, l, rfl, by omega, l.length, 1, rfl, rfl, ?_⟩
        dsimp only
        by_cases h2 : 1 < l.length
        · rw [if_pos (by simp; omega)]
          have zl : (S l).length ≤ sizeLine := by rw [S_len]; have : (1000 : Nat) < sizeLine := by decide
                                                  omega
          have hp := (cut_perm hc).length_eq
          rw [List.length_cons, List.length_append] at hp
          refine ⟨_, rfl, _, rfl, (r : Int), rfl, S l, rfl, zl, _, rfl, _, rfl, (r : Int), 1, rfl, rfl, ((r : Int) + 1), rfl, S l, rfl, zl, l.take r, l.drop (r + 1), by rw [S_to], by rw [show (r : Int) + 1 = ((r + 1 : Nat) : Int) by omega, S_from], by omega, v, c, rfl, rfl, by omega, ⟨by show 2 ≤ sizeLine; decide, fun p hp2 => ?_⟩⟩
          exact out _ _ p hp2 (hok.cut hc h2) (not_alike_l fun q => by
            have := q.length_eq
            rw [List.length_append] at this
            omega) _ _ rfl (repl_S hc8)
        · rw [if_neg (by simp; omega)]
          exact last _ rfl rfl rfl rfl
      · rw [if_neg (by simp; omega)]
        exact last _ rfl rfl rfl rfl
end
end
section
set_option Elab.async false
set_option linter.all false
set_option maxRecDepth 100000
set_option maxHeartbeats 4000000
open PySem PySem.Spec PyProof.Rows L2 NSet
theorem iBinO {C : Addr} {sp : Sp} {E : L2.St → XK} {ta tb : TE} {σ : L2.St} {H : Hp} {Q : VK} (h : ta σ H fun x H1 => tb σ H1 fun y H2 => ∃ a dx fs b dy gs, x = .ref a ∧ y = .ref b ∧ H2 a = some (.ins C dx fs) ∧ H2 b = some (.ins C dy gs) ∧ sp [x, y] H2 Q (E σ)) : tBinO C sp E ta tb σ H Q := h
theorem Tb.ins {a : Ad} {H : Hp} {t al : Addr} {sg W : List Nat} {R : Rel} (h : Tb a H t al sg W R) : ∃ dx lp, H t = some (.ins a.cTable dx [("alphabet", .ref al), ("_pairs", .ref lp)]) := by
  obtain ⟨lp, qs, ⟨dx, h⟩, _⟩ := h
  exact ⟨dx, lp, h⟩
theorem blkOk_nest {N : List Str} {own : List (Str × Nat)} {scope scope2 : Scope} {cl : List (Str × Addr)} {C : Addr} {env : Env} (sc : Scope) (e : env.scope = sc) (h : blkC N (relS scope sc) scope2 own = true) : BlkOk N (compEnvC scope cl C env).scope scope2 own := by
  subst e
  exact blkOk_by h
theorem iCMeth {C : Addr} {sp : Sp} {E : XK} {tf : TE} {ta : TA} {σ : L2.St} {H : Hp} {Q : VK} (h : tf σ H fun x H1 => x = .ref C ∧ ta σ H1 fun vs H2 => sp (.ref C :: vs) H2 Q E) : ClX.tCMeth C sp E tf ta σ H Q := h

local macro_rules | `(tactic| walk_at "side") => `(tactic| exact .inl (by assumption))
local macro_rules | `(tactic| walk_at "go1") => `(tactic| (with_reducible refine iGTup (by assumption) rfl ?_))
local macro_rules | `(tactic| walk_at "go1") => `(tactic| (with_reducible refine iGCons ?_))
local macro_rules | `(tactic| walk_at "go1") => `(tactic| (with_reducible refine iGNil ?_))
local macro_rules | `(tactic| walk_at "go1") => `(tactic| (with_reducible refine iMakeV ?_))
local macro_rules | `(tactic| walk_at "go1") => `(tactic| (with_reducible refine iMakeD ?_))
local macro_rules | `(tactic| walk_at "go1") => `(tactic| (with_reducible refine iLc2S ?_))
local macro_rules | `(tactic| walk_at "go1") => `(tactic| (with_reducible refine iLc2L ?_))
local macro_rules | `(tactic| walk_at "go1") => `(tactic| (with_reducible refine iIStr ?_))
local macro_rules | `(tactic| walk_at "go1") => `(tactic| (with_reducible refine iIxI ?_))
local macro_rules | `(tactic| walk_at "go1") => `(tactic| (with_reducible refine iBinO ?_))
local macro_rules | `(tactic| walk_at "go1") => `(tactic| (with_reducible refine iCMeth ?_))

section
variable {P : Program} {w : World} {K : PySem.W.Frag} {mg : Str → Option Value} {base : Heap} {a : Ad} {d : Fd}

def gbR (sg : List Nat) (R W : Rel) : Rel := fun m o => sg.all fun t => !R t m || W t o
def gaR (sg : List Nat) (R W : Rel) : Rel := fun t m => sg.all fun o => !R m o || W t o
def spGB (a : Ad) : Sp := fun vs H Q E => ∃ (t al t2 al2 : Addr) (sg W sg2 W2 : List Nat) (A B : Rel), vs = [.ref t, .ref t2] ∧ Tb a H t al sg W A ∧ Tb a H t2 al2 sg2 W2 B ∧ SgOk sg ∧ SgOk sg2 ∧
  (Alike sg W sg2 W2 → ∀ r H', Same H H' → Tb a H' r al sg W (gbR sg A B) → Q (.ref r) H') ∧ (¬ Alike sg W sg2 W2 → ∀ H', Same H H' → E (.ref a.cMixed) none H')
theorem scGB : FnScope ["first", "whole", "before", "mid", "out", "told"] ["first", "whole"] (defScope sGB) := ⟨rfl, rfl, rfl, by decide +kernel, rfl, by decide +kernel, by decide +kernel⟩
theorem ok_gb (T : Fns K mg a d) (GAlEq : FnOk P w K mg base CX0 1 a.aAlEq d.dAlEq ["self", "other"] (spEq a.cAlphabet)) (MT : Mk K a.cTable a.aTInit) (bTInit : Binds K d.dTInit ["self", "alphabet", "pairs"] []) : FnOk P w K mg base (L2.CX P w) 7 a.aGB d.dGB ["first", "whole"] (spGB a) := by
  have GTInit := ok_init (P := P) (w := w) (base := base) T
  have GPCheckAlphabets := ok_ckA (P := P) (w := w) (base := base) T GAlEq
  have GTGet := ok_get (P := P) (w := w) (base := base) T
  have GTInv := ok_inv (P := P) (w := w) (base := base) T MT bTInit
  have GTFull := ok_full (P := P) (w := w) (base := base) T MT bTInit
  have GTPairs := ok_pairsM (P := P) (w := w) (base := base) T
  have GTIn := ok_inM (P := P) (w := w) (base := base) T
  refine T.FGB.okX scGB (fun vs H Q E h => ?_) (fun cdv A outer s H vs Q E hr h => ?_)
  · obtain ⟨t, al, t2, al2, sg, W, sg2, W2, R, R2, rfl, _⟩ := h
    rfl
  · obtain ⟨t, al, t2, al2, sg, W, sg2, W2, R, R2, rfl, hT0, hT20, hsg, hsg2, k1, k2⟩ := h
    obtain ⟨lp, qs, hT⟩ := id hT0
    obtain ⟨lp2, qs2, hT2⟩ := id hT20
    obtain ⟨⟨dx, ht⟩, hal, hp, ec⟩ := id hT
    obtain ⟨⟨dx2, ht2⟩, hal2, hp2, ec2⟩ := id hT2
    have clT := T.clT
    have nTp := T.nTp
    have nTa := T.nTa
    refine ⟨_, ((pss_cons (ps_expr (pe_call GPCheckAlphabets (hr.mono (by decide)) (by rfl) T.gPCheckAlphabets T.FPCheckAlphabets.kp T.bPCheckAlphabets .nil (passes_call (takes_of rfl rfl rfl rfl) (fun _ _ _ _ h => h)) (pa_cons (pe_lst (pa_cons (pv 0) (pa_cons (pv 1) pa_nil))) pa_nil)))
      (pss_cons (ps_set (i := 2) scGB.nd rfl (Or.inr rfl) (pe_un (un_invI T.mTInv.at_ T.mTInv.fn (GTInv.raw T.bTInv .nil) (hr.mono (by decide)) passE) (pv 0)))
      (pss_one (ps_ret (pe_make MT GTInit (hr.mono (by decide)) (by rfl) T.gcTable bTInit .nil (passes_call (takes_of rfl rfl rfl rfl) (fun _ _ _ _ h => h)) (pa_cons (pe_fld (pv 0) rfl) (pa_cons (pe_lc (own := [("mid", 3), ("out", 4)]) (g := (gTup K 2 (gCons (gName 3) (gCons (gName 4) gNil)))) (by rfl) scGB.nd (pi_list (pe_meth0 (ClX.pe_cmeth (pe_glob (v := .ref a.cTable) (by rfl) T.gcTable rfl) T.crT T.cTFull (GTFull.raw T.bTFull .nil) (hr.mono (by decide)) passE (pa_cons (pe_fld (pv 0) rfl) pa_nil)) T.clT T.mTPairs GTPairs (hr.mono (by decide)) T.bTPairs .nil pass0)) (blkOk_by (own := [("mid", 3), ("out", 4)]) (N := ["first", "whole", "before", "mid", "out", "told"]) (sc := defScope sGB) (by decide +kernel)) (fun _ _ _ _ _ => (pg_tup rfl (pgs_cons (pg_name (i := 3) scGB.nd rfl (Or.inl rfl)) (pgs_cons (pg_name (i := 4) scGB.nd rfl (Or.inr rfl)) pgs_nil)))) (fun _ _ _ _ _ => (pts_one (pt_val (pe_callB (id := "all") (r := rAll K) (cr_all rfl) (by rfl) T.z_all (by decide +kernel) (pa_cons (pe_lc (own := [("told", 5)]) (g := gName 5) (by rfl) scGB.nd (pi_str (pe_ixI T.mTGet.at_ T.fnTGet T.mTGet.fn (GTGet.raw T.bTGet .nil) (hr.mono (by decide)) (fun σ pins H s e s' => passE pins σ H s e s') (pv 2) (pv 3) (fun _ _ => rfl))) (blkOk_nest (own := [("told", 5)]) (N := ["first", "whole", "before", "mid", "out", "told"]) (defScope sGB) rfl (by decide +kernel)) (fun _ _ _ _ _ => pg_name (i := 5) scGB.nd rfl (Or.inl rfl)) (fun _ _ _ _ _ => pts_nil) (fun _ _ _ _ _ => (pe_cmpR (op_inI T.mTIn.at_ T.mTIn.fn GTIn (hr.mono (by decide)) T.bTIn pass0) (pe_tup (pa_cons (pv 5) (pa_cons (pv 4) pa_nil))) (pv 1) rfl))) pa_nil))))) (fun _ _ _ _ _ => (pe_tup (pa_cons (pv 3) (pa_cons (pv 4) pa_nil))))) pa_nil)))))))), ?_⟩
    walk_at "go"
    rename_i cp hcp
    have s0 : Same H (upd H cp (.lst [.ref t, .ref t2])) := Same.upd_new hcp
    have hcp1 : (upd H cp (.lst [.ref t, .ref t2])) cp = some (.lst [.ref t, .ref t2]) := upd_same
    generalize upd H cp (.lst [.ref t, .ref t2]) = H1 at s0 hcp1 ⊢
    refine ⟨cp, t, t2, al, al2, sg, W, sg2, W2, R, R2, rfl, hcp1, hT0.same s0, hT20.same s0, fun ek => ?_, fun ek H' s => k2 ek H' (Vk.Same.trans s0 s)⟩
    obtain ⟨rfl, rfl⟩ := ek
    have k1 := k1 ⟨rfl, rfl⟩
    have ht1 := s0 _ _ ht
    have ht21 := s0 _ _ ht2
    have hal1 := hal.same s0
    have hT1 := hT0.same s0
    have hT21 := hT20.same s0
    walk_at "go"
    refine ⟨t, dx, _, rfl, ht1, t, al, sg, W, R, rfl, hT1, hsg, fun bt H2 s2 hB => ?_⟩
    have ht2' := s2 _ _ ht1
    have ht22 := s2 _ _ ht21
    have hal2' := hal1.same s2
    have hT22 := hT21.same s2
    walk_at "go"
    refine ⟨al, sg, W, rfl, hal2', hsg, fun ft H3 s3 hF => ?_⟩
    obtain ⟨df, lf, hif⟩ := hF.ins
    have ht3 := s3 _ _ ht2'
    have ht23 := s3 _ _ ht22
    have hB3 := hB.same s3
    have hT23 := hT22.same s3
    walk_at "go"
    refine ⟨ft, al, sg, W, _, rfl, hF, hsg, fun pp ms H4 hpp ems s4 => ?_⟩
    have ht4 := s4 _ _ ht3
    have ht24 := s4 _ _ ht23
    have hB4 := hB3.same s4
    have hT24 := hT23.same s4
    have hpl := hpp.l
    obtain ⟨db, lb, hib⟩ := hB4.ins
    walk_at "go"
    rename_i D hD
    have hl5 := hsg.l
    have hms25 : ms.length ≤ 25 := by
      have h1 := can_len (R := fun _ _ => true) hsg.a
      rw [← ems, List.length_map] at h1
      have h2 := Nat.mul_le_mul hl5 hl5
      omega
    refine lc_list (K := K) (a := pp) (xs := ms.map fun q => V.ref q.1) (fun i H' => NewP H4 D (((ms.map (·.2)).take i).filter fun q => gbR sg R R2 q.1 q.2) H') (NewP.start hD) (fun i H' _ h => SqL.of (by obtain ⟨_, _, _, s⟩ := h; exact s _ _ hpl)) ?_ ?_
    · rintro i x H5 hi hP
      rw [List.getElem?_map] at hi
      obtain ⟨q, hq, rfl⟩ := Option.map_eq_some_iff.mp hi
      have hqm := List.mem_of_getElem? hq
      have hil := (List.getElem?_eq_some_iff.mp hq).1
      have hqc := mem_can.mp (show q.2 ∈ canL sg (fun _ _ => true) by rw [← ems]; exact List.mem_map.mpr ⟨q, hqm, rfl⟩)
      obtain ⟨ms0, hms0, ems0, s50⟩ := id hP
      have hqt := s50 _ _ (hpp.t q hqm)
      have hb5 := s50 _ _ hib
      walk_at "go"
      refine ⟨bt, al, q.2.1, sg, W, invR R, rfl, hB4.same s50, hsg, hqc.1, fun H7 s7 => ?_⟩
      have hP7 := hP.same s7
      obtain ⟨ms7, hms7, ems7, s57⟩ := id hP7
      have ht27 := s57 _ _ ht24
      walk_at "go"
      rename_i D2 hD2
      have lf := List.length_filter_le (invR R q.2.1) sg
      refine lcg_S (fun j H' => H' D2 = some (.lst (((sg.filter (invR R q.2.1)).take j).map fun t => V.bl (decide ((t, q.2.2) ∈ canL sg R2)))) ∧ Same H7 H') ⟨upd_same, Same.upd_new hD2⟩ (fun _ => rfl) (fun j c H' hc hP2 => ?_) (fun H' hP2 => ?_)
      · obtain ⟨h8, s8⟩ := hP2
        have ht28 := s8 _ _ ht27
        have hT28 := (hT24.same s57).same s8
        have hcm := (List.mem_filter.mp (List.mem_of_getElem? hc)).1
        have hjl := (List.getElem?_eq_some_iff.mp hc).1
        walk_at "go"
        rename_i tp htp
        have s9 : Same H' (upd H' tp (.tup [.str (S [c]), .str (S [q.2.2])])) := Same.upd_new htp
        have htp9 : (upd H' tp (.tup [.str (S [c]), .str (S [q.2.2])])) tp = some (.tup [.str (S [c]), .str (S [q.2.2])]) := upd_same
        generalize upd H' tp (.tup [.str (S [c]), .str (S [q.2.2])]) = H9 at s9 htp9 ⊢
        refine ⟨t2, dx2, _, rfl, s9 _ _ ht28, t2, al2, tp, (c, q.2.2), sg, W, R2, rfl, hT28.same s9, hsg, htp9, hsg.c _ hcm, hsg.c _ hqc.2.1, _, rfl, ?_⟩
        walk_at "go"
        refine ⟨by rw [List.length_map, List.length_take, sizeLine_eq]; omega, ?_, fun b o hb => ?_⟩
        · rw [upd_same, List.take_add_one, hc, List.map_append]
          rfl
        · rw [upd_ne (fun z => by rw [z, hD2] at hb; cases hb)]
          exact s9 _ _ (s8 _ _ hb)
      · obtain ⟨h8, s8⟩ := hP2
        rw [List.take_length] at h8
        have hP8 := hP7.same s8
        refine ⟨D2, (sg.filter (invR R q.2.1)).map fun t => decide ((t, q.2.2) ∈ canL sg R2), rfl, SqL.of (by rw [h8, List.map_map]; rfl), ?_⟩
        have e : ((sg.filter (invR R q.2.1)).map fun t => decide ((t, q.2.2) ∈ canL sg R2)).all id = gbR sg R R2 q.2.1 q.2.2 := by
          unfold gbR
          rw [Bool.eq_iff_iff, List.all_eq_true, List.all_eq_true]
          constructor
          · intro h s hs
            cases hr : R s q.2.1 with
            | false => rfl
            | true =>
              have h1 := h _ (List.mem_map.mpr ⟨s, List.mem_filter.mpr ⟨hs, hr⟩, rfl⟩)
              have h2 := (mem_can.mp (of_decide_eq_true h1)).2.2
              simpa using h2
          · intro h b hb
            obtain ⟨s, hs, e⟩ := List.mem_map.mp hb
            rw [← e]
            obtain ⟨m1, m2⟩ := List.mem_filter.mp hs
            have h1 := h s m1
            rw [show R s q.2.1 = true from m2] at h1
            exact decide_eq_true (mem_can.mpr ⟨m1, hqc.2.1, by simpa using h1⟩)
        rw [e]
        refine ⟨_, rfl, ?_⟩
        have etk : (ms.map (·.2)).take (i + 1) = (ms.map (·.2)).take i ++ [q.2] := by rw [List.take_add_one, List.getElem?_map, hq]; rfl
        rw [etk, List.filter_append]
        cases hg : gbR sg R R2 q.2.1 q.2.2 with
        | false =>
          rw [if_neg Bool.false_ne_true]
          have : ([q.2].filter fun q => gbR sg R R2 q.1 q.2) = [] := by simp [hg]
          rw [this, List.append_nil]
          exact hP8
        | true =>
          rw [if_pos rfl]
          have : ([q.2].filter fun q => gbR sg R R2 q.1 q.2) = [q.2] := by simp [hg]
          rw [this]
          obtain ⟨ms8, hms8, ems8, s58⟩ := id hP8
          walk_at "go"
          rename_i pq hpq
          exact newp_put hms8 ems8 s58 hD hpq (by
            have := List.length_filter_le (fun q => gbR sg R R2 q.1 q.2) ((ms.map (·.2)).take i)
            rw [List.length_take, List.length_map] at this
            omega) q.2.1 q.2.2 rfl
    · rintro H5 hP
      rw [List.length_map, List.take_of_length_le (by rw [List.length_map]; exact Nat.le_refl _)] at hP
      obtain ⟨ns, hns, ens, s5⟩ := hP
      have hsa : Same H H5 := Vk.Same.trans s0 (Vk.Same.trans s2 (Vk.Same.trans s3 (Vk.Same.trans s4 s5)))
      walk_at "go"
      intro x dx' hx hdx hn
      have hnl : ns.length ≤ 25 := by
        rw [← List.length_map (f := (·.2)), ens]
        have := List.length_filter_le (fun q => gbR sg R R2 q.1 q.2) (ms.map (·.2))
        rw [List.length_map] at this
        omega
      refine iMk (qs := ns) hx hdx hn (hal.same hsa) hsg hns (by omega) (fun q hq => ?_) fun lp' ns' H' h1 h2 h3 => k1 _ _ (Vk.Same.trans hsa h2) (Tb.agr ⟨lp', ns', h3⟩ hsg.a fun s hs u hu => ?_)
      · have m := (List.mem_filter.mp (mem_ms ens hq)).1
        rw [ems] at m
        exact ⟨(mem_can.mp m).1, (mem_can.mp m).2.1⟩
      · unfold relP relQ
        rw [ens, ems, Bool.eq_iff_iff, decide_eq_true_iff, List.mem_filter]
        exact ⟨fun h => h.2, fun h => ⟨mem_can.mpr ⟨hs, hu, rfl⟩, h⟩⟩
end
end
section
set_option Elab.async false
set_option linter.all false
set_option maxRecDepth 100000
set_option maxHeartbeats 4000000
open PySem PySem.Spec PyProof.Rows L2 NSet

local macro_rules | `(tactic| walk_at "side") => `(tactic| exact .inl (by assumption))
local macro_rules | `(tactic| walk_at "go1") => `(tactic| (with_reducible refine iGTup (by assumption) rfl ?_))
local macro_rules | `(tactic| walk_at "go1") => `(tactic| (with_reducible refine iGCons ?_))
local macro_rules | `(tactic| walk_at "go1") => `(tactic| (with_reducible refine iGNil ?_))
local macro_rules | `(tactic| walk_at "go1") => `(tactic| (with_reducible refine iMakeV ?_))
local macro_rules | `(tactic| walk_at "go1") => `(tactic| (with_reducible refine iMakeD ?_))
local macro_rules | `(tactic| walk_at "go1") => `(tactic| (with_reducible refine iLc2S ?_))
local macro_rules | `(tactic| walk_at "go1") => `(tactic| (with_reducible refine iLc2L ?_))
local macro_rules | `(tactic| walk_at "go1") => `(tactic| (with_reducible refine iIStr ?_))
local macro_rules | `(tactic| walk_at "go1") => `(tactic| (with_reducible refine iIxI ?_))
local macro_rules | `(tactic| walk_at "go1") => `(tactic| (with_reducible refine iBinO ?_))
local macro_rules | `(tactic| walk_at "go1") => `(tactic| (with_reducible refine iCMeth ?_))

section
variable {P : Program} {w : World} {K : PySem.W.Frag} {mg : Str → Option Value} {base : Heap} {a : Ad} {d : Fd}
def spGA (a : Ad) : Sp := fun vs H Q E => ∃ (t al t2 al2 : Addr) (sg W sg2 W2 : List Nat) (A B : Rel), vs = [.ref t, .ref t2] ∧ Tb a H t al sg W A ∧ Tb a H t2 al2 sg2 W2 B ∧ SgOk sg ∧ SgOk sg2 ∧
  (Alike sg W sg2 W2 → ∀ r H', Same H H' → Tb a H' r al sg W (gaR sg A B) → Q (.ref r) H') ∧ (¬ Alike sg W sg2 W2 → ∀ H', Same H H' → E (.ref a.cMixed) none H')
theorem scGA : FnScope ["last", "whole", "told", "mid", "out"] ["last", "whole"] (defScope sGA) := ⟨rfl, rfl, rfl, by decide +kernel, rfl, by decide +kernel, by decide +kernel⟩
theorem ok_ga (T : Fns K mg a d) (GAlEq : FnOk P w K mg base CX0 1 a.aAlEq d.dAlEq ["self", "other"] (spEq a.cAlphabet)) (MT : Mk K a.cTable a.aTInit) (bTInit : Binds K d.dTInit ["self", "alphabet", "pairs"] []) : FnOk P w K mg base (L2.CX P w) 7 a.aGA d.dGA ["last", "whole"] (spGA a) := by
  have GTInit := ok_init (P := P) (w := w) (base := base) T
  have GPCheckAlphabets := ok_ckA (P := P) (w := w) (base := base) T GAlEq
  have GTGet := ok_get (P := P) (w := w) (base := base) T
  have GTFull := ok_full (P := P) (w := w) (base := base) T MT bTInit
  have GTPairs := ok_pairsM (P := P) (w := w) (base := base) T
  have GTIn := ok_inM (P := P) (w := w) (base := base) T
  refine T.FGA.okX scGA (fun vs H Q E h => ?_) (fun cdv A outer s H vs Q E hr h => ?_)
  · obtain ⟨t, al, t2, al2, sg, W, sg2, W2, R, R2, rfl, _⟩ := h
    rfl
  · obtain ⟨t, al, t2, al2, sg, W, sg2, W2, R, R2, rfl, hT0, hT20, hsg, hsg2, k1, k2⟩ := h
    obtain ⟨lp, qs, hT⟩ := id hT0
    obtain ⟨lp2, qs2, hT2⟩ := id hT20
    obtain ⟨⟨dx, ht⟩, hal, hp, ec⟩ := id hT
    obtain ⟨⟨dx2, ht2⟩, hal2, hp2, ec2⟩ := id hT2
    have clT := T.clT
    have nTp := T.nTp
    have nTa := T.nTa
    refine ⟨_, ((pss_cons (ps_expr (pe_call GPCheckAlphabets (hr.mono (by decide)) (by rfl) T.gPCheckAlphabets T.FPCheckAlphabets.kp T.bPCheckAlphabets .nil (passes_call (takes_of rfl rfl rfl rfl) (fun _ _ _ _ h => h)) (pa_cons (pe_lst (pa_cons (pv 0) (pa_cons (pv 1) pa_nil))) pa_nil)))
      (pss_one (ps_ret (pe_make MT GTInit (hr.mono (by decide)) (by rfl) T.gcTable bTInit .nil (passes_call (takes_of rfl rfl rfl rfl) (fun _ _ _ _ h => h)) (pa_cons (pe_fld (pv 0) rfl) (pa_cons (pe_lc (own := [("told", 2), ("mid", 3)]) (g := (gTup K 2 (gCons (gName 2) (gCons (gName 3) gNil)))) (by rfl) scGA.nd (pi_list (pe_meth0 (ClX.pe_cmeth (pe_glob (v := .ref a.cTable) (by rfl) T.gcTable rfl) T.crT T.cTFull (GTFull.raw T.bTFull .nil) (hr.mono (by decide)) passE (pa_cons (pe_fld (pv 0) rfl) pa_nil)) T.clT T.mTPairs GTPairs (hr.mono (by decide)) T.bTPairs .nil pass0)) (blkOk_by (own := [("told", 2), ("mid", 3)]) (N := ["last", "whole", "told", "mid", "out"]) (sc := defScope sGA) (by decide +kernel)) (fun _ _ _ _ _ => (pg_tup rfl (pgs_cons (pg_name (i := 2) scGA.nd rfl (Or.inr rfl)) (pgs_cons (pg_name (i := 3) scGA.nd rfl (Or.inl rfl)) pgs_nil)))) (fun _ _ _ _ _ => (pts_one (pt_val (pe_callB (id := "all") (r := rAll K) (cr_all rfl) (by rfl) T.z_all (by decide +kernel) (pa_cons (pe_lc (own := [("out", 4)]) (g := gName 4) (by rfl) scGA.nd (pi_str (pe_ixI T.mTGet.at_ T.fnTGet T.mTGet.fn (GTGet.raw T.bTGet .nil) (hr.mono (by decide)) (fun σ pins H s e s' => passE pins σ H s e s') (pv 0) (pv 3) (fun _ _ => rfl))) (blkOk_nest (own := [("out", 4)]) (N := ["last", "whole", "told", "mid", "out"]) (defScope sGA) rfl (by decide +kernel)) (fun _ _ _ _ _ => pg_name (i := 4) scGA.nd rfl (Or.inl rfl)) (fun _ _ _ _ _ => pts_nil) (fun _ _ _ _ _ => (pe_cmpR (op_inI T.mTIn.at_ T.mTIn.fn GTIn (hr.mono (by decide)) T.bTIn pass0) (pe_tup (pa_cons (pv 2) (pa_cons (pv 4) pa_nil))) (pv 1) rfl))) pa_nil))))) (fun _ _ _ _ _ => (pe_tup (pa_cons (pv 2) (pa_cons (pv 3) pa_nil))))) pa_nil))))))), ?_⟩
    walk_at "go"
    rename_i cp hcp
    have s0 : Same H (upd H cp (.lst [.ref t, .ref t2])) := Same.upd_new hcp
    have hcp1 : (upd H cp (.lst [.ref t, .ref t2])) cp = some (.lst [.ref t, .ref t2]) := upd_same
    generalize upd H cp (.lst [.ref t, .ref t2]) = H1 at s0 hcp1 ⊢
    refine ⟨cp, t, t2, al, al2, sg, W, sg2, W2, R, R2, rfl, hcp1, hT0.same s0, hT20.same s0, fun ek => ?_, fun ek H' s => k2 ek H' (Vk.Same.trans s0 s)⟩
    obtain ⟨rfl, rfl⟩ := ek
    have k1 := k1 ⟨rfl, rfl⟩
    have ht1 := s0 _ _ ht
    have ht21 := s0 _ _ ht2
    have hal1 := hal.same s0
    have hT1 := hT0.same s0
    have hT21 := hT20.same s0
    walk_at "go"
    have s2 : Same H1 H1 := fun _ _ h => h
    have hB := hT1
    have ht2' := s2 _ _ ht1
    have ht22 := s2 _ _ ht21
    have hal2' := hal1.same s2
    have hT22 := hT21.same s2
    refine ⟨al, sg, W, rfl, hal2', hsg, fun ft H3 s3 hF => ?_⟩
    obtain ⟨df, lf, hif⟩ := hF.ins
    have ht3 := s3 _ _ ht2'
    have ht23 := s3 _ _ ht22
    have hB3 := hB.same s3
    have hT23 := hT22.same s3
    walk_at "go"
    refine ⟨ft, al, sg, W, _, rfl, hF, hsg, fun pp ms H4 hpp ems s4 => ?_⟩
    have ht4 := s4 _ _ ht3
    have ht24 := s4 _ _ ht23
    have hB4 := hB3.same s4
    have hT24 := hT23.same s4
    have hpl := hpp.l
    obtain ⟨db, lb, hib⟩ := hB4.ins
    walk_at "go"
    rename_i D hD
    have hl5 := hsg.l
    have hms25 : ms.length ≤ 25 := by
      have h1 := can_len (R := fun _ _ => true) hsg.a
      rw [← ems, List.length_map] at h1
      have h2 := Nat.mul_le_mul hl5 hl5
      omega
    refine lc_list (K := K) (a := pp) (xs := ms.map fun q => V.ref q.1) (fun i H' => NewP H4 D (((ms.map (·.2)).take i).filter fun q => gaR sg R R2 q.1 q.2) H') (NewP.start hD) (fun i H' _ h => SqL.of (by obtain ⟨_, _, _, s⟩ := h; exact s _ _ hpl)) ?_ ?_
    · rintro i x H5 hi hP
      rw [List.getElem?_map] at hi
      obtain ⟨q, hq, rfl⟩ := Option.map_eq_some_iff.mp hi
      have hqm := List.mem_of_getElem? hq
      have hil := (List.getElem?_eq_some_iff.mp hq).1
      have hqc := mem_can.mp (show q.2 ∈ canL sg (fun _ _ => true) by rw [← ems]; exact List.mem_map.mpr ⟨q, hqm, rfl⟩)
      obtain ⟨ms0, hms0, ems0, s50⟩ := id hP
      have hqt := s50 _ _ (hpp.t q hqm)
      have hb5 := s50 _ _ hib
      walk_at "go"
      refine ⟨t, al, q.2.2, sg, W, R, rfl, hB4.same s50, hsg, hqc.2.1, fun H7 s7 => ?_⟩
      have hP7 := hP.same s7
      obtain ⟨ms7, hms7, ems7, s57⟩ := id hP7
      have ht27 := s57 _ _ ht24
      walk_at "go"
      rename_i D2 hD2
      have lf := List.length_filter_le (R q.2.2) sg
      refine lcg_S (fun j H' => H' D2 = some (.lst (((sg.filter (R q.2.2)).take j).map fun t => V.bl (decide ((q.2.1, t) ∈ canL sg R2)))) ∧ Same H7 H') ⟨upd_same, Same.upd_new hD2⟩ (fun _ => rfl) (fun j c H' hc hP2 => ?_) (fun H' hP2 => ?_)
      · obtain ⟨h8, s8⟩ := hP2
        have ht28 := s8 _ _ ht27
        have hT28 := (hT24.same s57).same s8
        have hcm := (List.mem_filter.mp (List.mem_of_getElem? hc)).1
        have hjl := (List.getElem?_eq_some_iff.mp hc).1
        walk_at "go"
        rename_i tp htp
        have s9 : Same H' (upd H' tp (.tup [.str (S [q.2.1]), .str (S [c])])) := Same.upd_new htp
        have htp9 : (upd H' tp (.tup [.str (S [q.2.1]), .str (S [c])])) tp = some (.tup [.str (S [q.2.1]), .str (S [c])]) := upd_same
        generalize upd H' tp (.tup [.str (S [q.2.1]), .str (S [c])]) = H9 at s9 htp9 ⊢
        refine ⟨t2, dx2, _, rfl, s9 _ _ ht28, t2, al2, tp, (q.2.1, c), sg, W, R2, rfl, hT28.same s9, hsg, htp9, hsg.c _ hqc.1, hsg.c _ hcm, _, rfl, ?_⟩
        walk_at "go"
        refine ⟨by rw [List.length_map, List.length_take, sizeLine_eq]; omega, ?_, fun b o hb => ?_⟩
        · rw [upd_same, List.take_add_one, hc, List.map_append]
          rfl
        · rw [upd_ne (fun z => by rw [z, hD2] at hb; cases hb)]
          exact s9 _ _ (s8 _ _ hb)
      · obtain ⟨h8, s8⟩ := hP2
        rw [List.take_length] at h8
        have hP8 := hP7.same s8
        refine ⟨D2, (sg.filter (R q.2.2)).map fun t => decide ((q.2.1, t) ∈ canL sg R2), rfl, SqL.of (by rw [h8, List.map_map]; rfl), ?_⟩
        have e : ((sg.filter (R q.2.2)).map fun t => decide ((q.2.1, t) ∈ canL sg R2)).all id = gaR sg R R2 q.2.1 q.2.2 := by
          unfold gaR
          rw [Bool.eq_iff_iff, List.all_eq_true, List.all_eq_true]
          constructor
          · intro h s hs
            cases hr : R q.2.2 s with
            | false => rfl
            | true =>
              have h1 := h _ (List.mem_map.mpr ⟨s, List.mem_filter.mpr ⟨hs, hr⟩, rfl⟩)
              have h2 := (mem_can.mp (of_decide_eq_true h1)).2.2
              simpa using h2
          · intro h b hb
            obtain ⟨s, hs, e⟩ := List.mem_map.mp hb
            rw [← e]
            obtain ⟨m1, m2⟩ := List.mem_filter.mp hs
            have h1 := h s m1
            rw [show R q.2.2 s = true from m2] at h1
            exact decide_eq_true (mem_can.mpr ⟨hqc.1, m1, by simpa using h1⟩)
        rw [e]
        refine ⟨_, rfl, ?_⟩
        have etk : (ms.map (·.2)).take (i + 1) = (ms.map (·.2)).take i ++ [q.2] := by rw [List.take_add_one, List.getElem?_map, hq]; rfl
        rw [etk, List.filter_append]
        cases hg : gaR sg R R2 q.2.1 q.2.2 with
        | false =>
          rw [if_neg Bool.false_ne_true]
          have : ([q.2].filter fun q => gaR sg R R2 q.1 q.2) = [] := by simp [hg]
          rw [this, List.append_nil]
          exact hP8
        | true =>
          rw [if_pos rfl]
          have : ([q.2].filter fun q => gaR sg R R2 q.1 q.2) = [q.2] := by simp [hg]
          rw [this]
          obtain ⟨ms8, hms8, ems8, s58⟩ := id hP8
          refine ⟨_, rfl, _, rfl, by show 2 ≤ sizeLine; decide, fun pq hpq => ?_⟩
          exact ⟨_, newp_put hms8 ems8 s58 hD hpq (by
            have := List.length_filter_le (fun q => gaR sg R R2 q.1 q.2) ((ms.map (·.2)).take i)
            rw [List.length_take, List.length_map] at this
            omega) q.2.1 q.2.2 rfl⟩
    · rintro H5 hP
      rw [List.length_map, List.take_of_length_le (by rw [List.length_map]; exact Nat.le_refl _)] at hP
      obtain ⟨ns, hns, ens, s5⟩ := hP
      have hsa : Same H H5 := Vk.Same.trans s0 (Vk.Same.trans s2 (Vk.Same.trans s3 (Vk.Same.trans s4 s5)))
      walk_at "go"
      intro x dx' hx hdx hn
      have hnl : ns.length ≤ 25 := by
        rw [← List.length_map (f := (·.2)), ens]
        have := List.length_filter_le (fun q => gaR sg R R2 q.1 q.2) (ms.map (·.2))
        rw [List.length_map] at this
        omega
      refine iMk (qs := ns) hx hdx hn (hal.same hsa) hsg hns (by omega) (fun q hq => ?_) fun lp' ns' H' h1 h2 h3 => k1 _ _ (Vk.Same.trans hsa h2) (Tb.agr ⟨lp', ns', h3⟩ hsg.a fun s hs u hu => ?_)
      · have m := (List.mem_filter.mp (mem_ms ens hq)).1
        rw [ems] at m
        exact ⟨(mem_can.mp m).1, (mem_can.mp m).2.1⟩
      · unfold relP relQ
        rw [ens, ems, Bool.eq_iff_iff, decide_eq_true_iff, List.mem_filter]
        exact ⟨fun h => h.2, fun h => ⟨mem_can.mpr ⟨hs, hu, rfl⟩, h⟩⟩
end
end
section
set_option Elab.async false
set_option linter.all false
set_option maxRecDepth 100000
set_option maxHeartbeats 4000000
open PySem PySem.Spec PyProof.Rows L2 NSet

local macro_rules | `(tactic| walk_at "side") => `(tactic| exact .inl (by assumption))
local macro_rules | `(tactic| walk_at "go1") => `(tactic| (with_reducible refine iGTup (by assumption) rfl ?_))
local macro_rules | `(tactic| walk_at "go1") => `(tactic| (with_reducible refine iGCons ?_))
local macro_rules | `(tactic| walk_at "go1") => `(tactic| (with_reducible refine iGNil ?_))
local macro_rules | `(tactic| walk_at "go1") => `(tactic| (with_reducible refine iMakeV ?_))
local macro_rules | `(tactic| walk_at "go1") => `(tactic| (with_reducible refine iMakeD ?_))
local macro_rules | `(tactic| walk_at "go1") => `(tactic| (with_reducible refine iLc2S ?_))
local macro_rules | `(tactic| walk_at "go1") => `(tactic| (with_reducible refine iLc2L ?_))
local macro_rules | `(tactic| walk_at "go1") => `(tactic| (with_reducible refine iIStr ?_))
local macro_rules | `(tactic| walk_at "go1") => `(tactic| (with_reducible refine iIxI ?_))
local macro_rules | `(tactic| walk_at "go1") => `(tactic| (with_reducible refine iBinO ?_))
local macro_rules | `(tactic| walk_at "go1") => `(tactic| (with_reducible refine iCMeth ?_))

section
variable {P : Program} {w : World} {K : PySem.W.Frag} {mg : Str → Option Value} {base : Heap} {a : Ad} {d : Fd}
def joinR (k : Nat) (sg : List Nat) (R X : Rel) : Rel := if k = 0 then compR sg R X else compR sg X R
def grR (k : Nat) (sg : List Nat) (R W : Rel) : Rel := if k = 0 then gbR sg R W else gaR sg R W
instance agrDec (sg : List Nat) (A B : Rel) : Decidable (Agr sg A B) := by unfold Agr; infer_instance
def spFU (n : Nat) (a : Ad) : Sp := fun vs H Q E => ∃ (t al t2 al2 : Addr) (sg W sg2 W2 : List Nat) (A B : Rel), vs = [.ref t, .ref t2] ∧ Tb a H t al sg W A ∧ Tb a H t2 al2 sg2 W2 B ∧ SgOk sg ∧ SgOk sg2 ∧
  (Alike sg W sg2 W2 → (Agr sg (joinR n sg A (grR n sg A B)) B → ∀ r H', Same H H' → Tb a H' r al sg W (grR n sg A B) → Q (.ref r) H') ∧ (¬ Agr sg (joinR n sg A (grR n sg A B)) B → ∀ H', Same H H' → Q .non H')) ∧ (¬ Alike sg W sg2 W2 → ∀ H', Same H H' → E (.ref a.cMixed) none H')
theorem scFU : FnScope ["first", "whole", "found"] ["first", "whole"] (defScope sFU) := ⟨rfl, rfl, rfl, by decide +kernel, rfl, by decide +kernel, by decide +kernel⟩
theorem ok_fu (T : Fns K mg a d) (GAlEq : FnOk P w K mg base CX0 1 a.aAlEq d.dAlEq ["self", "other"] (spEq a.cAlphabet)) (MT : Mk K a.cTable a.aTInit) (bTInit : Binds K d.dTInit ["self", "alphabet", "pairs"] []) : FnOk P w K mg base (L2.CX P w) 8 a.aFU d.dFU ["first", "whole"] (spFU 0 a) := by
  have GGB := ok_gb (P := P) (w := w) (base := base) T GAlEq MT bTInit
  have GTMul := ok_mul (P := P) (w := w) (base := base) T GAlEq MT bTInit
  have GTEq := ok_eqM (P := P) (w := w) (base := base) T GAlEq
  refine T.FFU.okX scFU (fun vs H Q E h => ?_) (fun cdv A outer s H vs Q E hr h => ?_)
  · obtain ⟨t, al, t2, al2, sg, W, sg2, W2, R, R2, rfl, _⟩ := h
    rfl
  · obtain ⟨t, al, t2, al2, sg, W, sg2, W2, R, R2, rfl, hT, hT2, hsg, hsg2, k1, k2⟩ := h
    refine ⟨_, ((pss_cons (ps_set (i := 2) scFU.nd rfl (Or.inl rfl) (pe_call GGB (hr.mono (by decide)) (by rfl) T.gGB T.FGB.kp T.bGB .nil (passes_call (takes_of rfl rfl rfl rfl) (fun _ _ _ _ h => h)) (pa_cons (pv 0) (pa_cons (pv 1) pa_nil))))
      (pss_one (ps_ret (pe_ifExp (pt_cmpR (op_ownI (fun _ _ => rfl) T.mTEq.at_ T.mTEq.fn GTEq (hr.mono (by decide)) T.bTEq pass0) (pe_binO T.sfT T.mTMul.at_ T.mTMul.fn GTMul (hr.mono (by decide)) T.bTMul (fun σ pins H s e s' => passE pins σ H s e s') (pv 0) (pv 2)) (pv 1) (nomark _)) (pv 2) pe_non))))), ?_⟩
    walk_at "go"
    refine ⟨t, al, t2, al2, sg, W, sg2, W2, R, R2, rfl, hT, hT2, hsg, hsg2, fun ek r H1 s1 hr1 => ?_, k2⟩
    obtain ⟨rfl, rfl⟩ := ek
    have k1 := k1 ⟨rfl, rfl⟩
    have hT1 := hT.same s1
    have hT21 := hT2.same s1
    obtain ⟨d1, l1, i1⟩ := hT1.ins
    obtain ⟨d3, l3, i3⟩ := hr1.ins
    walk_at "go"
    refine ⟨t, al, r, al, sg, W, sg, W, R, gbR sg R R2, rfl, hT1, hr1, hsg, hsg, fun _ q H2 s2 hq => ?_, fun e => absurd ⟨rfl, rfl⟩ e⟩
    have hT22 := hT21.same s2
    have hr2 := hr1.same s2
    obtain ⟨d4, l4, i4⟩ := hq.ins
    obtain ⟨d5, l5, i5⟩ := hT22.ins
    walk_at "go"
    refine ⟨q, d4, _, t2, a.cTable, d5, _, rfl, rfl, i4, i5, T.eqT, q, al, t2, al2, sg, W, sg, W, _, R2, rfl, hq, hT22, hsg, hsg, ?_⟩
    rw [decide_eq_true (show Alike sg W sg W from ⟨rfl, rfl⟩), Bool.true_and]
    by_cases e : canL sg (compR sg R (gbR sg R R2)) = canL sg R2
    · rw [decide_eq_true e]
      walk_at "go"
      exact k1.1 ((can_iff hsg.a).mp e) _ _ (Vk.Same.trans s1 s2) hr2
    · rw [decide_eq_false e]
      walk_at "go"
      exact k1.2 (fun q => e ((can_iff hsg.a).mpr q)) _ (Vk.Same.trans s1 s2)
theorem scEA : FnScope ["last", "whole", "found"] ["last", "whole"] (defScope sEA) := ⟨rfl, rfl, rfl, by decide +kernel, rfl, by decide +kernel, by decide +kernel⟩
theorem ok_ea (T : Fns K mg a d) (GAlEq : FnOk P w K mg base CX0 1 a.aAlEq d.dAlEq ["self", "other"] (spEq a.cAlphabet)) (MT : Mk K a.cTable a.aTInit) (bTInit : Binds K d.dTInit ["self", "alphabet", "pairs"] []) : FnOk P w K mg base (L2.CX P w) 8 a.aEA d.dEA ["last", "whole"] (spFU 1 a) := by
  have GGA := ok_ga (P := P) (w := w) (base := base) T GAlEq MT bTInit
  have GTMul := ok_mul (P := P) (w := w) (base := base) T GAlEq MT bTInit
  have GTEq := ok_eqM (P := P) (w := w) (base := base) T GAlEq
  refine T.FEA.okX scEA (fun vs H Q E h => ?_) (fun cdv A outer s H vs Q E hr h => ?_)
  · obtain ⟨t, al, t2, al2, sg, W, sg2, W2, R, R2, rfl, _⟩ := h
    rfl
  · obtain ⟨t, al, t2, al2, sg, W, sg2, W2, R, R2, rfl, hT, hT2, hsg, hsg2, k1, k2⟩ := h
    refine ⟨_, ((pss_cons (ps_set (i := 2) scEA.nd rfl (Or.inl rfl) (pe_call GGA (hr.mono (by decide)) (by rfl) T.gGA T.FGA.kp T.bGA .nil (passes_call (takes_of rfl rfl rfl rfl) (fun _ _ _ _ h => h)) (pa_cons (pv 0) (pa_cons (pv 1) pa_nil))))
      (pss_one (ps_ret (pe_ifExp (pt_cmpR (op_ownI (fun _ _ => rfl) T.mTEq.at_ T.mTEq.fn GTEq (hr.mono (by decide)) T.bTEq pass0) (pe_binO T.sfT T.mTMul.at_ T.mTMul.fn GTMul (hr.mono (by decide)) T.bTMul (fun σ pins H s e s' => passE pins σ H s e s') (pv 2) (pv 0)) (pv 1) (nomark _)) (pv 2) pe_non))))), ?_⟩
    walk_at "go"
    refine ⟨t, al, t2, al2, sg, W, sg2, W2, R, R2, rfl, hT, hT2, hsg, hsg2, fun ek r H1 s1 hr1 => ?_, k2⟩
    obtain ⟨rfl, rfl⟩ := ek
    have k1 := k1 ⟨rfl, rfl⟩
    have hT1 := hT.same s1
    have hT21 := hT2.same s1
    obtain ⟨d1, l1, i1⟩ := hT1.ins
    obtain ⟨d3, l3, i3⟩ := hr1.ins
    walk_at "go"
    refine ⟨r, al, t, al, sg, W, sg, W, gaR sg R R2, R, rfl, hr1, hT1, hsg, hsg, fun _ q H2 s2 hq => ?_, fun e => absurd ⟨rfl, rfl⟩ e⟩
    have hT22 := hT21.same s2
    have hr2 := hr1.same s2
    obtain ⟨d4, l4, i4⟩ := hq.ins
    obtain ⟨d5, l5, i5⟩ := hT22.ins
    walk_at "go"
    refine ⟨q, d4, _, t2, a.cTable, d5, _, rfl, rfl, i4, i5, T.eqT, q, al, t2, al2, sg, W, sg, W, _, R2, rfl, hq, hT22, hsg, hsg, ?_⟩
    rw [decide_eq_true (show Alike sg W sg W from ⟨rfl, rfl⟩), Bool.true_and]
    by_cases e : canL sg (compR sg (gaR sg R R2) R) = canL sg R2
    · rw [decide_eq_true e]
      walk_at "go"
      exact k1.1 ((can_iff hsg.a).mp e) _ _ (Vk.Same.trans s1 s2) hr2
    · rw [decide_eq_false e]
      walk_at "go"
      exact k1.2 (fun q => e ((can_iff hsg.a).mpr q)) _ (Vk.Same.trans s1 s2)
end
end
section
set_option Elab.async false
set_option linter.all false
set_option maxRecDepth 100000
set_option maxHeartbeats 4000000
open PySem PySem.Spec PyProof.Rows L2 NSet

local macro_rules | `(tactic| walk_at "side") => `(tactic| exact .inl (by assumption))
local macro_rules | `(tactic| walk_at "go1") => `(tactic| (with_reducible refine iGTup (by assumption) rfl ?_))
local macro_rules | `(tactic| walk_at "go1") => `(tactic| (with_reducible refine iGCons ?_))
local macro_rules | `(tactic| walk_at "go1") => `(tactic| (with_reducible refine iGNil ?_))
local macro_rules | `(tactic| walk_at "go1") => `(tactic| (with_reducible refine iMakeV ?_))
local macro_rules | `(tactic| walk_at "go1") => `(tactic| (with_reducible refine iMakeD ?_))
local macro_rules | `(tactic| walk_at "go1") => `(tactic| (with_reducible refine iLc2S ?_))
local macro_rules | `(tactic| walk_at "go1") => `(tactic| (with_reducible refine iLc2L ?_))
local macro_rules | `(tactic| walk_at "go1") => `(tactic| (with_reducible refine iIStr ?_))
local macro_rules | `(tactic| walk_at "go1") => `(tactic| (with_reducible refine iIxI ?_))
local macro_rules | `(tactic| walk_at "go1") => `(tactic| (with_reducible refine iBinO ?_))
local macro_rules | `(tactic| walk_at "go1") => `(tactic| (with_reducible refine iCMeth ?_))

section
variable {P : Program} {w : World} {K : PySem.W.Frag} {mg : Str → Option Value} {base : Heap} {a : Ad} {d : Fd}
def spGreatest (a : Ad) : Sp := fun vs H Q E => ∃ (t al t2 al2 : Addr) (sg W sg2 W2 : List Nat) (A B : Rel) (n : Nat), vs = [.ref t, .ref t2, .int (n : Int)] ∧ Tb a H t al sg W A ∧ Tb a H t2 al2 sg2 W2 B ∧ SgOk sg ∧ SgOk sg2 ∧
  (Alike sg W sg2 W2 → ∀ r H', Same H H' → Tb a H' r al sg W (grR n sg A B) → Q (.ref r) H') ∧ (¬ Alike sg W sg2 W2 → ∀ H', Same H H' → E (.ref a.cMixed) none H')
theorem scGreatest : FnScope ["_law_fixed", "_law_whole_here", "_law_side_here"] ["_law_fixed", "_law_whole_here", "_law_side_here"] (defScope sGreatest) := ⟨rfl, rfl, rfl, by decide +kernel, rfl, by decide +kernel, by decide +kernel⟩
theorem ok_greatest (T : Fns K mg a d) (GAlEq : FnOk P w K mg base CX0 1 a.aAlEq d.dAlEq ["self", "other"] (spEq a.cAlphabet)) (MT : Mk K a.cTable a.aTInit) (bTInit : Binds K d.dTInit ["self", "alphabet", "pairs"] []) : FnOk P w K mg base (L2.CX P w) 8 a.aGreatest d.dGreatest ["_law_fixed", "_law_whole_here", "_law_side_here"] (spGreatest a) := by
  have GGB := ok_gb (P := P) (w := w) (base := base) T GAlEq MT bTInit
  have GGA := ok_ga (P := P) (w := w) (base := base) T GAlEq MT bTInit
  refine T.FGreatest.okX scGreatest (fun vs H Q E h => ?_) (fun cdv A outer s H vs Q E hr h => ?_)
  · obtain ⟨t, al, t2, al2, sg, W, sg2, W2, R, R2, n, rfl, _⟩ := h
    rfl
  · obtain ⟨t, al, t2, al2, sg, W, sg2, W2, R, R2, n, rfl, hT, hT2, hsg, hsg2, k1, k2⟩ := h
    refine ⟨_, ((pss_cons (ps_if (pt_cmpR op_eq (pv 2) pe_int (nomark _)) (pss_one (ps_ret (pe_call GGB (hr.mono (by decide)) (by rfl) T.gGB T.FGB.kp T.bGB .nil (passes_call (takes_of rfl rfl rfl rfl) (fun _ _ _ _ h => h)) (pa_cons (pv 0) (pa_cons (pv 1) pa_nil))))) pss_nil)
      (pss_one (ps_ret (pe_call GGA (hr.mono (by decide)) (by rfl) T.gGA T.FGA.kp T.bGA .nil (passes_call (takes_of rfl rfl rfl rfl) (fun _ _ _ _ h => h)) (pa_cons (pv 0) (pa_cons (pv 1) pa_nil))))))), ?_⟩
    walk_at "go"
    · rename_i h0
      have e : n = 0 := by omega
      subst e
      exact ⟨t, al, t2, al2, sg, W, sg2, W2, R, R2, rfl, hT, hT2, hsg, hsg2, k1, k2⟩
    · rename_i h0
      have e : n ≠ 0 := by omega
      unfold grR at k1
      rw [if_neg e] at k1
      exact ⟨t, al, t2, al2, sg, W, sg2, W2, R, R2, rfl, hT, hT2, hsg, hsg2, k1, k2⟩
def spFactor (a : Ad) : Sp := fun vs H Q E => ∃ (t al t2 al2 : Addr) (sg W sg2 W2 : List Nat) (A B : Rel) (n : Nat), vs = [.ref t, .ref t2, .int (n : Int)] ∧ n < 2 ∧ Tb a H t al sg W A ∧ Tb a H t2 al2 sg2 W2 B ∧ SgOk sg ∧ SgOk sg2 ∧
  (Alike sg W sg2 W2 → (Agr sg (joinR n sg A (grR n sg A B)) B → ∀ r H', Same H H' → Tb a H' r al sg W (grR n sg A B) → Q (.ref r) H') ∧ (¬ Agr sg (joinR n sg A (grR n sg A B)) B → ∀ H', Same H H' → Q .non H')) ∧ (¬ Alike sg W sg2 W2 → ∀ H', Same H H' → E (.ref a.cMixed) none H')
theorem scFactor : FnScope ["_law_fixed", "_law_whole_here", "_law_side_here"] ["_law_fixed", "_law_whole_here", "_law_side_here"] (defScope sFactor) := ⟨rfl, rfl, rfl, by decide +kernel, rfl, by decide +kernel, by decide +kernel⟩
theorem ok_factor (T : Fns K mg a d) (GAlEq : FnOk P w K mg base CX0 1 a.aAlEq d.dAlEq ["self", "other"] (spEq a.cAlphabet)) (MT : Mk K a.cTable a.aTInit) (bTInit : Binds K d.dTInit ["self", "alphabet", "pairs"] []) : FnOk P w K mg base (L2.CX P w) 9 a.aFactor d.dFactor ["_law_fixed", "_law_whole_here", "_law_side_here"] (spFactor a) := by
  have GFU := ok_fu (P := P) (w := w) (base := base) T GAlEq MT bTInit
  have GEA := ok_ea (P := P) (w := w) (base := base) T GAlEq MT bTInit
  refine T.FFactor.okX scFactor (fun vs H Q E h => ?_) (fun cdv A outer s H vs Q E hr h => ?_)
  · obtain ⟨t, al, t2, al2, sg, W, sg2, W2, R, R2, n, rfl, _⟩ := h
    rfl
  · obtain ⟨t, al, t2, al2, sg, W, sg2, W2, R, R2, n, rfl, hn, hT, hT2, hsg, hsg2, k1, k2⟩ := h
    refine ⟨_, ((pss_cons (ps_if (pt_cmpR op_eq (pv 2) pe_int (nomark _)) (pss_one (ps_ret (pe_call GFU (hr.mono (by decide)) (by rfl) T.gFU T.FFU.kp T.bFU .nil (passes_call (takes_of rfl rfl rfl rfl) (fun _ _ _ _ h => h)) (pa_cons (pv 0) (pa_cons (pv 1) pa_nil))))) pss_nil)
      (pss_one (ps_ret (pe_call GEA (hr.mono (by decide)) (by rfl) T.gEA T.FEA.kp T.bEA .nil (passes_call (takes_of rfl rfl rfl rfl) (fun _ _ _ _ h => h)) (pa_cons (pv 0) (pa_cons (pv 1) pa_nil))))))), ?_⟩
    walk_at "go"
    · rename_i h0
      have e : n = 0 := by omega
      subst e
      exact ⟨t, al, t2, al2, sg, W, sg2, W2, R, R2, rfl, hT, hT2, hsg, hsg2, k1, k2⟩
    · rename_i h0
      have e : n = 1 := by omega
      subst e
      exact ⟨t, al, t2, al2, sg, W, sg2, W2, R, R2, rfl, hT, hT2, hsg, hsg2, k1, k2⟩
def spJoin : Sp := fun vs H Q _ => ∃ (sg : List Nat) (p1 p2 : Addr) (A B : Rel) (n : Nat), vs = [.str (S sg), .ref p1, .ref p2, .int (n : Int)] ∧ SgOk sg ∧ RowAt H p1 sg A ∧ RowAt H p2 sg B ∧ ∀ r H', H r = none → Same H H' → RowAt H' r sg (joinR n sg A B) → Q (.ref r) H'
theorem scJoin : FnScope ["_law_signs_here", "_law_fixed", "_law_outs_here", "_law_side_here"] ["_law_signs_here", "_law_fixed", "_law_outs_here", "_law_side_here"] (defScope sJoin) := ⟨rfl, rfl, rfl, by decide +kernel, rfl, by decide +kernel, by decide +kernel⟩
theorem ok_join (T : Fns K mg a d) : FnOk P w K mg base CX0 2 a.aJoin d.dJoin ["_law_signs_here", "_law_fixed", "_law_outs_here", "_law_side_here"] spJoin := by
  have GProduct := ok_product (P := P) (w := w) (base := base) T
  refine T.FJoin.ok scJoin (fun vs H Q E h => ?_) (fun cdv A outer s H vs Q E hr h => ?_)
  · obtain ⟨sg, p1, p2, R, R2, n, rfl, _⟩ := h
    rfl
  · obtain ⟨sg, p1, p2, R, R2, n, rfl, hsg, h1, h2, k⟩ := h
    refine ⟨_, ((pss_cons (ps_if (pt_cmpR op_eq (pv 3) pe_int (nomark _)) (pss_one (ps_ret (pe_call GProduct (hr.mono (by decide)) (by rfl) T.gProduct T.FProduct.kp T.bProduct .nil pass0 (pa_cons (pv 0) (pa_cons (pv 1) (pa_cons (pv 2) pa_nil)))))) pss_nil)
      (pss_one (ps_ret (pe_call GProduct (hr.mono (by decide)) (by rfl) T.gProduct T.FProduct.kp T.bProduct .nil pass0 (pa_cons (pv 0) (pa_cons (pv 2) (pa_cons (pv 1) pa_nil)))))))), ?_⟩
    walk_at "go"
    · rename_i h0
      have e : n = 0 := by omega
      subst e
      exact ⟨sg, p1, p2, R, R2, rfl, hsg, h1, h2, k⟩
    · rename_i h0
      have e : n ≠ 0 := by omega
      unfold joinR at k
      rw [if_neg e] at k
      exact ⟨sg, p2, p1, R2, R, rfl, hsg, h2, h1, k⟩
end
end
section
set_option Elab.async false
set_option linter.all false
set_option maxRecDepth 100000
set_option maxHeartbeats 4000000
open PySem PySem.Spec PyProof.Rows L2 NSet

local macro_rules | `(tactic| walk_at "side") => `(tactic| exact .inl (by assumption))
local macro_rules | `(tactic| walk_at "go1") => `(tactic| (with_reducible refine iGTup (by assumption) rfl ?_))
local macro_rules | `(tactic| walk_at "go1") => `(tactic| (with_reducible refine iGCons ?_))
local macro_rules | `(tactic| walk_at "go1") => `(tactic| (with_reducible refine iGNil ?_))
local macro_rules | `(tactic| walk_at "go1") => `(tactic| (with_reducible refine iMakeV ?_))
local macro_rules | `(tactic| walk_at "go1") => `(tactic| (with_reducible refine iMakeD ?_))
local macro_rules | `(tactic| walk_at "go1") => `(tactic| (with_reducible refine iLc2S ?_))
local macro_rules | `(tactic| walk_at "go1") => `(tactic| (with_reducible refine iLc2L ?_))
local macro_rules | `(tactic| walk_at "go1") => `(tactic| (with_reducible refine iIStr ?_))
local macro_rules | `(tactic| walk_at "go1") => `(tactic| (with_reducible refine iIxI ?_))
local macro_rules | `(tactic| walk_at "go1") => `(tactic| (with_reducible refine iBinO ?_))
local macro_rules | `(tactic| walk_at "go1") => `(tactic| (with_reducible refine iCMeth ?_))

section
variable {P : Program} {w : World} {K : PySem.W.Frag} {mg : Str → Option Value} {base : Heap} {a : Ad} {d : Fd}
def spTable (a : Ad) : Sp := fun vs H Q _ => ∃ (al p : Addr) (sg W : List Nat) (R : Rel), vs = [.ref al, .str (S sg), .ref p] ∧ AlG a.cAlphabet H al sg W ∧ SgOk sg ∧ RowAt H p sg R ∧ ∀ t H', Same H H' → Tb a H' t al sg W R → Q (.ref t) H'
theorem scTable : FnScope ["_law_alphabet", "_law_signs_here", "_law_outs_here", "_law_pairs_here", "_law_k", "_law_out"] ["_law_alphabet", "_law_signs_here", "_law_outs_here"] (defScope sTable) := ⟨rfl, rfl, rfl, by decide +kernel, rfl, by decide +kernel, by decide +kernel⟩
theorem ok_table (T : Fns K mg a d) (MT : Mk K a.cTable a.aTInit) (bTInit : Binds K d.dTInit ["self", "alphabet", "pairs"] []) : FnOk P w K mg base CX0 5 a.aTable d.dTable ["_law_alphabet", "_law_signs_here", "_law_outs_here"] (spTable a) := by
  have GTInit := ok_init (P := P) (w := w) (base := base) T
  refine T.FTable.ok scTable (fun vs H Q E h => ?_) (fun cdv A outer s H vs Q E hr h => ?_)
  · obtain ⟨al, p, sg, W, R, rfl, _⟩ := h
    rfl
  · obtain ⟨al, p, sg, W, R, rfl, hal, hsg, hrow, k⟩ := h
    have hl5 := hsg.l
    refine ⟨_, ((pss_cons (ps_set (i := 3) scTable.nd rfl (Or.inl rfl) (pe_lst pa_nil))
      (pss_cons (ps_for PassesOwn.never rfl (pi_range1 (by rfl) T.z_range (pa_cons (pe_callB call_lenS (by rfl) T.z_len (by decide +kernel) (pa_cons (pv 1) pa_nil)) pa_nil)) (pg_name (i := 4) scTable.nd rfl (Or.inr rfl)) (pss_one (ps_set (i := 3) scTable.nd rfl (Or.inl rfl) (pe_op op_cat (pv 3) (pe_lc (own := [("_law_out", 5)]) (g := gName 5) (by rfl) scTable.nd (pi_str (pe_ix (r := rIxL K) ix_list (pv 2) (pv 4) (fun _ _ => rfl))) (blkOk_by (own := [("_law_out", 5)]) (N := ["_law_alphabet", "_law_signs_here", "_law_outs_here", "_law_pairs_here", "_law_k", "_law_out"]) (sc := defScope sTable) (by decide +kernel)) (fun _ _ _ _ _ => pg_name (i := 5) scTable.nd rfl (Or.inl rfl)) (fun _ _ _ _ _ => pts_nil) (fun _ _ _ _ _ => (pe_tup (pa_cons (pe_ix ix_str (pv 1) (pv 4) (fun _ _ => rfl)) (pa_cons (pv 5) pa_nil)))))))))
      (pss_one (ps_ret (pe_make MT GTInit (hr.mono (by decide)) (by rfl) T.gcTable bTInit .nil passE (pa_cons (pv 0) (pa_cons (pv 3) pa_nil)))))))), ?_⟩
    walk_at "go"
    rename_i r0 hr0
    refine for_R (fun i σ H' => Stop (∃ (pr : Addr) (ns : List (Addr × Nat × Nat)) (v4 v5 : Option V), σ = [some (.ref al), some (.str (S sg)), some (.ref p), some (.ref pr), v4, v5] ∧ PrAt H' pr ns ∧ ns.map (·.2) = rowsP sg R (sg.take i) ∧ Same H H')) ⟨r0, [], none, none, rfl, ⟨upd_same, fun q hq => nomatch hq⟩, rfl, Same.upd_new hr0⟩ ?_ ?_
    · rintro i σ H5 hi ⟨pr, ns, v4, v5, rfl, hns, ens, s5⟩
      have hi2 : i < sg.length := by simpa using hi
      have hc : sg[i]? = some sg[i] := List.getElem?_eq_getElem hi2
      have hcm := List.getElem_mem hi2
      generalize sg[i] = c at hc hcm
      have ij : (0 : Int) + (i : Int) = (i : Int) := Int.zero_add _
      rw [ij]
      have hrow5 : H5 p = some (.lst ((outsL sg R).map fun r => V.str (S r))) := s5 _ _ hrow
      have hoc : (outsL sg R)[i]? = some (sg.filter (R c)) := by unfold outsL; rw [List.getElem?_map, hc]; rfl
      have hov : ((outsL sg R).map fun r => V.str (S r))[i]? = some (V.str (S (sg.filter (R c)))) := by rw [List.getElem?_map, hoc]; rfl
      have hfl := List.length_filter_le (R c) sg
      walk_at "go"
      rename_i D hD
      refine lcg_S (fun j H' => NewP H5 D (((sg.filter (R c)).take j).map fun o => (c, o)) H') (NewP.start hD) (fun _ => rfl) (fun j o H7 ho hP => ?_) (fun H7 hP => ?_)
      · obtain ⟨ms, hms, ems, s7⟩ := id hP
        have hjl := (List.getElem?_eq_some_iff.mp ho).1
        walk_at "go"
        rename_i pp hpp
        exact newp_put (l' := ((sg.filter (R c)).take (j + 1)).map fun o => (c, o)) hms ems s7 hD hpp (by rw [List.length_map, List.length_take]; omega) c o (by
          rw [List.take_add_one, ho, List.map_append]
          rfl)
      · obtain ⟨ms, hms, ems, s7⟩ := hP
        rw [List.take_length] at ems
        have hns7 := hns.same s7
        have l1 : ns.length ≤ 25 := by
          have := congrArg List.length ens
          rw [List.length_map] at this
          have h2 := rows_len sg R (sg.take i)
          rw [List.length_take] at h2
          have h3 := Nat.mul_le_mul (show min i sg.length ≤ 5 by omega) hl5
          omega
        have l2 : ms.length ≤ 5 := by
          have := congrArg List.length ems
          rw [List.length_map, List.length_map] at this
          omega
        refine iCat hns7.l hms.l (by rw [List.length_map, List.length_map, sizeLine_eq]; omega) fun q hq => ?_
        have s8 : Same H7 (upd H7 q (.lst ((ns.map fun q => V.ref q.1) ++ ms.map fun q => V.ref q.1))) := Same.upd_new hq
        walk_at "go"
        refine ⟨q, ns ++ ms, _, _, rfl, ⟨by rw [upd_same, List.map_append], fun z hz => ?_⟩, ?_, Vk.Same.trans s5 (Vk.Same.trans s7 s8)⟩
        · rcases List.mem_append.mp hz with m | m
          · exact s8 _ _ (hns7.t z m)
          · exact s8 _ _ (hms.t z m)
        · unfold rowsP at ens ⊢
          rw [List.map_append, ens, ems, List.take_add_one, hc, List.flatMap_append]
          congr 1
          exact (List.append_nil _).symm
    · rintro σ H5 ⟨pr, ns, v4, v5, rfl, hns, ens, s5⟩
      rw [Int.toNat_natCast, List.take_length] at ens
      have e1 : ns.map (·.2) = canL sg R := ens
      have hal5 := hal.same s5
      walk_at "go"
      intro x dx hx hdx hn
      have h25 := can_len (R := R) hsg.a
      have h26 := Nat.mul_le_mul hl5 hl5
      have hnl : ns.length = (canL sg R).length := by rw [← e1, List.length_map]
      refine iMk (qs := ns) hx hdx hn hal5 hsg hns (by omega) (fun q hq => ?_) fun lp ms H' h1 h2 h3 => k _ _ (Vk.Same.trans s5 h2) (Tb.agr ⟨lp, ms, h3⟩ hsg.a fun s hs u hu => ?_)
      · have m := mem_ms e1 hq
        exact ⟨(mem_can.mp m).1, (mem_can.mp m).2.1⟩
      · unfold relP relQ
        rw [e1, Bool.eq_iff_iff, decide_eq_true_iff]
        exact rel_of rfl hs hu
def sglR (c o : Nat) : Rel := fun s t => decide (s = c) && decide (t = o)
def spSingle : Sp := fun vs H Q _ => ∃ (sg : List Nat) (c o : Nat), vs = [.str (S sg), .str (S [c]), .str (S [o])] ∧ SgOk sg ∧ o ∈ sg ∧ ∀ r H', Same H H' → RowAt H' r sg (sglR c o) → Q (.ref r) H'
theorem flt_one {o : Nat} : ∀ {sg : List Nat}, sg.Nodup → o ∈ sg → (sg.filter fun t => decide (t = o)) = [o]
  | [], _, h => by cases h
  | x :: sg, hn, h => by
    obtain ⟨h1, h2⟩ := List.nodup_cons.mp hn
    by_cases e : x = o
    · subst e
      rw [List.filter_cons_of_pos (by simp)]
      have : (sg.filter fun t => decide (t = x)) = [] := List.filter_eq_nil_iff.mpr fun t ht => by
        simp
        exact fun e => h1 (e ▸ ht)
      rw [this]
    · rw [List.filter_cons_of_neg (by simpa using e)]
      exact flt_one h2 (by rcases List.mem_cons.mp h with q | q; exact absurd q.symm e; exact q)
theorem scSingle : FnScope ["_law_signs_here", "_law_told_here", "_law_out", "_law_sign"] ["_law_signs_here", "_law_told_here", "_law_out"] (defScope sSingle) := ⟨rfl, rfl, rfl, by decide +kernel, rfl, by decide +kernel, by decide +kernel⟩
theorem ok_single (T : Fns K mg a d) : FnOk P w K mg base CX0 1 a.aSingle d.dSingle ["_law_signs_here", "_law_told_here", "_law_out"] spSingle := by
  refine T.FSingle.ok scSingle (fun vs H Q E h => ?_) (fun cdv A outer s H vs Q E hr h => ?_)
  · obtain ⟨sg, c, o, rfl, _⟩ := h
    rfl
  · obtain ⟨sg, c, o, rfl, hsg, ho, k⟩ := h
    have hl5 := hsg.l
    refine ⟨_, ((pss_one (ps_ret (pe_lc (own := [("_law_sign", 3)]) (g := gName 3) (by rfl) scSingle.nd (pi_str (pv 0)) (blkOk_by (own := [("_law_sign", 3)]) (N := ["_law_signs_here", "_law_told_here", "_law_out", "_law_sign"]) (sc := defScope sSingle) (by decide +kernel)) (fun _ _ _ _ _ => pg_name (i := 3) scSingle.nd rfl (Or.inl rfl)) (fun _ _ _ _ _ => pts_nil) (fun _ _ _ _ _ => (pe_ifExp (pt_cmpR op_eq (pv 3) (pv 1) (nomark _)) (pv 2) (pe_strS (l := []) (by decide +kernel)))))))), ?_⟩
    walk_at "go"
    rename_i D hD
    refine lc_text (l := sg) (fun _ => true) (fun s => V.str (S (if s = c then [o] else []))) (by omega) (fun _ => rfl) (fun o ho H7 Q7 off r => ?_) (fun s hs hp7 H7 Q7 off r => ?_) ?_
    · walk_at "go"
      exact r
    · by_cases e : s = c
      · rw [if_pos e] at r
        subst e
        walk_at "go"
        first | exact r | (rename_i hz; exact absurd rfl hz)
      · rw [if_neg e] at r
        walk_at "go"
        first | exact r | (rename_i hz; exact absurd hz e)
    · walk_at "go"
      refine k _ _ (Same.upd_new hD) ?_
      show upd H D _ D = _
      rw [upd_same]
      unfold outsL
      rw [List.filter_eq_self.mpr (fun _ _ => rfl), List.map_map]
      congr 2
      refine List.map_congr_left fun s hs => ?_
      show V.str (S _) = V.str (S _)
      congr 2
      unfold sglR
      by_cases e : s = c
      · rw [if_pos e]
        simp only [e, decide_true, Bool.true_and]
        exact (flt_one hsg.a.nd ho).symm
      · rw [if_neg e]
        simp [e]
end
end
section
set_option Elab.async false
set_option linter.all false
set_option maxRecDepth 100000
set_option maxHeartbeats 4000000
open PySem PySem.Spec PyProof.Rows L2 NSet

local macro_rules | `(tactic| walk_at "side") => `(tactic| exact .inl (by assumption))
local macro_rules | `(tactic| walk_at "go1") => `(tactic| (with_reducible refine iGTup (by assumption) rfl ?_))
local macro_rules | `(tactic| walk_at "go1") => `(tactic| (with_reducible refine iGCons ?_))
local macro_rules | `(tactic| walk_at "go1") => `(tactic| (with_reducible refine iGNil ?_))
local macro_rules | `(tactic| walk_at "go1") => `(tactic| (with_reducible refine iMakeV ?_))
local macro_rules | `(tactic| walk_at "go1") => `(tactic| (with_reducible refine iMakeD ?_))
local macro_rules | `(tactic| walk_at "go1") => `(tactic| (with_reducible refine iLc2S ?_))
local macro_rules | `(tactic| walk_at "go1") => `(tactic| (with_reducible refine iLc2L ?_))
local macro_rules | `(tactic| walk_at "go1") => `(tactic| (with_reducible refine iIStr ?_))
local macro_rules | `(tactic| walk_at "go1") => `(tactic| (with_reducible refine iIxI ?_))
local macro_rules | `(tactic| walk_at "go1") => `(tactic| (with_reducible refine iBinO ?_))
local macro_rules | `(tactic| walk_at "go1") => `(tactic| (with_reducible refine iCMeth ?_))

section
variable {P : Program} {w : World} {K : PySem.W.Frag} {mg : Str → Option Value} {base : Heap} {a : Ad} {d : Fd}
def spTold (a : Ad) : Sp := fun vs H Q _ => ∃ (t al al2 : Addr) (sg W : List Nat) (R : Rel), vs = [.ref t, .ref al2, .str (S sg)] ∧ Tb a H t al sg W R ∧ AlG a.cAlphabet H al2 sg W ∧ SgOk sg ∧ ∀ r H', H r = none → Same H H' → RowAt H' r sg R → Q (.ref r) H'
theorem scTold : FnScope ["_law_table_here", "_law_alphabet", "_law_signs_here", "_law_told_here", "_law_one", "_law_outs_here"] ["_law_table_here", "_law_alphabet", "_law_signs_here"] (defScope sTold) := ⟨rfl, rfl, rfl, by decide +kernel, rfl, by decide +kernel, by decide +kernel⟩
theorem ok_told (T : Fns K mg a d) (GAlEq : FnOk P w K mg base CX0 1 a.aAlEq d.dAlEq ["self", "other"] (spEq a.cAlphabet)) : FnOk P w K mg base CX0 6 a.aTold d.dTold ["_law_table_here", "_law_alphabet", "_law_signs_here"] (spTold a) := by
  have GTPairs := ok_pairsM (P := P) (w := w) (base := base) T
  have GOuts := ok_outs (P := P) (w := w) (base := base) T
  have GIs := ok_is (P := P) (w := w) (base := base) T GAlEq
  refine T.FTold.ok scTold (fun vs H Q E h => ?_) (fun cdv A outer s H vs Q E hr h => ?_)
  · obtain ⟨t, al, al2, sg, W, R, rfl, _⟩ := h
    rfl
  · obtain ⟨t, al, al2, sg, W, R, rfl, hT0, hal2, hsg, k⟩ := h
    obtain ⟨lp, qs, hT⟩ := id hT0
    obtain ⟨⟨dx, ht⟩, hal, hp, ec⟩ := id hT
    have clT := T.clT
    have nTp := T.nTp
    have nTa := T.nTa
    have hl5 := hsg.l
    refine ⟨_, ((pss_cons (ps_if (PW.pt (pw_or (pt_not (pt_val (pe_callB call_isi (by rfl) T.z_isinstance (by decide +kernel) (pa_cons (pv 0) (pa_cons (pe_glob (v := .ref a.cTable) (by rfl) T.gcTable rfl) pa_nil))))) (pw_or1 (pt_not (pt_cmpR (op_ownI (fun _ _ => rfl) T.mAlEq.at_ T.mAlEq.fn GAlEq (hr.mono (by decide)) T.bAlEq pass0) (pe_fld (pv 0) rfl) (pv 1) (nomark _)))))) (pss_one (ps_ret (pe_lst pa_nil))) pss_nil)
      (pss_cons (ps_set (i := 3) scTold.nd rfl (Or.inl rfl) (pe_meth0 (pv 0) T.clT T.mTPairs GTPairs (hr.mono (by decide)) T.bTPairs .nil pass0))
      (pss_cons (ps_if (PW.pt (pw_or (pt_not (pt_val (pe_callB call_isi (by rfl) T.z_isinstance (by decide +kernel) (pa_cons (pv 3) (pa_cons (pe_bltn (v := .ty "list") (by rfl) T.z_list (by decide +kernel) rfl) pa_nil))))) (pw_or1 (pt_cmpR op_ne (pe_callB call_len_seq (by rfl) T.z_len (by decide +kernel) (pa_cons (pe_lc (own := [("_law_one", 4)]) (g := gName 4) (by rfl) scTold.nd (pi_list (pv 3)) (blkOk_by (own := [("_law_one", 4)]) (N := ["_law_table_here", "_law_alphabet", "_law_signs_here", "_law_told_here", "_law_one", "_law_outs_here"]) (sc := defScope sTold) (by decide +kernel)) (fun _ _ _ _ _ => pg_name (i := 4) scTold.nd rfl (Or.inl rfl)) (fun _ _ _ _ _ => (pts_one (pt_val (pe_callB (id := "isinstance") (r := rIsi K) call_isi (by rfl) T.z_isinstance (by decide +kernel) (pa_cons (pv 4) (pa_cons (pe_bltn (v := .ty "tuple") (by rfl) T.z_tuple (by decide +kernel) rfl) pa_nil)))))) (fun _ _ _ _ _ => (pv 4))) pa_nil)) (pe_callB call_len_seq (by rfl) T.z_len (by decide +kernel) (pa_cons (pv 3) pa_nil)) (nomark _))))) (pss_one (ps_ret (pe_lst pa_nil))) pss_nil)
      (pss_cons (ps_set (i := 5) scTold.nd rfl (Or.inl rfl) (pe_call GOuts (hr.mono (by decide)) (by rfl) T.gOuts T.FOuts.kp T.bOuts .nil pass0 (pa_cons (pv 2) (pa_cons (pv 3) pa_nil))))
      (pss_one (ps_ret (pe_ifExp (pt_val (pe_call GIs (hr.mono (by decide)) (by rfl) T.gIs T.FIs.kp T.bIs .nil pass0 (pa_cons (pv 0) (pa_cons (pv 1) (pa_cons (pv 2) (pa_cons (pv 5) pa_nil)))))) (pv 5) (pe_lst pa_nil))))))))), ?_⟩
    walk_at "go"
    refine isi_T T ht ?_
    walk_at "go"
    refine eq_al T.eqA hal hal2 ⟨_, rfl, ?_⟩
    have e : Alike sg W sg W := ⟨rfl, rfl⟩
    rw [decide_eq_true e]
    walk_at "go"
    refine ⟨t, al, sg, W, R, rfl, hT0, hsg, fun pp ms H1 hms ems s1 => ?_⟩
    have hml := hms.l
    have h25 := can_len (R := R) hsg.a
    have h26 := Nat.mul_le_mul hl5 hl5
    have hml2 : ms.length = (canL sg R).length := by rw [← ems, List.length_map]
    walk_at "go"
    refine ⟨_, _, _, _, true, rfl, .ty "list", .base (.lst hml), rfl, ?_⟩
    walk_at "go"
    rename_i D hD
    refine lcg_list (K := K) (a := pp) (xs := ms.map fun q => V.ref q.1) (fun _ => true) id (by rw [List.length_map]; omega) (SqL.of hml) hD (fun _ => rfl) (fun x hx H2 Q2 off r => ?_) (fun x hx _ H2 Q2 off r => ?_) ?_
    · obtain ⟨q, hq, rfl⟩ := List.mem_map.mp hx
      have hqt := hms.t q hq
      have hq2 := (off q.1 (ne_of_none hqt hD)).trans hqt
      walk_at "go"
      refine ⟨_, _, _, _, true, rfl, .ty "tuple", .base (.tup hq2), rfl, ?_⟩
      walk_at "go"
      exact r
    · walk_at "go"
      exact r
    · rw [List.filter_eq_self.mpr (fun _ _ => rfl), List.map_id]
      have s2 : Same H1 (upd H1 D (.lst (ms.map fun q => V.ref q.1))) := Same.upd_new hD
      have hD2 : (upd H1 D (.lst (ms.map fun q => V.ref q.1))) D = some (.lst (ms.map fun q => V.ref q.1)) := upd_same
      generalize upd H1 D (.lst (ms.map fun q => V.ref q.1)) = H2 at s2 hD2 ⊢
      have hml3 := s2 _ _ hml
      have s12 := Vk.Same.trans s1 s2
      have hms2 := hms.same s2
      have hmm : ∀ q ∈ ms, q.2.1 ∈ sg ∧ q.2.2 ∈ sg := fun q hq => by
        have m := mem_can.mp (mem_ms ems hq)
        exact ⟨m.1, m.2.1⟩
      walk_at "go"
      refine ⟨sg, pp, ms, rfl, hsg, hms2, by omega, hmm, fun r H3 hr3 s3 hrow => ?_⟩
      have hag : Agr sg (relP ms) R := fun s hs u hu => by
        unfold relP relQ
        rw [ems, Bool.eq_iff_iff, decide_eq_true_iff]
        exact rel_of rfl hs hu
      have hrow' : RowAt H3 r sg R := by
        unfold RowAt at hrow ⊢
        rw [hrow, outs_agr.mpr hag]
      have s13 := Vk.Same.trans s12 s3
      walk_at "go"
      refine ⟨t, al, al2, r, sg, W, R, rfl, hT0.same s13, hal2.same s13, hsg, hrow', fun H4 s4 => ?_⟩
      walk_at "go"
      refine k r H4 ?_ (Vk.Same.trans s13 s4) (hrow'.same s4)
      cases h : H r with
      | none => rfl
      | some o =>
        have := s12 _ _ h
        rw [hr3] at this
        cases this
end
end
section
set_option Elab.async false
set_option linter.all false
set_option maxRecDepth 100000
set_option maxHeartbeats 4000000
open PySem PySem.Spec PyProof.Rows L2 NSet

local macro_rules | `(tactic| walk_at "side") => `(tactic| exact .inl (by assumption))
local macro_rules | `(tactic| walk_at "go1") => `(tactic| (with_reducible refine iGTup (by assumption) rfl ?_))
local macro_rules | `(tactic| walk_at "go1") => `(tactic| (with_reducible refine iGCons ?_))
local macro_rules | `(tactic| walk_at "go1") => `(tactic| (with_reducible refine iGNil ?_))
local macro_rules | `(tactic| walk_at "go1") => `(tactic| (with_reducible refine iMakeV ?_))
local macro_rules | `(tactic| walk_at "go1") => `(tactic| (with_reducible refine iMakeD ?_))
local macro_rules | `(tactic| walk_at "go1") => `(tactic| (with_reducible refine iLc2S ?_))
local macro_rules | `(tactic| walk_at "go1") => `(tactic| (with_reducible refine iLc2L ?_))
local macro_rules | `(tactic| walk_at "go1") => `(tactic| (with_reducible refine iIStr ?_))
local macro_rules | `(tactic| walk_at "go1") => `(tactic| (with_reducible refine iIxI ?_))
local macro_rules | `(tactic| walk_at "go1") => `(tactic| (with_reducible refine iBinO ?_))
local macro_rules | `(tactic| walk_at "go1") => `(tactic| (with_reducible refine iCMeth ?_))

section
variable {P : Program} {w : World} {K : PySem.W.Frag} {mg : Str → Option Value} {base : Heap} {a : Ad} {d : Fd}
def flipR (A : Rel) (c o : Nat) : Rel := fun s t => if s = c then A s t != decide (t = o) else A s t
def spFlipped : Sp := fun vs H Q _ => ∃ (sg : List Nat) (p : Addr) (A : Rel) (c o : Nat), vs = [.str (S sg), .ref p, .str (S [c]), .str (S [o])] ∧ SgOk sg ∧ RowAt H p sg A ∧ ∀ r H', H r = none → Same H H' → RowAt H' r sg (flipR A c o) → Q (.ref r) H'
theorem scFlipped : FnScope ["_law_signs_here", "_law_outs_here", "_law_told_here", "_law_out", "_law_rows", "_law_k", "_law_sign"] ["_law_signs_here", "_law_outs_here", "_law_told_here", "_law_out"] (defScope sFlipped) := ⟨rfl, rfl, rfl, by decide +kernel, rfl, by decide +kernel, by decide +kernel⟩
theorem ok_flipped (T : Fns K mg a d) : FnOk P w K mg base CX0 1 a.aFlipped d.dFlipped ["_law_signs_here", "_law_outs_here", "_law_told_here", "_law_out"] spFlipped := by
  refine T.FFlipped.ok scFlipped (fun vs H Q E h => ?_) (fun cdv A outer s H vs Q E hr h => ?_)
  · obtain ⟨sg, p, A, c, o, rfl, _⟩ := h
    rfl
  · obtain ⟨sg, p, R, c0, o0, rfl, hsg, hrow, k⟩ := h
    have hl5 := hsg.l
    unfold RowAt at hrow
    refine ⟨_, ((pss_cons (ps_set (i := 4) scFlipped.nd rfl (Or.inl rfl) (pe_lst pa_nil))
      (pss_cons (ps_for PassesOwn.never rfl (pi_range1 (by rfl) T.z_range (pa_cons (pe_callB call_lenS (by rfl) T.z_len (by decide +kernel) (pa_cons (pv 0) pa_nil)) pa_nil)) (pg_name (i := 5) scFlipped.nd rfl (Or.inr rfl)) (pss_one (ps_if (pt_cmpR op_eq (pe_ix ix_str (pv 0) (pv 5) (fun _ _ => rfl)) (pv 2) (nomark _)) (pss_one (ps_expr (pe_bm PySem.F.plainAttrs_list PySem.F.slot_list_append PySem.F.type_list_append mt_append (pv 4) (pa_cons (pe_join (pe_strS (l := []) (by decide +kernel)) (pe_lc (own := [("_law_sign", 6)]) (g := gName 6) (by rfl) scFlipped.nd (pi_str (pv 0)) (blkOk_by (own := [("_law_sign", 6)]) (N := ["_law_signs_here", "_law_outs_here", "_law_told_here", "_law_out", "_law_rows", "_law_k", "_law_sign"]) (sc := defScope sFlipped) (by decide +kernel)) (fun _ _ _ _ _ => pg_name (i := 6) scFlipped.nd rfl (Or.inl rfl)) (fun _ _ _ _ _ => (pts_one (pt_cmpR op_ne (pe_cmpR op_inS (pv 6) (pe_ix (r := rIxL K) ix_list (pv 1) (pv 5) (fun _ _ => rfl)) rfl) (pe_cmpR op_eq (pv 6) (pv 3) (nomark _)) (nomark _)))) (fun _ _ _ _ _ => (pv 6)))) pa_nil)))) (pss_one (ps_expr (pe_bm PySem.F.plainAttrs_list PySem.F.slot_list_append PySem.F.type_list_append mt_append (pv 4) (pa_cons (pe_ix (r := rIxL K) ix_list (pv 1) (pv 5) (fun _ _ => rfl)) pa_nil)))))))
      (pss_one (ps_ret (pv 4)))))), ?_⟩
    walk_at "go"
    rename_i rp hrp
    have n1r : p ≠ rp := ne_of_none hrow hrp
    refine for_R (fun i σ H' => Stop (∃ (v5 v6 : Option V), σ = [some (.str (S sg)), some (.ref p), some (.str (S [c0])), some (.str (S [o0])), some (.ref rp), v5, v6] ∧ H' rp = some (.lst (((sg.take i).map fun s => sg.filter (flipR R c0 o0 s)).map fun r => V.str (S r))) ∧ Fr [rp] H H')) ⟨none, none, rfl, upd_same, Fr.upd_new hrp⟩ ?_ ?_
    · rintro i σ H5 hi ⟨v5, v6, rfl, hr5, f5⟩
      have hi2 : i < sg.length := by simpa using hi
      have hc : sg[i]? = some sg[i] := List.getElem?_eq_getElem hi2
      have hcm := List.getElem_mem hi2
      generalize sg[i] = c at hc hcm
      have h15 := f5 _ _ (by simpa using n1r) hrow
      have ij : (0 : Int) + (i : Int) = (i : Int) := Int.zero_add _
      rw [ij]
      have o1 := outs_ix (R := R) hc
      have hf1 := List.length_filter_le (R c) sg
      walk_at "go"
      · rename_i hcc D hD
        have ecc : c = c0 := hcc
        refine lc_text (l := sg) (fun o => flipR R c0 o0 c o) (fun o => V.str (S [o])) (by omega) (fun _ => rfl) (fun o ho H7 Q7 off r => ?_) (fun o ho hp7 H7 Q7 off r => ?_) ?_
        · have h17 := (off p (ne_of_none h15 hD)).trans h15
          have e1 : decide (o ∈ sg.filter (R c)) = R c o := by
            rw [Bool.eq_iff_iff, decide_eq_true_iff, List.mem_filter]
            exact ⟨fun h => h.2, fun h => ⟨ho, h⟩⟩
          have e2 : (!decide (V.bl (decide (o ∈ sg.filter (R c))) = V.bl (decide (V.str (S [o]) = V.str (S [o0]))))) = flipR R c0 o0 c o := by
            unfold flipR
            rw [if_pos ecc, e1]
            have e3 : decide (V.str (S [o]) = V.str (S [o0])) = decide (o = o0) := by
              rw [Bool.eq_iff_iff, decide_eq_true_iff, decide_eq_true_iff]
              exact ⟨fun h => List.head_eq_of_cons_eq (S_inj.mp (V.str.inj h)), fun h => by rw [h]⟩
            rw [e3]
            cases R c o <;> cases decide (o = o0) <;> rfl
          walk_at "go"
          rw [e2]
          exact r
        · walk_at "go"
          exact r
        have eF : (sg.filter fun o => flipR R c0 o0 c o) = sg.filter (flipR R c0 o0 c) := rfl
        rw [eF]
        have s7 : Same H5 (upd H5 D (.lst ((sg.filter (flipR R c0 o0 c)).map fun o => V.str (S [o])))) := Same.upd_new hD
        have hD7 : (upd H5 D (.lst ((sg.filter (flipR R c0 o0 c)).map fun o => V.str (S [o])))) D = some (.lst ((sg.filter (flipR R c0 o0 c)).map fun o => V.str (S [o]))) := upd_same
        generalize upd H5 D (.lst ((sg.filter (flipR R c0 o0 c)).map fun o => V.str (S [o]))) = H7 at s7 hD7 ⊢
        have hj := join_S (l := sg.filter (flipR R c0 o0 c)) (by have := List.length_filter_le (flipR R c0 o0 c) sg; omega)
        refine ⟨S [], D, (sg.filter (flipR R c0 o0 c)).map fun x => S [x], rfl, rfl, .inl (SqL.of (by rw [hD7, List.map_map]; rfl)), hj.1, ?_⟩
        rw [hj.2]
        have hr7 := s7 _ _ hr5
        walk_at "go"
        refine iAppend hr7 (by rw [List.length_map, List.length_map, List.length_take, sizeLine_eq]; omega) ?_
        walk_at "go"
        exact ⟨_, _, rfl, by rw [upd_same, row_step (H5 := H5) (rp := rp) hc], Fr.trans (Fr.trans f5 (Fr.of_same s7)) Fr.in0⟩
      · rename_i hcc
        have ecc : c ≠ c0 := fun e => hcc (by rw [e])
        have eF : sg.filter (R c) = sg.filter (flipR R c0 o0 c) := List.filter_congr fun o _ => by
          unfold flipR
          rw [if_neg ecc]
        rw [eF]
        refine iAppend hr5 (by rw [List.length_map, List.length_map, List.length_take, sizeLine_eq]; omega) ?_
        walk_at "go"
        exact ⟨_, _, rfl, by rw [upd_same, row_step (H5 := H5) (rp := rp) hc], Fr.trans f5 Fr.in0⟩
    · rintro σ H5 ⟨v5, v6, rfl, hr5, f5⟩
      rw [Int.toNat_natCast, List.take_length] at hr5
      walk_at "go"
      exact k rp H5 hrp (f5.forget1 hrp) hr5
end
end
section
set_option Elab.async false
set_option linter.all false
set_option maxRecDepth 100000
set_option maxHeartbeats 4000000
open PySem PySem.Spec PyProof.Rows L2 NSet

local macro_rules | `(tactic| walk_at "side") => `(tactic| exact .inl (by assumption))
local macro_rules | `(tactic| walk_at "go1") => `(tactic| (with_reducible refine iGTup (by assumption) rfl ?_))
local macro_rules | `(tactic| walk_at "go1") => `(tactic| (with_reducible refine iGCons ?_))
local macro_rules | `(tactic| walk_at "go1") => `(tactic| (with_reducible refine iGNil ?_))
local macro_rules | `(tactic| walk_at "go1") => `(tactic| (with_reducible refine iMakeV ?_))
local macro_rules | `(tactic| walk_at "go1") => `(tactic| (with_reducible refine iMakeD ?_))
local macro_rules | `(tactic| walk_at "go1") => `(tactic| (with_reducible refine iLc2S ?_))
local macro_rules | `(tactic| walk_at "go1") => `(tactic| (with_reducible refine iLc2L ?_))
local macro_rules | `(tactic| walk_at "go1") => `(tactic| (with_reducible refine iIStr ?_))
local macro_rules | `(tactic| walk_at "go1") => `(tactic| (with_reducible refine iIxI ?_))
local macro_rules | `(tactic| walk_at "go1") => `(tactic| (with_reducible refine iBinO ?_))
local macro_rules | `(tactic| walk_at "go1") => `(tactic| (with_reducible refine iCMeth ?_))

section
variable {P : Program} {w : World} {K : PySem.W.Frag} {mg : Str → Option Value} {base : Heap} {a : Ad} {d : Fd}
def spWhole : Sp := fun vs H Q _ => ∃ (b g u : Addr) (sg : List Nat) (p1 p2 : Addr) (A X : Rel) (way n : Nat), vs = [.ref b, .str (S sg), .ref p1, .ref p2, .int (way : Int), .int (n : Int)] ∧ BagB H b g u ∧ SgOk sg ∧ RowAt H p1 sg A ∧ RowAt H p2 sg X ∧ p1 ≠ b ∧ p1 ≠ g ∧ p2 ≠ b ∧ p2 ≠ g ∧ way < 6 ∧
  ∀ r W H', RowAt H' r sg W → (way = 0 → Agr sg (joinR n sg A X) W) → r ≠ b → r ≠ g → BagB H' b g u → Fr [b, g] H H' → Q (.ref r) H'
def notR (A : Rel) : Rel := fun s t => !A s t
theorem scWhole : FnScope ["_law_bag_here", "_law_signs_here", "_law_fixed", "_law_outs_here", "_law_way", "_law_side_here", "_law_told_here", "_law_out", "_law_made", "_law_rest", "_law_row", "_law_sign", "_law_ends"] ["_law_bag_here", "_law_signs_here", "_law_fixed", "_law_outs_here", "_law_way", "_law_side_here"] (defScope sWhole) := ⟨rfl, rfl, rfl, by decide +kernel, rfl, by decide +kernel, by decide +kernel⟩
theorem ok_whole (T : Fns K mg a d) : FnOk P w K mg base CX0 4 a.aWhole d.dWhole ["_law_bag_here", "_law_signs_here", "_law_fixed", "_law_outs_here", "_law_way", "_law_side_here"] spWhole := by
  have GTake := ok_take (P := P) (w := w) (base := base) T
  have GJoin := ok_join (P := P) (w := w) (base := base) T
  have GFlipped := ok_flipped (P := P) (w := w) (base := base) T
  refine T.FWhole.ok scWhole (fun vs H Q E h => ?_) (fun cdv A outer s H vs Q E hr h => ?_)
  · obtain ⟨b, g, u, sg, p1, p2, A, X, way, n, rfl, _⟩ := h
    rfl
  · obtain ⟨b, g, u, sg, p1, p2, R, X, way, n, rfl, hB, hsg, h1, h2, b1, g1, b2, g2, hw, k⟩ := h
    have hl5 := hsg.l
    have hl0 := hsg.p
    refine ⟨_, ((pss_cons (ps_set (i := 6) scWhole.nd rfl (Or.inl rfl) (pe_ix ix_str (pv 1) (pe_call GTake (hr.mono (by decide)) (by rfl) T.gTake T.FTake.kp T.bTake .nil pass0 (pa_cons (pv 0) (pa_cons (pe_callB call_lenS (by rfl) T.z_len (by decide +kernel) (pa_cons (pv 1) pa_nil)) pa_nil))) (fun _ _ => rfl)))
      (pss_cons (ps_set (i := 7) scWhole.nd rfl (Or.inl rfl) (pe_ix ix_str (pv 1) (pe_call GTake (hr.mono (by decide)) (by rfl) T.gTake T.FTake.kp T.bTake .nil pass0 (pa_cons (pv 0) (pa_cons (pe_callB call_lenS (by rfl) T.z_len (by decide +kernel) (pa_cons (pv 1) pa_nil)) pa_nil))) (fun _ _ => rfl)))
      (pss_cons (ps_set (i := 8) scWhole.nd rfl (Or.inl rfl) (pe_call GJoin (hr.mono (by decide)) (by rfl) T.gJoin T.FJoin.kp T.bJoin .nil pass0 (pa_cons (pv 1) (pa_cons (pv 2) (pa_cons (pv 3) (pa_cons (pv 5) pa_nil))))))
      (pss_cons (ps_set (i := 9) scWhole.nd rfl (Or.inl rfl) (pe_lst pa_nil))
      (pss_cons (ps_for PassesOwn.never rfl (pi_list (pv 3)) (pg_name (i := 10) scWhole.nd rfl (Or.inr rfl)) (pss_one (ps_expr (pe_bm PySem.F.plainAttrs_list PySem.F.slot_list_append PySem.F.type_list_append mt_append (pv 9) (pa_cons (pe_join (pe_strS (l := []) (by decide +kernel)) (pe_lc (own := [("_law_sign", 11)]) (g := gName 11) (by rfl) scWhole.nd (pi_str (pv 1)) (blkOk_by (own := [("_law_sign", 11)]) (N := ["_law_bag_here", "_law_signs_here", "_law_fixed", "_law_outs_here", "_law_way", "_law_side_here", "_law_told_here", "_law_out", "_law_made", "_law_rest", "_law_row", "_law_sign", "_law_ends"]) (sc := defScope sWhole) (by decide +kernel)) (fun _ _ _ _ _ => pg_name (i := 11) scWhole.nd rfl (Or.inl rfl)) (fun _ _ _ _ _ => (pts_one (pt_cmpR op_notInS (pv 11) (pv 10) rfl))) (fun _ _ _ _ _ => (pv 11)))) pa_nil)))))
      (pss_cons (ps_set (i := 12) scWhole.nd rfl (Or.inl rfl) (pe_lst (pa_cons (pe_lc (own := [("_law_sign", 11)]) (g := gName 11) (by rfl) scWhole.nd (pi_str (pv 1)) (blkOk_by (own := [("_law_sign", 11)]) (N := ["_law_bag_here", "_law_signs_here", "_law_fixed", "_law_outs_here", "_law_way", "_law_side_here", "_law_told_here", "_law_out", "_law_made", "_law_rest", "_law_row", "_law_sign", "_law_ends"]) (sc := defScope sWhole) (by decide +kernel)) (fun _ _ _ _ _ => pg_name (i := 11) scWhole.nd rfl (Or.inl rfl)) (fun _ _ _ _ _ => pts_nil) (fun _ _ _ _ _ => (pe_strS (l := []) (by decide +kernel)))) (pa_cons (pe_lc (own := [("_law_sign", 11)]) (g := gName 11) (by rfl) scWhole.nd (pi_str (pv 1)) (blkOk_by (own := [("_law_sign", 11)]) (N := ["_law_bag_here", "_law_signs_here", "_law_fixed", "_law_outs_here", "_law_way", "_law_side_here", "_law_told_here", "_law_out", "_law_made", "_law_rest", "_law_row", "_law_sign", "_law_ends"]) (sc := defScope sWhole) (by decide +kernel)) (fun _ _ _ _ _ => pg_name (i := 11) scWhole.nd rfl (Or.inl rfl)) (fun _ _ _ _ _ => pts_nil) (fun _ _ _ _ _ => (pv 1))) pa_nil))))
      (pss_one (ps_ret (pe_ix (r := rIxL K) ix_list (pe_lst (pa_cons (pv 8) (pa_cons (pe_call GFlipped (hr.mono (by decide)) (by rfl) T.gFlipped T.FFlipped.kp T.bFlipped .nil pass0 (pa_cons (pv 1) (pa_cons (pv 8) (pa_cons (pv 6) (pa_cons (pv 7) pa_nil))))) (pa_cons (pv 3) (pa_cons (pv 9) (pa_cons (pe_ix (r := rIxL K) ix_list (pv 12) pe_int (fun _ _ => rfl)) (pa_cons (pe_ix (r := rIxL K) ix_list (pv 12) pe_int (fun _ _ => rfl)) pa_nil))))))) (pv 4) (fun _ _ => rfl))))))))))), ?_⟩
    walk_at "go"
    refine ⟨b, g, u, sg.length, rfl, hB, hl0, by omega, fun r1 H1 hr1 hB1 f1 => ?_⟩
    obtain ⟨c, hc⟩ : ∃ c, sg[r1]? = some c := ⟨_, List.getElem?_eq_getElem hr1⟩
    walk_at "go"
    refine ⟨b, g, u, sg.length, rfl, hB1, hl0, by omega, fun r2 H2 hr2 hB2 f2 => ?_⟩
    obtain ⟨o, ho⟩ : ∃ o, sg[r2]? = some o := ⟨_, List.getElem?_eq_getElem hr2⟩
    have f12 := Fr.trans f1 f2
    have h12 : RowAt H2 p1 sg R := f12 _ _ (by simp [b1, g1]) h1
    have h22 : RowAt H2 p2 sg X := f12 _ _ (by simp [b2, g2]) h2
    walk_at "go"
    refine ⟨sg, p1, p2, R, X, n, rfl, hsg, h12, h22, fun m H3 hm s3 hmade => ?_⟩
    have hB3 := hB2.same s3
    have h23 := h22.same s3
    have nm := hB2.ne hm
    have h23' : H3 p2 = some (.lst ((outsL sg X).map fun r => V.str (S r))) := h23
    walk_at "go"
    rename_i rp hrp
    have n2r : p2 ≠ rp := ne_of_none h23' hrp
    refine for_L (xs := (outsL sg X).map fun r => V.str (S r)) (fun i σ H' => Stop (∃ (v10 v11 v12 : Option V), σ = [some (.ref b), some (.str (S sg)), some (.ref p1), some (.ref p2), some (.int (way : Int)), some (.int (n : Int)), some (.str (S [c])), some (.str (S [o])), some (.ref m), some (.ref rp), v10, v11, v12] ∧ H' rp = some (.lst (((sg.take i).map fun s => sg.filter (notR X s)).map fun r => V.str (S r))) ∧ Fr [rp] H3 H')) ⟨none, none, none, rfl, upd_same, Fr.upd_new hrp⟩ (fun i σ H' _ hh => ?_) ?_ ?_
    · obtain ⟨_, _, _, _, _, f5⟩ := hh
      exact SqL.of (f5 _ _ (by simpa using n2r) h23')
    · rintro i x σ H5 hx ⟨v10, v11, v12, rfl, hr5, f5⟩
      unfold outsL at hx
      rw [List.getElem?_map, List.getElem?_map] at hx
      obtain ⟨r, hr, rfl⟩ := Option.map_eq_some_iff.mp hx
      obtain ⟨e, he, rfl⟩ := Option.map_eq_some_iff.mp hr
      have hie := (List.getElem?_eq_some_iff.mp he).1
      have hf1 := List.length_filter_le (X e) sg
      walk_at "go"
      rename_i D hD
      refine lc_text (l := sg) (fun o => notR X e o) (fun o => V.str (S [o])) (by omega) (fun _ => rfl) (fun o ho H7 Q7 off r => ?_) (fun o ho hp7 H7 Q7 off r => ?_) ?_
      · have e1 : (!decide (o ∈ sg.filter (X e))) = notR X e o := by
          unfold notR
          congr 1
          rw [Bool.eq_iff_iff, decide_eq_true_iff, List.mem_filter]
          exact ⟨fun h => h.2, fun h => ⟨ho, h⟩⟩
        rw [← e1] at r
        walk_at "go"
        exact r
      · walk_at "go"
        exact r
      have eF : (sg.filter fun o => notR X e o) = sg.filter (notR X e) := rfl
      rw [eF]
      have s7 : Same H5 (upd H5 D (.lst ((sg.filter (notR X e)).map fun o => V.str (S [o])))) := Same.upd_new hD
      have hD7 : (upd H5 D (.lst ((sg.filter (notR X e)).map fun o => V.str (S [o])))) D = some (.lst ((sg.filter (notR X e)).map fun o => V.str (S [o]))) := upd_same
      generalize upd H5 D (.lst ((sg.filter (notR X e)).map fun o => V.str (S [o]))) = H7 at s7 hD7 ⊢
      have hj := join_S (l := sg.filter (notR X e)) (by have := List.length_filter_le (notR X e) sg; omega)
      refine ⟨S [], D, (sg.filter (notR X e)).map fun x => S [x], rfl, rfl, .inl (SqL.of (by rw [hD7, List.map_map]; rfl)), hj.1, ?_⟩
      rw [hj.2]
      have hr7 := s7 _ _ hr5
      walk_at "go"
      refine iAppend hr7 (by rw [List.length_map, List.length_map, List.length_take, sizeLine_eq]; omega) ?_
      walk_at "go"
      exact ⟨_, _, _, rfl, by rw [upd_same, row_step (H5 := H5) (rp := rp) he], Fr.trans (Fr.trans f5 (Fr.of_same s7)) Fr.in0⟩
    · rintro σ H5 ⟨v10, v11, v12, rfl, hr5, f5⟩
      have holen : ((outsL sg X).map fun r => V.str (S r)).length = sg.length := by simp [outsL]
      rw [holen, List.take_length] at hr5
      have s35 : Same H3 H5 := f5.forget1 hrp
      have nr := hB3.ne hrp
      have row5 : RowAt H5 rp sg (notR X) := hr5
      have hB5 := hB3.same s35
      have hm5 := hmade.same s35
      have h25 := h23.same s35
      have f05 := Fr.trans f12 (Fr.of_same (Vk.Same.trans s3 s35))
      walk_at "go"
      rename_i e1 he1
      refine lc_text (l := sg) (fun _ => true) (fun _ => V.str (S [])) (by omega) (fun _ => rfl) (fun o ho H7 Q7 off r => ?_) (fun o ho _ H7 Q7 off r => ?_) ?_
      · walk_at "go"
        exact r
      · walk_at "go"
        exact r
      rw [List.filter_eq_self.mpr (fun _ _ => rfl)]
      have rw1 : RowAt (upd H5 e1 (.lst (sg.map fun _ => V.str (S [])))) e1 sg (fun _ _ => false) := by
        unfold RowAt outsL
        rw [upd_same, List.map_map]
        congr 2
        refine List.map_congr_left fun s hs => ?_
        show V.str (S []) = V.str (S (sg.filter fun _ => false))
        rw [List.filter_eq_nil_iff.mpr (fun _ _ => by simp)]
      have s6 : Same H5 (upd H5 e1 (.lst (sg.map fun _ => V.str (S [])))) := Same.upd_new he1
      generalize upd H5 e1 (.lst (sg.map fun _ => V.str (S []))) = H6 at s6 rw1 ⊢
      walk_at "go"
      rename_i e2 he2
      refine lc_text (l := sg) (fun _ => true) (fun _ => V.str (S sg)) (by omega) (fun _ => rfl) (fun o ho H7 Q7 off r => ?_) (fun o ho _ H7 Q7 off r => ?_) ?_
      · walk_at "go"
        exact r
      · walk_at "go"
        exact r
      rw [List.filter_eq_self.mpr (fun _ _ => rfl)]
      have rw2 : RowAt (upd H6 e2 (.lst (sg.map fun _ => V.str (S sg)))) e2 sg (fun _ _ => true) := by
        unfold RowAt outsL
        rw [upd_same, List.map_map]
        congr 2
        refine List.map_congr_left fun s hs => ?_
        show V.str (S sg) = V.str (S (sg.filter fun _ => true))
        rw [List.filter_eq_self.mpr (fun _ _ => rfl)]
      have s7 : Same H6 (upd H6 e2 (.lst (sg.map fun _ => V.str (S sg)))) := Same.upd_new he2
      generalize upd H6 e2 (.lst (sg.map fun _ => V.str (S sg))) = H7 at s7 rw2 ⊢
      walk_at "go"
      rename_i ep hep
      have s8 : Same H7 (upd H7 ep (.lst [.ref e1, .ref e2])) := Same.upd_new hep
      have hep8 : (upd H7 ep (.lst [.ref e1, .ref e2])) ep = some (.lst [.ref e1, .ref e2]) := upd_same
      generalize upd H7 ep (.lst [.ref e1, .ref e2]) = H8 at s8 hep8 ⊢
      have s58 := Vk.Same.trans s6 (Vk.Same.trans s7 s8)
      refine ⟨sg, m, _, c, o, rfl, hsg, hm5.same s58, fun fr H9 hfr s9 hflip => ?_⟩
      have hep9 := s9 _ _ hep8
      have s59 := Vk.Same.trans s58 s9
      have hB9 := hB5.same s59
      have nf := (hB5.same s58).ne hfr
      have ne1 := hB5.ne he1
      have ne2 := (hB5.same s6).ne he2
      have hm9 := hm5.same s59
      have h29 := h25.same s59
      have hr9 := row5.same s59
      have rw19 := rw1.same (Vk.Same.trans s7 (Vk.Same.trans s8 s9))
      have rw29 := rw2.same (Vk.Same.trans s8 s9)
      have f09 := Fr.trans f05 (Fr.of_same s59)
      walk_at "go"
      rename_i q hq
      have s10 : Same H9 (upd H9 q (.lst [.ref m, .ref fr, .ref p2, .ref rp, .ref e1, .ref e2])) := Same.upd_new hq
      have hq10 : (upd H9 q (.lst [.ref m, .ref fr, .ref p2, .ref rp, .ref e1, .ref e2])) q = some (.lst [.ref m, .ref fr, .ref p2, .ref rp, .ref e1, .ref e2]) := upd_same
      generalize upd H9 q (.lst [.ref m, .ref fr, .ref p2, .ref rp, .ref e1, .ref e2]) = H10 at s10 hq10 ⊢
      have f10 := Fr.trans f09 (Fr.of_same s10)
      have hB10 := hB9.same s10
      rcases (show way = 0 ∨ way = 1 ∨ way = 2 ∨ way = 3 ∨ way = 4 ∨ way = 5 by omega) with e | e | e | e | e | e
      · subst e
        refine iIxL (SqL.of hq10) (atI_nat (j := 0) rfl) ?_
        exact k m _ H10 (hm9.same s10) (fun _ _ _ _ _ => rfl) nm.1 nm.2.1 hB10 f10
      · subst e
        refine iIxL (SqL.of hq10) (atI_nat (j := 1) rfl) ?_
        exact k fr _ H10 (hflip.same s10) (fun z => by omega) nf.1 nf.2.1 hB10 f10
      · subst e
        refine iIxL (SqL.of hq10) (atI_nat (j := 2) rfl) ?_
        exact k p2 _ H10 (h29.same s10) (fun z => by omega) b2 g2 hB10 f10
      · subst e
        refine iIxL (SqL.of hq10) (atI_nat (j := 3) rfl) ?_
        exact k rp _ H10 (hr9.same s10) (fun z => by omega) nr.1 nr.2.1 hB10 f10
      · subst e
        refine iIxL (SqL.of hq10) (atI_nat (j := 4) rfl) ?_
        exact k e1 _ H10 (rw19.same s10) (fun z => by omega) ne1.1 ne1.2.1 hB10 f10
      · subst e
        refine iIxL (SqL.of hq10) (atI_nat (j := 5) rfl) ?_
        exact k e2 _ H10 (rw29.same s10) (fun z => by omega) ne2.1 ne2.2.1 hB10 f10
end
end
section
set_option Elab.async false
set_option linter.all false
set_option maxRecDepth 100000
set_option maxHeartbeats 4000000
open PySem PySem.Spec PyProof.Rows L2 NSet

local macro_rules | `(tactic| walk_at "side") => `(tactic| exact .inl (by assumption))
local macro_rules | `(tactic| walk_at "go1") => `(tactic| (with_reducible refine iGTup (by assumption) rfl ?_))
local macro_rules | `(tactic| walk_at "go1") => `(tactic| (with_reducible refine iGCons ?_))
local macro_rules | `(tactic| walk_at "go1") => `(tactic| (with_reducible refine iGNil ?_))
local macro_rules | `(tactic| walk_at "go1") => `(tactic| (with_reducible refine iMakeV ?_))
local macro_rules | `(tactic| walk_at "go1") => `(tactic| (with_reducible refine iMakeD ?_))
local macro_rules | `(tactic| walk_at "go1") => `(tactic| (with_reducible refine iLc2S ?_))
local macro_rules | `(tactic| walk_at "go1") => `(tactic| (with_reducible refine iLc2L ?_))
local macro_rules | `(tactic| walk_at "go1") => `(tactic| (with_reducible refine iIStr ?_))
local macro_rules | `(tactic| walk_at "go1") => `(tactic| (with_reducible refine iIxI ?_))
local macro_rules | `(tactic| walk_at "go1") => `(tactic| (with_reducible refine iBinO ?_))
local macro_rules | `(tactic| walk_at "go1") => `(tactic| (with_reducible refine iCMeth ?_))

section
variable {P : Program} {w : World} {K : PySem.W.Frag} {mg : Str → Option Value} {base : Heap} {a : Ad} {d : Fd}
theorem okSl {l : List Nat} (h : ∀ c ∈ l, c < 128) : PyData.strOk (S l) = true := by
  show l.toArray.all (fun c => decide (c < 0x110000)) = true
  simp
  intro c hc
  have := h c hc
  omega
theorem dp_rows {K : PySem.W.Frag} {H : Hp} : ∀ l : List (List Nat), DpAll K H (l.map fun o => V.str (S o)) (l.map fun o => PyData.str (S o))
  | [] => .nil
  | a :: l => .cons (.str _) (dp_rows l)
theorem can_rows : ∀ l : List (List Nat), (∀ r ∈ l, ∀ c ∈ r, c < 128) → PyData.canLayAll0 (l.map fun o => PyData.str (S o)) = true
  | [], _ => by simp [PyData.canLayAll0]
  | a :: l, h => by simp [PyData.canLayAll0, PyData.canLay0, okSl (h a List.mem_cons_self), can_rows l fun z hz => h z (List.mem_cons_of_mem _ hz)]
theorem dep_rows : ∀ l : List (List Nat), PyData.depthAll (l.map fun o => PyData.str (S o)) = 0
  | [] => by simp [PyData.depthAll]
  | a :: l => by simp [PyData.depthAll, PyData.depth, dep_rows l]
theorem eqv_rows : ∀ l m : List (List Nat), PyData.eqvAll (l.map fun o => PyData.str (S o)) (m.map fun o => PyData.str (S o)) = decide (l = m)
  | [], [] => by simp [PyData.eqvAll]
  | [], _ :: _ => by simp [PyData.eqvAll]
  | _ :: _, [] => by simp [PyData.eqvAll]
  | a :: l, b :: m => by
    have e : (S a == S b) = decide (a = b) := by rw [Bool.eq_iff_iff, beq_iff_eq, decide_eq_true_iff, S_inj]
    simp [PyData.eqvAll, PyData.eqv, e, eqv_rows l m]
theorem iEqRows {K : PySem.W.Frag} {H : Hp} {Q : VK} {p q : Addr} {sg : List Nat} {A B : Rel} (hs : SgOk sg) (h1 : RowAt H p sg A) (h2 : RowAt H q sg B) (k : Q (.bl (decide (outsL sg A = outsL sg B))) H) : rEqD K (.ref p) (.ref q) H Q := by
  have low : ∀ R : Rel, ∀ r ∈ outsL sg R, ∀ c ∈ r, c < 128 := fun R r hr c hc => by
    unfold outsL at hr
    obtain ⟨s, _, rfl⟩ := List.mem_map.mp hr
    exact hs.c c (List.mem_filter.mp hc).1
  refine ⟨.list ((outsL sg A).map fun o => PyData.str (S o)), .list ((outsL sg B).map fun o => PyData.str (S o)), .lst (SqL.of h1) (dp_rows _), .lst (SqL.of h2) (dp_rows _), ?_, ?_, ?_⟩
  · simp [SeqAt.shaped, PyData.canLay0, PyData.depth, can_rows _ (low A), dep_rows]
  · simp [SeqAt.shaped, PyData.canLay0, PyData.depth, can_rows _ (low B), dep_rows]
  · have e : PyData.eqv (.list ((outsL sg A).map fun o => PyData.str (S o))) (.list ((outsL sg B).map fun o => PyData.str (S o))) = decide (outsL sg A = outsL sg B) := eqv_rows _ _
    rw [e]
    exact k
def rk (s0 s1 : Nat) : Nat → Nat → Bool := fun i t => if i = 0 then false else if i = 1 then decide (t = s0) else if i = 2 then decide (t = s1) else true
def rowR (s0 s1 i j : Nat) : Rel := fun s t => if s = s0 then rk s0 s1 i t else rk s0 s1 j t
theorem rows4 {s0 s1 : Nat} (h : s0 ≠ s1) : [V.str (S []), V.str (S [s0]), V.str (S [s1]), V.str (S [s0, s1])] = (List.range 4).map fun i => V.str (S ([s0, s1].filter (rk s0 s1 i))) := by
  have h' : s1 ≠ s0 := fun e => h e.symm
  simp [List.range_succ, rk, h, h', List.filter]
theorem outs2 {s0 s1 i j : Nat} (h : s0 ≠ s1) : outsL [s0, s1] (rowR s0 s1 i j) = [[s0, s1].filter (rk s0 s1 i), [s0, s1].filter (rk s0 s1 j)] := by
  have h' : s1 ≠ s0 := fun e => h e.symm
  unfold outsL
  rw [List.map_cons, List.map_cons, List.map_nil]
  have e1 : rowR s0 s1 i j s0 = rk s0 s1 i := funext fun t => by unfold rowR; rw [if_pos rfl]
  have e2 : rowR s0 s1 i j s1 = rk s0 s1 j := funext fun t => by unfold rowR; rw [if_neg h']
  rw [e1, e2]
theorem rk_all (s0 s1 : Nat) (h : s0 ≠ s1) (f : Nat → Bool) : ∃ i, i < 4 ∧ f s0 = rk s0 s1 i s0 ∧ f s1 = rk s0 s1 i s1 := by
  have h' : s1 ≠ s0 := fun e => h e.symm
  cases e0 : f s0 <;> cases e1 : f s1
  · exact ⟨0, by omega, by simp [rk], by simp [rk]⟩
  · exact ⟨2, by omega, by simp [rk, h], by simp [rk]⟩
  · exact ⟨1, by omega, by simp [rk], by simp [rk, h']⟩
  · exact ⟨3, by omega, by simp [rk], by simp [rk]⟩
theorem join_agr {n : Nat} {sg : List Nat} {A X Y : Rel} (h : Agr sg X Y) : Agr sg (joinR n sg A X) (joinR n sg A Y) := fun s hs t ht => by
  unfold joinR
  by_cases e : n = 0
  · rw [if_pos e, if_pos e]
    unfold compR
    rw [Bool.eq_iff_iff, List.any_eq_true, List.any_eq_true]
    constructor
    · rintro ⟨m, hm, q⟩; exact ⟨m, hm, by rw [← h m hm t ht]; exact q⟩
    · rintro ⟨m, hm, q⟩; exact ⟨m, hm, by rw [h m hm t ht]; exact q⟩
  · rw [if_neg e, if_neg e]
    unfold compR
    rw [Bool.eq_iff_iff, List.any_eq_true, List.any_eq_true]
    constructor
    · rintro ⟨m, hm, q⟩; exact ⟨m, hm, by rw [← h s hs m hm]; exact q⟩
    · rintro ⟨m, hm, q⟩; exact ⟨m, hm, by rw [h s hs m hm]; exact q⟩
theorem rel_all (s0 s1 : Nat) (h : s0 ≠ s1) (X : Rel) : ∃ i j, i < 4 ∧ j < 4 ∧ Agr [s0, s1] X (rowR s0 s1 i j) := by
  obtain ⟨i, hi, a1, a2⟩ := rk_all s0 s1 h (X s0)
  obtain ⟨j, hj, b1, b2⟩ := rk_all s0 s1 h (X s1)
  have h' : s1 ≠ s0 := fun e => h e.symm
  refine ⟨i, j, hi, hj, fun s hs t ht => ?_⟩
  have e1 : rowR s0 s1 i j s0 = rk s0 s1 i := funext fun t => by unfold rowR; rw [if_pos rfl]
  have e2 : rowR s0 s1 i j s1 = rk s0 s1 j := funext fun t => by unfold rowR; rw [if_neg h']
  simp only [List.mem_cons, List.not_mem_nil, or_false] at hs ht
  rcases hs with rfl | rfl <;> rcases ht with rfl | rfl
  · rw [e1]; exact a1
  · rw [e1]; exact a2
  · rw [e2]; exact b1
  · rw [e2]; exact b2
def spSome : Sp := fun vs H Q _ => ∃ (sg : List Nat) (p1 pw : Addr) (A W : Rel) (n : Nat), vs = [.str (S sg), .ref p1, .ref pw, .int (n : Int)] ∧ SgOk sg ∧ sg.length = 2 ∧ RowAt H p1 sg A ∧ RowAt H pw sg W ∧
  ∀ (bl : Bool) H', Same H H' → (bl = true ↔ ∃ X, Agr sg (joinR n sg A X) W) → Q (.bl bl) H'
theorem scSome : FnScope ["_law_signs_here", "_law_fixed", "_law_whole_here", "_law_side_here", "_law_rows", "_law_one", "_law_other_here"] ["_law_signs_here", "_law_fixed", "_law_whole_here", "_law_side_here"] (defScope sSome) := ⟨rfl, rfl, rfl, by decide +kernel, rfl, by decide +kernel, by decide +kernel⟩
theorem ok_some (T : Fns K mg a d) : FnOk P w K mg base CX0 4 a.aSome d.dSome ["_law_signs_here", "_law_fixed", "_law_whole_here", "_law_side_here"] spSome := by
  have GJoin := ok_join (P := P) (w := w) (base := base) T
  refine T.FSome.ok scSome (fun vs H Q E h => ?_) (fun cdv A outer s H vs Q E hr h => ?_)
  · obtain ⟨sg, p1, pw, A, W, n, rfl, _⟩ := h
    rfl
  · obtain ⟨sg, p1, pw, R, W, n, rfl, hsg, h2, hr1, hrw, k⟩ := h
    obtain ⟨s0, s1, rfl⟩ : ∃ s0 s1, sg = [s0, s1] := by
      rcases sg with _ | ⟨s0, _ | ⟨s1, _ | ⟨s2, r⟩⟩⟩
      · simp at h2
      · simp at h2
      · exact ⟨s0, s1, rfl⟩
      · simp at h2
    have hne : s0 ≠ s1 := by
      have := (List.pairwise_cons.mp hsg.a).1 s1 (by simp)
      omega
    refine ⟨_, ((pss_cons (ps_set (i := 4) scSome.nd rfl (Or.inl rfl) (pe_lst (pa_cons (pe_strS (l := []) (by decide +kernel)) (pa_cons (pe_ix ix_str (pv 0) pe_int (fun _ _ => rfl)) (pa_cons (pe_ix ix_str (pv 0) pe_int (fun _ _ => rfl)) (pa_cons (pv 0) pa_nil))))))
      (pss_cons (ps_for PassesOwn.never rfl (pi_list (pv 4)) (pg_name (i := 5) scSome.nd rfl (Or.inl rfl)) (pss_one (ps_for PassesOwn.never rfl (pi_list (pv 4)) (pg_name (i := 6) scSome.nd rfl (Or.inl rfl)) (pss_one (ps_if (pt_cmpR (op_eqD hr.units) (pe_call GJoin (hr.mono (by decide)) (by rfl) T.gJoin T.FJoin.kp T.bJoin .nil pass0 (pa_cons (pv 0) (pa_cons (pv 1) (pa_cons (pe_lst (pa_cons (pv 5) (pa_cons (pv 6) pa_nil))) (pa_cons (pv 3) pa_nil))))) (pv 2) (nomark _)) (pss_one (ps_ret pe_bl)) pss_nil)))))
      (pss_one (ps_ret pe_bl))))), ?_⟩
    walk_at "go"
    rename_i rl hrl
    have s1' : Same H (upd H rl (.lst [.str (S []), .str (S [s0]), .str (S [s1]), .str (S [s0, s1])])) := Same.upd_new hrl
    have hl1 : (upd H rl (.lst [.str (S []), .str (S [s0]), .str (S [s1]), .str (S [s0, s1])])) rl = some (.lst ((List.range 4).map fun i => V.str (S ([s0, s1].filter (rk s0 s1 i))))) := by rw [upd_same, rows4 hne]
    generalize upd H rl (.lst [.str (S []), .str (S [s0]), .str (S [s1]), .str (S [s0, s1])]) = H1 at s1' hl1 ⊢
    have item : ∀ {i : Nat} {x : V}, ((List.range 4).map fun i => V.str (S ([s0, s1].filter (rk s0 s1 i))))[i]? = some x → i < 4 ∧ x = V.str (S ([s0, s1].filter (rk s0 s1 i))) := fun {i x} hx => by
      rw [List.getElem?_map] at hx
      obtain ⟨z, hz, rfl⟩ := Option.map_eq_some_iff.mp hx
      have hlt := (List.getElem?_eq_some_iff.mp hz).1
      rw [List.length_range] at hlt
      rw [List.getElem?_range hlt] at hz
      cases hz
      exact ⟨hlt, rfl⟩
    refine for_L (xs := (List.range 4).map fun i => V.str (S ([s0, s1].filter (rk s0 s1 i)))) (fun i σ H' => Stop (∃ (v5 v6 : Option V), σ = [some (.str (S [s0, s1])), some (.ref p1), some (.ref pw), some (.int (n : Int)), some (.ref rl), v5, v6] ∧ Same H1 H' ∧ ∀ i' j', i' < i → j' < 4 → ¬ Agr [s0, s1] (joinR n [s0, s1] R (rowR s0 s1 i' j')) W)) ⟨none, none, rfl, fun _ _ h => h, fun i' j' h => by omega⟩ (fun i σ H' _ hh => ?_) ?_ ?_
    · obtain ⟨_, _, _, f5, _⟩ := hh
      exact SqL.of (f5 _ _ hl1)
    · rintro i x σ H5 hx ⟨v5, v6, rfl, f5, hno⟩
      obtain ⟨hi4, rfl⟩ := item hx
      walk_at "go"
      refine for_L (xs := (List.range 4).map fun i => V.str (S ([s0, s1].filter (rk s0 s1 i)))) (fun j σ H' => Stop (∃ (v6 : Option V), σ = [some (.str (S [s0, s1])), some (.ref p1), some (.ref pw), some (.int (n : Int)), some (.ref rl), some (.str (S ([s0, s1].filter (rk s0 s1 i)))), v6] ∧ Same H1 H' ∧ ∀ j', j' < j → ¬ Agr [s0, s1] (joinR n [s0, s1] R (rowR s0 s1 i j')) W)) ⟨v6, rfl, f5, fun j' h => by omega⟩ (fun j σ H' _ hh => ?_) ?_ ?_
      · obtain ⟨_, _, f6, _⟩ := hh
        exact SqL.of (f6 _ _ hl1)
      · rintro j x σ H6 hx ⟨v6, rfl, f6, hno2⟩
        obtain ⟨hj4, rfl⟩ := item hx
        walk_at "go"
        rename_i p2 hp2
        have s7 : Same H6 (upd H6 p2 (.lst [.str (S ([s0, s1].filter (rk s0 s1 i))), .str (S ([s0, s1].filter (rk s0 s1 j)))])) := Same.upd_new hp2
        have r7 : RowAt (upd H6 p2 (.lst [.str (S ([s0, s1].filter (rk s0 s1 i))), .str (S ([s0, s1].filter (rk s0 s1 j)))])) p2 [s0, s1] (rowR s0 s1 i j) := by
          unfold RowAt
          rw [upd_same, outs2 hne]
          rfl
        generalize upd H6 p2 (.lst [.str (S ([s0, s1].filter (rk s0 s1 i))), .str (S ([s0, s1].filter (rk s0 s1 j)))]) = H7 at s7 r7 ⊢
        have s07 := Vk.Same.trans s1' (Vk.Same.trans f6 s7)
        refine ⟨[s0, s1], p1, p2, R, rowR s0 s1 i j, n, rfl, hsg, hr1.same s07, r7, fun r H8 _ s8 hr8 => ?_⟩
        have s08 := Vk.Same.trans s07 s8
        have hrw8 := hrw.same s08
        walk_at "go"
        refine iEqRows hsg hr8 hrw8 ⟨_, rfl, ?_⟩
        by_cases e : outsL [s0, s1] (joinR n [s0, s1] R (rowR s0 s1 i j)) = outsL [s0, s1] W
        · rw [decide_eq_true e]
          walk_at "go"
          exact k true H8 s08 ⟨fun _ => ⟨_, outs_agr.mp e⟩, fun _ => rfl⟩
        · rw [decide_eq_false e]
          walk_at "go"
          refine ⟨_, rfl, Vk.Same.trans f6 (Vk.Same.trans s7 s8), fun j' hj' => ?_⟩
          rcases Nat.lt_or_ge j' j with h | h
          · exact hno2 j' h
          · have : j' = j := by omega
            subst this
            exact fun q => e (outs_agr.mpr q)
      · rintro σ H6 ⟨v6, rfl, f6, hno2⟩
        rw [List.length_map, List.length_range] at hno2
        walk_at "go"
        refine ⟨_, _, rfl, f6, fun i' j' hi' hj' => ?_⟩
        rcases Nat.lt_or_ge i' i with h | h
        · exact hno i' j' h hj'
        · have : i' = i := by omega
          subst this
          exact hno2 j' hj'
    · rintro σ H5 ⟨v5, v6, rfl, f5, hno⟩
      rw [List.length_map, List.length_range] at hno
      walk_at "go"
      refine k false H5 (Vk.Same.trans s1' f5) ⟨fun h => Bool.noConfusion h, fun ⟨X, hX⟩ => ?_⟩
      obtain ⟨i, j, hi, hj, ha⟩ := rel_all s0 s1 hne X
      exact absurd (fun s hs t ht => ((join_agr (n := n) (A := R) ha s hs t ht).symm.trans (hX s hs t ht))) (hno i j hi hj)
end
end
section
set_option Elab.async false
set_option linter.all false
set_option maxRecDepth 100000
set_option maxHeartbeats 4000000
open PySem PySem.Spec PyProof.Rows L2 NSet

local macro_rules | `(tactic| walk_at "side") => `(tactic| exact .inl (by assumption))
local macro_rules | `(tactic| walk_at "go1") => `(tactic| (with_reducible refine iGTup (by assumption) rfl ?_))
local macro_rules | `(tactic| walk_at "go1") => `(tactic| (with_reducible refine iGCons ?_))
local macro_rules | `(tactic| walk_at "go1") => `(tactic| (with_reducible refine iGNil ?_))
local macro_rules | `(tactic| walk_at "go1") => `(tactic| (with_reducible refine iMakeV ?_))
local macro_rules | `(tactic| walk_at "go1") => `(tactic| (with_reducible refine iMakeD ?_))
local macro_rules | `(tactic| walk_at "go1") => `(tactic| (with_reducible refine iLc2S ?_))
local macro_rules | `(tactic| walk_at "go1") => `(tactic| (with_reducible refine iLc2L ?_))
local macro_rules | `(tactic| walk_at "go1") => `(tactic| (with_reducible refine iIStr ?_))
local macro_rules | `(tactic| walk_at "go1") => `(tactic| (with_reducible refine iIxI ?_))
local macro_rules | `(tactic| walk_at "go1") => `(tactic| (with_reducible refine iBinO ?_))
local macro_rules | `(tactic| walk_at "go1") => `(tactic| (with_reducible refine iCMeth ?_))

section
variable {P : Program} {w : World} {K : PySem.W.Frag} {mg : Str → Option Value} {base : Heap} {a : Ad} {d : Fd}
local macro_rules | `(tactic| walk_at "go1") => `(tactic| (with_reducible refine iRevS ?_))
theorem gr_sound {sg : List Nat} (n : Nat) (R W : Rel) : inR sg (joinR n sg R (grR n sg R W)) W = true := by
  unfold inR
  rw [decide_eq_true_iff]
  intro s hs u hu h
  unfold joinR grR at h
  by_cases e : n = 0
  · rw [if_pos e, if_pos e] at h
    unfold compR gbR at h
    obtain ⟨m, hm, q⟩ := List.any_eq_true.mp h
    rw [Bool.and_eq_true] at q
    have := List.all_eq_true.mp q.2 s hs
    rw [q.1] at this
    simpa using this
  · rw [if_neg e, if_neg e] at h
    unfold compR gaR at h
    obtain ⟨m, hm, q⟩ := List.any_eq_true.mp h
    rw [Bool.and_eq_true] at q
    have := List.all_eq_true.mp q.1 u hu
    rw [q.2] at this
    simpa using this
theorem gr_above {sg : List Nat} {n : Nat} {R W X : Rel} (h : inR sg (joinR n sg R X) W = true) : ∀ s ∈ sg, ∀ t ∈ sg, X s t = true → grR n sg R W s t = true := by
  unfold inR at h
  rw [decide_eq_true_iff] at h
  intro s hs t ht hx
  unfold grR joinR at *
  by_cases e : n = 0
  · rw [if_pos e] at h ⊢
    unfold gbR
    refine List.all_eq_true.mpr fun z hz => ?_
    cases hr : R z s with
    | false => rfl
    | true => simpa using h z hz t ht (List.any_eq_true.mpr ⟨s, hs, by rw [hr, hx]; rfl⟩)
  · rw [if_neg e] at h ⊢
    unfold gaR
    refine List.all_eq_true.mpr fun z hz => ?_
    cases hr : R t z with
    | false => rfl
    | true => simpa using h s hs z hz (List.any_eq_true.mpr ⟨t, ht, by rw [hr, hx]; rfl⟩)
theorem gr_single {sg : List Nat} {n : Nat} {R W : Rel} {c o : Nat} (hc : c ∈ sg) (ho : o ∈ sg) (h : grR n sg R W c o = false) : inR sg (joinR n sg R (sglR c o)) W = false := by
  cases e : inR sg (joinR n sg R (sglR c o)) W with
  | false => rfl
  | true =>
    have := gr_above e c hc o ho (by unfold sglR; simp)
    rw [h] at this
    cases this
theorem join_mono {sg : List Nat} {n : Nat} {R X Y : Rel} (h : ∀ s ∈ sg, ∀ t ∈ sg, X s t = true → Y s t = true) : ∀ s ∈ sg, ∀ t ∈ sg, joinR n sg R X s t = true → joinR n sg R Y s t = true := by
  intro s hs t ht q
  unfold joinR compR at *
  by_cases e : n = 0
  · rw [if_pos e] at q ⊢
    obtain ⟨m, hm, q⟩ := List.any_eq_true.mp q
    rw [Bool.and_eq_true] at q
    exact List.any_eq_true.mpr ⟨m, hm, by rw [q.1, h m hm t ht q.2]; rfl⟩
  · rw [if_neg e] at q ⊢
    obtain ⟨m, hm, q⟩ := List.any_eq_true.mp q
    rw [Bool.and_eq_true] at q
    exact List.any_eq_true.mpr ⟨m, hm, by rw [q.2, h s hs m hm q.1]; rfl⟩
theorem gr_exact {sg : List Nat} {n : Nat} {R W : Rel} : (∃ X, Agr sg (joinR n sg R X) W) ↔ Agr sg (joinR n sg R (grR n sg R W)) W := by
  constructor
  · rintro ⟨X, hX⟩
    have h1 : inR sg (joinR n sg R X) W = true := decide_eq_true fun s hs t ht q => by rw [← hX s hs t ht]; exact q
    have h2 := gr_above h1
    have h3 := of_decide_eq_true (gr_sound (sg := sg) n R W)
    intro s hs t ht
    rw [Bool.eq_iff_iff]
    exact ⟨h3 s hs t ht, fun q => join_mono h2 s hs t ht (by rw [hX s hs t ht]; exact q)⟩
  · exact fun h => ⟨_, h⟩
theorem srt_rev (l : List Nat) : srtL (srtL l).reverse = srtL l := srtL_congr.mpr ((List.reverse_perm _).trans (srtL_perm l))
theorem AlOk.turn {l v : List Nat} (h : AlOk l v) : AlOk (srtL l).reverse (srtL v).reverse := by
  have pl : (srtL l).reverse.Perm l := (List.reverse_perm _).trans (srtL_perm l)
  have pv : (srtL v).reverse.Perm v := (List.reverse_perm _).trans (srtL_perm v)
  exact ⟨⟨pl.nodup_iff.mpr h.dl.1, fun c hc => h.dl.2 c (pl.mem_iff.mp hc)⟩, by rw [pl.length_eq]; exact h.h1, by rw [pl.length_eq]; exact h.h4, pv.nodup_iff.mpr h.vn, fun c hc => pl.mem_iff.mpr (h.vl c (pv.mem_iff.mp hc))⟩
theorem iEqNilR {K : PySem.W.Frag} {H : Hp} {Q : VK} {p q : Addr} {sg : List Nat} {A : Rel} (hs : SgOk sg) (h1 : RowAt H p sg A) (hq : H q = some (.lst [])) (k : Q (.bl false) H) : rEqD K (.ref p) (.ref q) H Q := by
  have low : ∀ r ∈ outsL sg A, ∀ c ∈ r, c < 128 := fun r hr c hc => by
    unfold outsL at hr
    obtain ⟨s, _, rfl⟩ := List.mem_map.mp hr
    exact hs.c c (List.mem_filter.mp hc).1
  have hlen : outsL sg A ≠ [] := fun e => by
    have h := congrArg List.length e
    unfold outsL at h
    rw [List.length_map] at h
    have := hs.p
    simp at h
    rw [h] at this
    simp at this
  refine ⟨.list ((outsL sg A).map fun o => PyData.str (S o)), .list [], .lst (SqL.of h1) (dp_rows _), .lst (SqL.of hq) .nil, ?_, ?_, ?_⟩
  · simp [SeqAt.shaped, PyData.canLay0, PyData.depth, can_rows _ low, dep_rows]
  · simp [SeqAt.shaped, PyData.canLay0, PyData.canLayAll0, PyData.depth, PyData.depthAll]
  · have e : PyData.eqv (.list ((outsL sg A).map fun o => PyData.str (S o))) (.list []) = false := by
      cases h : outsL sg A with
      | nil => exact absurd h hlen
      | cons a l => simp [PyData.eqv, PyData.eqvAll]
    rw [e]
    exact k
def spSide (a : Ad) : Sp := fun vs H Q _ => ∃ (al p1 pw : Addr) (l v : List Nat) (R W : Rel) (n : Nat) (sure : Bool), vs = [.ref al, .str (S (45 :: srtL l)), .ref p1, .ref pw, .int (n : Int), .bl sure] ∧ AlG a.cAlphabet H al (45 :: srtL l) (srtL v) ∧ AlOk l v ∧ RowAt H p1 (45 :: srtL l) R ∧ RowAt H pw (45 :: srtL l) W ∧ n < 2 ∧
  (sure = true → ∃ X, Agr (45 :: srtL l) (joinR n (45 :: srtL l) R X) W) ∧ ∀ H', Same H H' → Q (.bl true) H'
/-- what the test of the brute force asks -/
def tIf6 (al p1 pw : Addr) (sg : List Nat) (R W : Rel) (n : Nat) (sure : Bool) : TS := fun D σ H => ∃ (t t2 g : Addr) (v9 v10 v11 : Option V) (ex : Bool), σ = [some (.ref al), some (.str (S sg)), some (.ref p1), some (.ref pw), some (.int (n : Int)), some (.bl sure), some (.ref t), some (.ref t2), some (.ref g), v9, v10, v11, some (.bl ex), none] ∧
  SgOk sg ∧ RowAt H p1 sg R ∧ RowAt H pw sg W ∧ (sure = true → ex = true) ∧ (ex = true ↔ ∃ X, Agr sg (joinR n sg R X) W) ∧ ∀ H', Same H H' → D.nx σ H'
theorem scSide : FnScope ["_law_alphabet", "_law_signs_here", "_law_fixed", "_law_whole_here", "_law_side_here", "_law_sure", "_law_table_here", "_law_every", "_law_outs_here", "_law_k", "_law_out", "_law_single_here", "_law_exact", "_law_told_here"] ["_law_alphabet", "_law_signs_here", "_law_fixed", "_law_whole_here", "_law_side_here", "_law_sure"] (defScope sSide) := ⟨rfl, rfl, rfl, by decide +kernel, rfl, by decide +kernel, by decide +kernel⟩
theorem ok_side {fA B : Addr} {fdA : FuncData} {mc : Value} {tm tj tl : Tok} (T : Fns K mg a d) (GAlEq : FnOk P w K mg base CX0 1 a.aAlEq d.dAlEq ["self", "other"] (spEq a.cAlphabet)) (MT : Mk K a.cTable a.aTInit) (bTInit : Binds K d.dTInit ["self", "alphabet", "pairs"] [])
    (AV : AlV K mg a.cAlphabet mc tm tj tl) (MA : Mk K a.cAlphabet fA) (GA : FnOk P w K mg base (L2.CX P w) 3 fA fdA ["self", "letters", "vowels"] (spAl a.cAlphabet B)) (bA : Binds K fdA ["self", "letters", "vowels"] []) :
    FnOk P w K mg base CX0 11 a.aSide d.dSide ["_law_alphabet", "_law_signs_here", "_law_fixed", "_law_whole_here", "_law_side_here", "_law_sure"] (spSide a) := by
  have GTable := ok_table (P := P) (w := w) (base := base) T MT bTInit
  have GTold := ok_told (P := P) (w := w) (base := base) T GAlEq
  have GGreatest := ok_greatest (P := P) (w := w) (base := base) T GAlEq MT bTInit
  have GFactor := ok_factor (P := P) (w := w) (base := base) T GAlEq MT bTInit
  have GJoin := ok_join (P := P) (w := w) (base := base) T
  have GInside := ok_inside (P := P) (w := w) (base := base) T
  have GSingle := ok_single (P := P) (w := w) (base := base) T
  have GSome := ok_some (P := P) (w := w) (base := base) T
  have GIs := ok_is (P := P) (w := w) (base := base) T GAlEq
  refine T.FSide.ok scSide (fun vs H Q E h => ?_) (fun cdv A0 outer s H vs Q E hr h => ?_)
  · obtain ⟨al, p1, pw, l, v, R, W, n, sure, rfl, _⟩ := h
    rfl
  · obtain ⟨al, p1, pw, l, v, R, W, n, sure, rfl, hal, hok, hr1, hrw, hn, hsure, k⟩ := h
    have hsg := hok.sg
    have hl5 := hsg.l
    obtain ⟨l', v', ⟨dxa, hi⟩, el, ev⟩ := id hal
    unfold alF at hi
    have nV := T.nV
    have clA := T.clA
    refine ⟨_, ((pss_cons (ps_set (i := 6) scSide.nd rfl (Or.inl rfl) (pe_call GTable (hr.mono (by decide)) (by rfl) T.gTable T.FTable.kp T.bTable .nil pass0 (pa_cons (pv 0) (pa_cons (pv 1) (pa_cons (pv 2) pa_nil)))))
      (pss_cons (ps_set (i := 7) scSide.nd rfl (Or.inl rfl) (pe_call GTable (hr.mono (by decide)) (by rfl) T.gTable T.FTable.kp T.bTable .nil pass0 (pa_cons (pe_make MA GA (hr.mono (by decide)) (by rfl) AV.gC bA .nil passE (pa_cons (pe_revS (pe_slice sl_str (pv 1) (po_some pe_int) po_none)) (pa_cons (pe_revS (pe_fld (pv 0) rfl)) pa_nil))) (pa_cons (pv 1) (pa_cons (pv 3) pa_nil)))))
      (pss_cons (ps_set (i := 8) scSide.nd rfl (Or.inl rfl) (pe_call GTold (hr.mono (by decide)) (by rfl) T.gTold T.FTold.kp T.bTold .nil pass0 (pa_cons (pe_call GGreatest (hr.mono (by decide)) (by rfl) T.gGreatest T.FGreatest.kp T.bGreatest .nil passE (pa_cons (pv 6) (pa_cons (pv 7) (pa_cons (pv 4) pa_nil)))) (pa_cons (pv 0) (pa_cons (pv 1) pa_nil)))))
      (pss_cons (ps_if (PW.pt (pw_or (pt_cmpR (op_eqD hr.units) (pv 8) (pe_lst pa_nil) (nomark _)) (pw_or1 (pt_not (pt_val (pe_call GInside (hr.mono (by decide)) (by rfl) T.gInside T.FInside.kp T.bInside .nil pass0 (pa_cons (pe_call GJoin (hr.mono (by decide)) (by rfl) T.gJoin T.FJoin.kp T.bJoin .nil pass0 (pa_cons (pv 1) (pa_cons (pv 2) (pa_cons (pv 8) (pa_cons (pv 4) pa_nil))))) (pa_cons (pv 3) pa_nil)))))))) (pss_one (ps_ret pe_bl)) pss_nil)
      (pss_cons (ps_for PassesOwn.never rfl (pi_range1 (by rfl) T.z_range (pa_cons (pe_callB call_lenS (by rfl) T.z_len (by decide +kernel) (pa_cons (pv 1) pa_nil)) pa_nil)) (pg_name (i := 9) scSide.nd rfl (Or.inl rfl)) (pss_one (ps_for PassesOwn.never rfl (pi_str (pv 1)) (pg_name (i := 10) scSide.nd rfl (Or.inl rfl)) (pss_cons (ps_set (i := 11) scSide.nd rfl (Or.inl rfl) (pe_call GSingle (hr.mono (by decide)) (by rfl) T.gSingle T.FSingle.kp T.bSingle .nil pass0 (pa_cons (pv 1) (pa_cons (pe_ix ix_str (pv 1) (pv 9) (fun _ _ => rfl)) (pa_cons (pv 10) pa_nil)))))
      (pss_one (ps_if (PW.pt (pw_and (pt_cmpR op_notInS (pv 10) (pe_ix (r := rIxL K) ix_list (pv 8) (pv 9) (fun _ _ => rfl)) rfl) (pw_and1 (pt_val (pe_call GInside (hr.mono (by decide)) (by rfl) T.gInside T.FInside.kp T.bInside .nil pass0 (pa_cons (pe_call GJoin (hr.mono (by decide)) (by rfl) T.gJoin T.FJoin.kp T.bJoin .nil pass0 (pa_cons (pv 1) (pa_cons (pv 2) (pa_cons (pv 11) (pa_cons (pv 4) pa_nil))))) (pa_cons (pv 3) pa_nil))))))) (pss_one (ps_ret pe_bl)) pss_nil))))))
      (pss_cons (ps_set (i := 12) scSide.nd rfl (Or.inl rfl) (pe_cmpR (op_eqD hr.units) (pe_call GJoin (hr.mono (by decide)) (by rfl) T.gJoin T.FJoin.kp T.bJoin .nil pass0 (pa_cons (pv 1) (pa_cons (pv 2) (pa_cons (pv 8) (pa_cons (pv 4) pa_nil))))) (pv 3) (nomark _)))
      (pss_cons (PS.imp (t' := (tIf6 al p1 pw (45 :: srtL l) R W n sure)) (ps_if (PW.pt (pw_or (PW.pt (pw_and (pt_val (pv 5)) (pw_and1 (pt_not (pt_val (pv 12)))))) (pw_or1 (PW.pt (pw_and (pt_cmpR op_eq (pe_callB call_lenS (by rfl) T.z_len (by decide +kernel) (pa_cons (pv 1) pa_nil)) pe_int (nomark _)) (pw_and1 (pt_cmpR op_ne (pv 12) (pe_call GSome (hr.mono (by decide)) (by rfl) T.gSome T.FSome.kp T.bSome .nil pass0 (pa_cons (pv 1) (pa_cons (pv 2) (pa_cons (pv 3) (pa_cons (pv 4) pa_nil))))) (nomark _)))))))) (pss_one (ps_ret pe_bl)) pss_nil) ?h6)
      (pss_cons (ps_for PassesOwn.never rfl (pi_range1 (by rfl) T.z_range (pa_cons pe_int pa_nil)) (pg_name (i := 9) scSide.nd rfl (Or.inl rfl)) (pss_cons (ps_set (i := 13) scSide.nd rfl (Or.inl rfl) (pe_call GFactor (hr.mono (by decide)) (by rfl) T.gFactor T.FFactor.kp T.bFactor .nil passE (pa_cons (pv 6) (pa_cons (pv 7) (pa_cons (pv 4) pa_nil)))))
      (pss_cons (ps_if (PW.pt (pw_or (pt_cmpR op_eq (pe_cmpR op_isN (pv 13) pe_non (nomark _)) (pv 12) (nomark _)) (pw_or1 (PW.pt (pw_and (pt_val (pv 12)) (pw_and1 (pt_not (pt_val (pe_call GIs (hr.mono (by decide)) (by rfl) T.gIs T.FIs.kp T.bIs .nil pass0 (pa_cons (pv 13) (pa_cons (pv 0) (pa_cons (pv 1) (pa_cons (pv 8) pa_nil))))))))))))) (pss_one (ps_ret pe_bl)) pss_nil)
      (pss_one (ps_if (pt_not (pt_val (pe_call GIs (hr.mono (by decide)) (by rfl) T.gIs T.FIs.kp T.bIs .nil pass0 (pa_cons (pe_call GGreatest (hr.mono (by decide)) (by rfl) T.gGreatest T.FGreatest.kp T.bGreatest .nil passE (pa_cons (pv 6) (pa_cons (pv 7) (pa_cons (pv 4) pa_nil)))) (pa_cons (pv 0) (pa_cons (pv 1) (pa_cons (pv 8) pa_nil))))))) (pss_one (ps_ret pe_bl)) pss_nil)))))
      (pss_one (ps_ret (pe_and (pe_call GIs (hr.mono (by decide)) (by rfl) T.gIs T.FIs.kp T.bIs .nil pass0 (pa_cons (pv 6) (pa_cons (pv 0) (pa_cons (pv 1) (pa_cons (pv 2) pa_nil))))) (pe_one (pe_call GIs (hr.mono (by decide)) (by rfl) T.gIs T.FIs.kp T.bIs .nil pass0 (pa_cons (pv 7) (pa_cons (pv 0) (pa_cons (pv 1) (pa_cons (pv 3) pa_nil)))))))))))))))))), ?_⟩
    case h6 =>
      rintro ⟨D1, D2, D3, D4⟩ σ H0 ⟨t, t2, g, v9, v10, v11, ex, rfl, hsg, hr1, hrw, hsu, hex, kk⟩
      have hl5 := hsg.l
      have fin : ∀ {bl : Bool} {P : Bool → Prop}, (bl = true ↔ ∃ X, Agr (45 :: srtL l) (joinR n (45 :: srtL l) R X) W) → P ex → P bl := fun {bl P} hbl h => by
        rw [show bl = ex from Bool.eq_iff_iff.mpr (hbl.trans hex.symm)]
        exact h
      rcases (show (sure = false ∧ ex = false) ∨ (sure = false ∧ ex = true) ∨ (sure = true ∧ ex = true) by
        cases sure <;> cases ex <;> simp at hsu ⊢) with ⟨rfl, rfl⟩ | ⟨rfl, rfl⟩ | ⟨rfl, rfl⟩
      all_goals walk_at "go"
      all_goals first
        | exact kk _ (fun _ _ h => h)
        | (rename_i h2; refine ⟨_, p1, pw, R, W, n, rfl, hsg, by simp at h2 ⊢; omega, hr1, hrw, fun bl H1 s1 hbl => ?_⟩; refine fin (P := fun bl => rNe _ (V.bl bl) H1 _) hbl ?_; walk_at "go"; exact kk _ s1)
    walk_at "go"
    refine ⟨al, p1, _, _, R, rfl, hal, hsg, hr1, fun t H1 s1 hT => ?_⟩
    have hi1 := s1 _ _ hi
    have hlv := hok.vlen
    have hlv2 := srtL_len v
    have h4 := hok.h4
    have hll := srtL_len l
    rw [ev] at hi1
    walk_at "go"
    intro x dx hx hdx hn2
    refine iMkA (l := (srtL l).reverse) (v := (srtL v).reverse) hx hdx hn2 hok.turn fun H2 s2 hal2 => ?_
    rw [srt_rev, srt_rev] at hal2
    have s02 := Vk.Same.trans s1 s2
    walk_at "go"
    refine ⟨x, pw, _, _, W, rfl, hal2, hsg, hrw.same s02, fun t2 H3 s3 hT2 => ?_⟩
    have s03 := Vk.Same.trans s02 s3
    have hT3 := hT.same (Vk.Same.trans s2 s3)
    walk_at "go"
    refine ⟨t, al, t2, x, _, _, _, _, R, W, n, rfl, hT3, hT2, hsg, hsg, fun _ gt H4 s4 hg => ?_, fun q => absurd ⟨rfl, rfl⟩ q⟩
    have s04 := Vk.Same.trans s03 s4
    walk_at "go"
    refine ⟨gt, al, al, _, _, _, rfl, hg, hal.same s04, hsg, fun g H5 hgn s5 hrg => ?_⟩
    have s05 := Vk.Same.trans s04 s5
    walk_at "go"
    rename_i e0 he0
    have s6 : Same H5 (upd H5 e0 (.lst [])) := Same.upd_new he0
    have he6 : (upd H5 e0 (.lst [])) e0 = some (.lst []) := upd_same
    generalize upd H5 e0 (.lst []) = H6 at s6 he6 ⊢
    have s06 := Vk.Same.trans s05 s6
    have hrg6 := hrg.same s6
    have g6 : H6 g = some (.lst ((outsL (45 :: srtL l) (grR n (45 :: srtL l) R W)).map fun r => V.str (S r))) := hrg6
    refine iEqNilR hsg hrg6 he6 ⟨_, rfl, ?_⟩
    walk_at "go"
    refine ⟨_, p1, g, R, _, n, rfl, hsg, hr1.same s06, hrg6, fun j1 H7 _ s7 hj1 => ?_⟩
    have s07 := Vk.Same.trans s06 s7
    walk_at "go"
    refine ⟨_, j1, pw, _, W, rfl, hsg, hj1, hrw.same s07, fun H8 s8 => ?_⟩
    rw [gr_sound]
    have s08 := Vk.Same.trans s07 s8
    walk_at "go"
    have g8 : H8 g = some (.lst ((outsL (45 :: srtL l) (grR n (45 :: srtL l) R W)).map fun r => V.str (S r))) := (Vk.Same.trans s7 s8) _ _ g6
    refine for_R (fun i σ H' => Stop (∃ (v9 v10 v11 : Option V), σ = [some (.ref al), some (.str (S (45 :: srtL l))), some (.ref p1), some (.ref pw), some (.int (n : Int)), some (.bl sure), some (.ref t), some (.ref t2), some (.ref g), v9, v10, v11, none, none] ∧ Same H8 H')) ⟨none, none, none, rfl, fun _ _ h => h⟩ ?_ ?_
    · rintro i σ H9 hi ⟨v9, v10, v11, rfl, s9⟩
      have hi2 : i < (45 :: srtL l).length := by simpa using hi
      have hc : (45 :: srtL l)[i]? = some (45 :: srtL l)[i] := List.getElem?_eq_getElem hi2
      have hcm := List.getElem_mem hi2
      generalize (45 :: srtL l)[i] = c at hc hcm
      have ij : (0 : Int) + (i : Int) = (i : Int) := Int.zero_add _
      rw [ij]
      walk_at "go"
      refine for_S (fun j σ H' => Stop (∃ (v10 v11 : Option V), σ = [some (.ref al), some (.str (S (45 :: srtL l))), some (.ref p1), some (.ref pw), some (.int (n : Int)), some (.bl sure), some (.ref t), some (.ref t2), some (.ref g), some (.int (i : Int)), v10, v11, none, none] ∧ Same H8 H')) ⟨_, _, rfl, s9⟩ ?_ ?_
      · rintro j o σ H10 ho ⟨v10, v11, rfl, s10⟩
        have hom := List.mem_of_getElem? ho
        walk_at "go"
        refine ⟨_, c, o, rfl, hsg, hom, fun r H11 s11 hsr => ?_⟩
        have s811 := Vk.Same.trans s10 s11
        have g11 := s811 _ _ g8
        have o1 := outs_ix (R := grR n (45 :: srtL l) R W) hc
        have hf1 := List.length_filter_le (grR n (45 :: srtL l) R W c) (45 :: srtL l)
        walk_at "go"
        · rename_i hz
          have hgf : grR n (45 :: srtL l) R W c o = false := by
            cases q : grR n (45 :: srtL l) R W c o with
            | false => rfl
            | true => exact absurd (List.mem_filter.mpr ⟨hom, q⟩) (by simpa using hz)
          have s011 := Vk.Same.trans s08 s811
          refine ⟨_, p1, r, R, _, n, rfl, hsg, hr1.same s011, hsr, fun j2 H12 _ s12 hj2 => ?_⟩
          have s012 := Vk.Same.trans s011 s12
          walk_at "go"
          refine ⟨_, j2, pw, _, W, rfl, hsg, hj2, hrw.same s012, fun H13 s13 => ?_⟩
          rw [gr_single hcm hom hgf]
          walk_at "go"
          exact ⟨_, _, rfl, Vk.Same.trans s811 (Vk.Same.trans s12 s13)⟩
        · exact ⟨_, _, rfl, s811⟩
      · rintro σ H10 ⟨v10, v11, rfl, s10⟩
        exact ⟨_, _, _, rfl, s10⟩
    · rintro σ H9 ⟨v9, v10, v11, rfl, s9⟩
      have s09 := Vk.Same.trans s08 s9
      have rg9 := hrg6.same (Vk.Same.trans s7 (Vk.Same.trans s8 s9))
      walk_at "go"
      refine ⟨_, p1, g, R, _, n, rfl, hsg, hr1.same s09, rg9, fun j3 H10 _ s10 hj3 => ?_⟩
      have s010 := Vk.Same.trans s09 s10
      walk_at "go"
      refine iEqRows hsg hj3 (hrw.same s010) ?_
      generalize hex : decide (outsL (45 :: srtL l) (joinR n (45 :: srtL l) R (grR n (45 :: srtL l) R W)) = outsL (45 :: srtL l) W) = ex
      have hex2 : ex = true ↔ Agr (45 :: srtL l) (joinR n (45 :: srtL l) R (grR n (45 :: srtL l) R W)) W := by rw [← hex, decide_eq_true_iff, outs_agr]
      have hsu : sure = true → ex = true := fun h => hex2.mpr (gr_exact.mp (hsure h))
      walk_at "go"
      refine ⟨t, t2, g, _, _, _, ex, rfl, hsg, hr1.same s010, hrw.same s010, hsu, hex2.trans gr_exact.symm, fun H11 s11 => ?_⟩
      have s011 := Vk.Same.trans s010 s11
      walk_at "go"
      refine for_R (fun i σ H' => Stop (∃ (w9 v13 : Option V), σ = [some (.ref al), some (.str (S (45 :: srtL l))), some (.ref p1), some (.ref pw), some (.int (n : Int)), some (.bl sure), some (.ref t), some (.ref t2), some (.ref g), w9, v10, v11, some (.bl ex), v13] ∧ Same H11 H')) ⟨_, _, rfl, fun _ _ h => h⟩ ?_ ?_
      · rintro i σ H12 hi ⟨w9, v13, rfl, s12⟩
        have s012 := Vk.Same.trans s011 s12
        have hT12 : Tb a H12 t al _ _ R := hT3.same (Vk.Same.trans s4 (Vk.Same.trans s5 (Vk.Same.trans s6 (Vk.Same.trans s7 (Vk.Same.trans s8 (Vk.Same.trans s9 (Vk.Same.trans s10 (Vk.Same.trans s11 s12))))))))
        have hU12 : Tb a H12 t2 x _ _ W := hT2.same (Vk.Same.trans s4 (Vk.Same.trans s5 (Vk.Same.trans s6 (Vk.Same.trans s7 (Vk.Same.trans s8 (Vk.Same.trans s9 (Vk.Same.trans s10 (Vk.Same.trans s11 s12))))))))
        have hg12 := rg9.same (Vk.Same.trans s10 (Vk.Same.trans s11 s12))
        walk_at "go"
        refine ⟨t, al, t2, x, _, _, _, _, R, W, n, rfl, hn, hT12, hU12, hsg, hsg, fun _ => ⟨fun ag f H13 s13 hf => ?_, fun nag H13 s13 => ?_⟩, fun q => absurd ⟨rfl, rfl⟩ q⟩
        · have e : ex = true := hex2.mpr ag
          subst e
          have s013 := Vk.Same.trans s012 s13
          walk_at "go"
          refine ⟨f, al, al, g, _, _, _, rfl, hf, hal.same s013, hsg, hg12.same s13, fun H14 s14 => ?_⟩
          have s1214 := Vk.Same.trans s13 s14
          walk_at "go"
          refine ⟨t, al, t2, x, _, _, _, _, R, W, n, rfl, hT12.same s1214, hU12.same s1214, hsg, hsg, fun _ f2 H15 s15 hf2 => ?_, fun q => absurd ⟨rfl, rfl⟩ q⟩
          have s1215 := Vk.Same.trans s1214 s15
          walk_at "go"
          refine ⟨f2, al, al, g, _, _, _, rfl, hf2, hal.same (Vk.Same.trans s012 s1215), hsg, hg12.same s1215, fun H16 s16 => ?_⟩
          walk_at "go"
          exact ⟨_, _, rfl, Vk.Same.trans s12 (Vk.Same.trans s1215 s16)⟩
        · have e : ex = false := by
            cases ex
            · rfl
            · exact absurd (hex2.mp rfl) nag
          subst e
          walk_at "go"
          refine ⟨t, al, t2, x, _, _, _, _, R, W, n, rfl, hT12.same s13, hU12.same s13, hsg, hsg, fun _ f2 H15 s15 hf2 => ?_, fun q => absurd ⟨rfl, rfl⟩ q⟩
          have s1215 := Vk.Same.trans s13 s15
          walk_at "go"
          refine ⟨f2, al, al, g, _, _, _, rfl, hf2, hal.same (Vk.Same.trans s012 s1215), hsg, hg12.same s1215, fun H16 s16 => ?_⟩
          walk_at "go"
          exact ⟨_, _, rfl, Vk.Same.trans s12 (Vk.Same.trans s1215 s16)⟩
      · rintro σ H12 ⟨w9, v13, rfl, s12⟩
        have s012 := Vk.Same.trans s011 s12
        have hT12 : Tb a H12 t al _ _ R := hT3.same (Vk.Same.trans s4 (Vk.Same.trans s5 (Vk.Same.trans s6 (Vk.Same.trans s7 (Vk.Same.trans s8 (Vk.Same.trans s9 (Vk.Same.trans s10 (Vk.Same.trans s11 s12))))))))
        have hU12 : Tb a H12 t2 x _ _ W := hT2.same (Vk.Same.trans s4 (Vk.Same.trans s5 (Vk.Same.trans s6 (Vk.Same.trans s7 (Vk.Same.trans s8 (Vk.Same.trans s9 (Vk.Same.trans s10 (Vk.Same.trans s11 s12))))))))
        walk_at "go"
        refine ⟨t, al, al, p1, _, _, _, rfl, hT12, hal.same s012, hsg, hr1.same s012, fun H13 s13 => ⟨_, rfl, ?_⟩⟩
        have s013 := Vk.Same.trans s012 s13
        walk_at "go"
        refine ⟨t2, x, al, pw, _, _, _, rfl, hU12.same s13, hal.same s013, hsg, hrw.same s013, fun H14 s14 => ?_⟩
        exact k H14 (Vk.Same.trans s013 s14)
end
end
section
set_option Elab.async false
set_option linter.all false
set_option maxRecDepth 100000
set_option maxHeartbeats 4000000
open PySem PySem.Spec PyProof.Rows L2 NSet

local macro_rules | `(tactic| walk_at "side") => `(tactic| exact .inl (by assumption))
local macro_rules | `(tactic| walk_at "go1") => `(tactic| (with_reducible refine iGTup (by assumption) rfl ?_))
local macro_rules | `(tactic| walk_at "go1") => `(tactic| (with_reducible refine iGCons ?_))
local macro_rules | `(tactic| walk_at "go1") => `(tactic| (with_reducible refine iGNil ?_))
local macro_rules | `(tactic| walk_at "go1") => `(tactic| (with_reducible refine iMakeV ?_))
local macro_rules | `(tactic| walk_at "go1") => `(tactic| (with_reducible refine iMakeD ?_))
local macro_rules | `(tactic| walk_at "go1") => `(tactic| (with_reducible refine iLc2S ?_))
local macro_rules | `(tactic| walk_at "go1") => `(tactic| (with_reducible refine iLc2L ?_))
local macro_rules | `(tactic| walk_at "go1") => `(tactic| (with_reducible refine iIStr ?_))
local macro_rules | `(tactic| walk_at "go1") => `(tactic| (with_reducible refine iIxI ?_))
local macro_rules | `(tactic| walk_at "go1") => `(tactic| (with_reducible refine iBinO ?_))
local macro_rules | `(tactic| walk_at "go1") => `(tactic| (with_reducible refine iCMeth ?_))

/-- isinstance of a caught error without a dict -/
def rIsX0 (K : PySem.W.Frag) (a : Addr) (cls : Value) (d : Option Addr) : List V → Hp → VK → Prop := fun xs H Q => ∃ D : Addr, cls = .ref D ∧ d = none ∧ L2.ExcC K D ∧ rIsE K D a xs H Q
theorem call_isX0 {X : Cx} {a : Addr} {cls : Value} {d : Option Addr} {oe : Obj} {pn : List (Addr × Obj)} (hz : Zc cls d oe) (hf : ∃ vs, oe.data = .fields vs) : CallR (X.suite a ((a, oe) :: pn)) (.builtin "isinstance") (rIsX0 X.K a cls d) := by
  intro pins s σ H xs us Q I r h
  obtain ⟨D, rfl, rfl, C, q⟩ := h
  exact call_isE C hz hf pins s σ H xs us Q I r q
structure MixX (K : PySem.W.Frag) (a : Ad) : Prop where
  ec : L2.ExcC K a.cMixed
  e1 : PySem.W.exmOne K (.ref a.cMixed) (.ref a.cMixed) = some true
  k1 : PySem.W.kitOne K (.ref a.cMixed) (.ref a.cTale) = some true
  k2 : PySem.W.kitOne K (.ref a.cMixed) (.type "ValueError") = some true
theorem iIsX0 {K : PySem.W.Frag} {ab D : Addr} {c : V} {u : Value} {b : Bool} {H : Hp} {Q : VK} (C : L2.ExcC K D) (cl : ∀ z, RelV c z → z = u) (k : PySem.W.kitOne K (.ref D) u = some b) (q : Q (.bl b) H) : rIsX0 K ab (.ref D) none [.ref ab, c] H Q := ⟨D, rfl, rfl, C, c, u, b, rfl, cl, k, q⟩
section
variable {P : Program} {w : World} {K : PySem.W.Frag} {mg : Str → Option Value} {base : Heap} {a : Ad} {d : Fd}

theorem iCallS {sp : Sp} {E : L2.St → XK} {t : TA} {σ : L2.St} {H : Hp} {Q : VK} (h : t σ H fun vs H1 => sp vs H1 Q (E σ)) : tCallS sp E t σ H Q := h
def spMixed (a : Ad) : Sp := fun vs H Q _ => ∃ (t al t2 al2 : Addr) (sg W sg2 W2 : List Nat) (A B : Rel) (n : Nat) (fb : Bool), vs = [.ref t, .ref t2, .int (n : Int), .bl fb] ∧ n < 2 ∧ Tb a H t al sg W A ∧ Tb a H t2 al2 sg2 W2 B ∧ SgOk sg ∧ SgOk sg2 ∧ ¬ Alike sg W sg2 W2 ∧ ∀ H', Same H H' → Q (.bl true) H'
theorem scMixed : FnScope ["_law_one", "_law_other_here", "_law_side_here", "_law_factor_here", "_law_told_here", "e"] ["_law_one", "_law_other_here", "_law_side_here", "_law_factor_here"] (defScope sMixed) := ⟨rfl, rfl, rfl, by decide +kernel, rfl, by decide +kernel, by decide +kernel⟩
theorem ok_mixed (T : Fns K mg a d) (MX : MixX K a) (GAlEq : FnOk P w K mg base CX0 1 a.aAlEq d.dAlEq ["self", "other"] (spEq a.cAlphabet)) (MT : Mk K a.cTable a.aTInit) (bTInit : Binds K d.dTInit ["self", "alphabet", "pairs"] []) : FnOk P w K mg base CX0 11 a.aMixed d.dMixed ["_law_one", "_law_other_here", "_law_side_here", "_law_factor_here"] (spMixed a) := by
  have GGreatest := ok_greatest (P := P) (w := w) (base := base) T GAlEq MT bTInit
  have GFactor := ok_factor (P := P) (w := w) (base := base) T GAlEq MT bTInit
  refine T.FMixed.ok scMixed (fun vs H Q E h => ?_) (fun cdv A0 outer s H vs Q E hr h => ?_)
  · obtain ⟨t, al, t2, al2, sg, W, sg2, W2, A, B, n, fb, rfl, _⟩ := h
    rfl
  · obtain ⟨t, al, t2, al2, sg, W, sg2, W2, R1, R2, n, fb, rfl, hn, hT, hT2, hsg, hsg2, nal, k⟩ := h
    refine ⟨_, (pss_cons (ps_set (i := 4) scMixed.nd rfl (Or.inl rfl) pe_non) (pss_cons (ps_try_as (i := 5) (tb := fun W => (tIfS (tB (tVar 3)) (tAsg (tCallS (spFactor a) (WE W) (tCons (tVar 0) (tCons (tVar 1) (tCons (tVar 2) tNil)))) (gName 4)) (tAsg (tCallS (spGreatest a) (WE W) (tCons (tVar 0) (tCons (tVar 1) (tCons (tVar 2) tNil)))) (gName 4)))) (ts := _) (Wout := fun _ _ _ _ => False) rfl rfl scMixed.nd rfl rfl ⟨rfl, by decide, Or.inl T.gcMixed⟩ takes0
      (fun W pn xe tk _ => (pss_one (ps_if (pt_val (pv 3)) (pss_one (ps_set (i := 4) scMixed.nd rfl (Or.inl rfl) (pe_callS GFactor (hr.mono (by decide)) (by rfl) T.gFactor T.FFactor.kp T.bFactor (fun σ => passAt tk σ) (pa_cons (pv 0) (pa_cons (pv 1) (pa_cons (pv 2) pa_nil)))))) (pss_one (ps_set (i := 4) scMixed.nd rfl (Or.inl rfl) (pe_callS GGreatest (hr.mono (by decide)) (by rfl) T.gGreatest T.FGreatest.kp T.bGreatest (fun σ => passAt tk σ) (pa_cons (pv 0) (pa_cons (pv 1) (pa_cons (pv 2) pa_nil)))))))))
      (fun ab oe cls db pn hz hf => (pss_one (ps_ret (pe_and (pe_callB (call_isX0 hz hf) (by rfl) T.z_isinstance (by decide +kernel) (pa_cons (pv 5) (pa_cons (pe_glob (v := .ref a.cTale) (by rfl) T.gcTaleError rfl) pa_nil))) (pe_one (pe_callB (call_isX0 hz hf) (by rfl) T.z_isinstance (by decide +kernel) (pa_cons (pv 5) (pa_cons (pe_bltn (v := .ty "ValueError") (by rfl) T.z_VE (by decide +kernel) rfl) pa_nil))))))))) (pss_one (ps_ret pe_bl)))), ?_⟩
    refine iSeq ?_
    cases fb
    all_goals walk_at "go"
    all_goals refine iCallS ?_
    all_goals walk_at "go"
    all_goals try refine ⟨t, al, t2, al2, sg, W, sg2, W2, R1, R2, n, rfl, hT, hT2, hsg, hsg2, fun e => absurd e nal, fun _ H1 s1 => ?_⟩
    all_goals try refine ⟨t, al, t2, al2, sg, W, sg2, W2, R1, R2, n, rfl, hn, hT, hT2, hsg, hsg2, fun e => absurd e nal, fun _ H1 s1 => ?_⟩
    all_goals try refine ⟨true, MX.e1, fun _ ab hab => ?_, fun q => Bool.noConfusion q⟩
    all_goals walk_at "go"
    all_goals try refine iIsX0 MX.ec (fun z r => r) MX.k1 ?_
    all_goals walk_at "go"
    all_goals try refine iIsX0 MX.ec (fun z r => r) MX.k2 ?_
    all_goals walk_at "go"
    all_goals exact k H1 s1
end
end
section
set_option Elab.async false
set_option linter.all false
set_option maxRecDepth 100000
set_option maxHeartbeats 4000000
open PySem PySem.Spec PyProof.Rows L2 NSet

local macro_rules | `(tactic| walk_at "side") => `(tactic| exact .inl (by assumption))
local macro_rules | `(tactic| walk_at "go1") => `(tactic| (with_reducible refine iGTup (by assumption) rfl ?_))
local macro_rules | `(tactic| walk_at "go1") => `(tactic| (with_reducible refine iGCons ?_))
local macro_rules | `(tactic| walk_at "go1") => `(tactic| (with_reducible refine iGNil ?_))
local macro_rules | `(tactic| walk_at "go1") => `(tactic| (with_reducible refine iMakeV ?_))
local macro_rules | `(tactic| walk_at "go1") => `(tactic| (with_reducible refine iMakeD ?_))
local macro_rules | `(tactic| walk_at "go1") => `(tactic| (with_reducible refine iLc2S ?_))
local macro_rules | `(tactic| walk_at "go1") => `(tactic| (with_reducible refine iLc2L ?_))
local macro_rules | `(tactic| walk_at "go1") => `(tactic| (with_reducible refine iIStr ?_))
local macro_rules | `(tactic| walk_at "go1") => `(tactic| (with_reducible refine iIxI ?_))
local macro_rules | `(tactic| walk_at "go1") => `(tactic| (with_reducible refine iBinO ?_))
local macro_rules | `(tactic| walk_at "go1") => `(tactic| (with_reducible refine iCMeth ?_))

section
variable {P : Program} {w : World} {K : PySem.W.Frag} {mg : Str → Option Value} {base : Heap} {a : Ad} {d : Fd}
local macro_rules | `(tactic| walk_at "go1") => `(tactic| (with_reducible refine iRevS ?_))
local macro_rules | `(tactic| walk_at "nrm") => `(tactic| try simp only [List.set_cons_succ, List.set_cons_zero])
theorem BagB.nl {H : Hp} {b g u x : Addr} {o : HO} (h : BagB H b g u) (hx : H x = some o) (ho : ∀ xs, o ≠ .lst xs) : x ≠ b ∧ x ≠ g := by
  obtain ⟨gl, sl, n, r, e1, e2, e3, _⟩ := h
  refine ⟨fun z => ?_, fun z => ?_⟩
  · rw [z, e1] at hx; exact ho _ (Option.some.inj hx).symm
  · rw [z, e2] at hx; exact ho _ (Option.some.inj hx).symm
theorem AlG.bag {C : Addr} {H H' : Hp} {b g u al : Addr} {sg W : List Nat} (h : AlG C H al sg W) (f : Fr [b, g] H H') (hB : BagB H b g u) : AlG C H' al sg W := by
  obtain ⟨l, v, ⟨dy, h2⟩, z⟩ := h
  have := hB.nl h2 (fun xs z => by cases z)
  exact ⟨l, v, ⟨dy, f _ _ (by simp [this.1, this.2]) h2⟩, z⟩
def spLaw (K : PySem.W.Frag) : Sp := fun vs H Q _ => ∃ (x : Addr) (ns : List Int), vs = [.ref x] ∧ SqL K H x (ns.map V.int) ∧ ns.length ≤ 63 ∧ ∀ H', Q (.bl true) H'
theorem scLaw : FnScope ["_law_script", "_law_bag_here", "_law_way", "_law_many", "_law_names_here", "_law_signs_here", "_law_alphabet", "_law_fixed", "_law_outs_here", "_law_side_here", "_law_whole_here", "_law_unlike", "_law_strange", "_law_table_here", "_law_factor_here"] ["_law_script"] (defScope sLaw) := ⟨rfl, rfl, rfl, by decide +kernel, rfl, by decide +kernel, by decide +kernel⟩
theorem ok_law {fA B : Addr} {fdA : FuncData} {mc : Value} {tm tj tl : Tok} (T : Fns K mg a d) (MX : MixX K a) (GAlEq : FnOk P w K mg base CX0 1 a.aAlEq d.dAlEq ["self", "other"] (spEq a.cAlphabet)) (MT : Mk K a.cTable a.aTInit) (bTInit : Binds K d.dTInit ["self", "alphabet", "pairs"] [])
    (AV : AlV K mg a.cAlphabet mc tm tj tl) (MA : Mk K a.cAlphabet fA) (GA : FnOk P w K mg base (L2.CX P w) 3 fA fdA ["self", "letters", "vowels"] (spAl a.cAlphabet B)) (bA : Binds K fdA ["self", "letters", "vowels"] []) : FnOk P w K mg base CX0 12 a.aLaw d.dLaw ["_law_script"] (spLaw K) := by
  have GBag := ok_bag (P := P) (w := w) (base := base) T
  have GTake := ok_take (P := P) (w := w) (base := base) T
  have GNames := ok_names (P := P) (w := w) (base := base) T
  have GSigns := ok_signs (P := P) (w := w) (base := base) T
  have GPairs := ok_pairs (P := P) (w := w) (base := base) T
  have GOuts := ok_outs (P := P) (w := w) (base := base) T
  have GWhole := ok_whole (P := P) (w := w) (base := base) T
  have GOther := ok_other (P := P) (w := w) (base := base) T
  have GTFull := ok_full (P := P) (w := w) (base := base) T MT bTInit
  have GTable := ok_table (P := P) (w := w) (base := base) T MT bTInit
  have GSide := ok_side (P := P) (w := w) (base := base) T GAlEq MT bTInit AV MA GA bA
  have GMixed := ok_mixed (P := P) (w := w) (base := base) T MX GAlEq MT bTInit
  refine T.FLaw.ok scLaw (fun vs H Q E h => ?_) (fun cdv A0 outer s H vs Q E hr h => ?_)
  · obtain ⟨x, ns, rfl, _⟩ := h
    rfl
  · obtain ⟨x, ns, rfl, hx, hnl, k⟩ := h
    have clT := T.clT
    refine ⟨_, ((pss_cons (ps_set (i := 1) scLaw.nd rfl (Or.inl rfl) (pe_call GBag (hr.mono (by decide)) (by rfl) T.gBag T.FBag.kp T.bBag .nil pass0 (pa_cons (pv 0) pa_nil)))
      (pss_cons (ps_set (i := 2) scLaw.nd rfl (Or.inl rfl) (pe_lst (pa_cons (pe_call GTake (hr.mono (by decide)) (by rfl) T.gTake T.FTake.kp T.bTake .nil pass0 (pa_cons (pv 1) (pa_cons pe_int pa_nil))) (pa_cons (pe_call GTake (hr.mono (by decide)) (by rfl) T.gTake T.FTake.kp T.bTake .nil pass0 (pa_cons (pv 1) (pa_cons pe_int pa_nil))) pa_nil))))
      (pss_cons (ps_set (i := 3) scLaw.nd rfl (Or.inl rfl) (pe_lst (pa_cons (pe_call GTake (hr.mono (by decide)) (by rfl) T.gTake T.FTake.kp T.bTake .nil pass0 (pa_cons (pv 1) (pa_cons pe_int pa_nil))) (pa_cons (pe_call GTake (hr.mono (by decide)) (by rfl) T.gTake T.FTake.kp T.bTake .nil pass0 (pa_cons (pv 1) (pa_cons pe_int pa_nil))) pa_nil))))
      (pss_cons (ps_set (i := 4) scLaw.nd rfl (Or.inl rfl) (pe_call GNames (hr.mono (by decide)) (by rfl) T.gNames T.FNames.kp T.bNames .nil pass0 (pa_cons (pv 1) (pa_cons (pe_op op_add pe_int (pe_call GTake (hr.mono (by decide)) (by rfl) T.gTake T.FTake.kp T.bTake .nil pass0 (pa_cons (pv 1) (pa_cons pe_int pa_nil)))) pa_nil))))
      (pss_cons (ps_set (i := 5) scLaw.nd rfl (Or.inl rfl) (pe_call GSigns (hr.mono (by decide)) (by rfl) T.gSigns T.FSigns.kp T.bSigns .nil pass0 (pa_cons (pe_ix (r := rIxL K) ix_list (pv 4) pe_int (fun _ _ => rfl)) pa_nil)))
      (pss_cons (ps_set (i := 6) scLaw.nd rfl (Or.inl rfl) (pe_make MA GA (hr.mono (by decide)) (by rfl) AV.gC bA .nil passE (pa_cons (pe_ix (r := rIxL K) ix_list (pv 4) pe_int (fun _ _ => rfl)) (pa_cons (pe_ix (r := rIxL K) ix_list (pv 4) pe_int (fun _ _ => rfl)) pa_nil))))
      (pss_cons (ps_set (i := 7) scLaw.nd rfl (Or.inl rfl) (pe_call GOuts (hr.mono (by decide)) (by rfl) T.gOuts T.FOuts.kp T.bOuts .nil pass0 (pa_cons (pv 5) (pa_cons (pe_call GPairs (hr.mono (by decide)) (by rfl) T.gPairs T.FPairs.kp T.bPairs .nil pass0 (pa_cons (pv 1) (pa_cons (pv 5) (pa_cons (pe_ix (r := rIxL K) ix_list (pv 3) pe_int (fun _ _ => rfl)) pa_nil)))) pa_nil))))
      (pss_cons (ps_set (i := 8) scLaw.nd rfl (Or.inl rfl) (pe_call GOuts (hr.mono (by decide)) (by rfl) T.gOuts T.FOuts.kp T.bOuts .nil pass0 (pa_cons (pv 5) (pa_cons (pe_call GPairs (hr.mono (by decide)) (by rfl) T.gPairs T.FPairs.kp T.bPairs .nil pass0 (pa_cons (pv 1) (pa_cons (pv 5) (pa_cons (pe_ix (r := rIxL K) ix_list (pv 3) pe_int (fun _ _ => rfl)) pa_nil)))) pa_nil))))
      (pss_cons (ps_for PassesOwn.never rfl (pi_range1 (by rfl) T.z_range (pa_cons pe_int pa_nil)) (pg_name (i := 9) scLaw.nd rfl (Or.inl rfl)) (pss_cons (ps_set (i := 10) scLaw.nd rfl (Or.inl rfl) (pe_call GWhole (hr.mono (by decide)) (by rfl) T.gWhole T.FWhole.kp T.bWhole .nil pass0 (pa_cons (pv 1) (pa_cons (pv 5) (pa_cons (pv 7) (pa_cons (pv 8) (pa_cons (pe_ix (r := rIxL K) ix_list (pv 2) (pv 9) (fun _ _ => rfl)) (pa_cons (pv 9) pa_nil))))))))
      (pss_one (ps_if (pt_not (pt_val (pe_call GSide (hr.mono (by decide)) (by rfl) T.gSide T.FSide.kp T.bSide .nil pass0 (pa_cons (pv 6) (pa_cons (pv 5) (pa_cons (pv 7) (pa_cons (pv 10) (pa_cons (pv 9) (pa_cons (pe_cmpR op_eq (pe_ix (r := rIxL K) ix_list (pv 2) (pv 9) (fun _ _ => rfl)) pe_int (nomark _)) pa_nil))))))))) (pss_one (ps_ret pe_bl)) pss_nil))))
      (pss_cons (ps_set (i := 11) scLaw.nd rfl (Or.inl rfl) (pe_call GOther (hr.mono (by decide)) (by rfl) T.gOther T.FOther.kp T.bOther .nil pass0 (pa_cons (pv 1) (pa_cons (pv 4) pa_nil))))
      (pss_cons (ps_set (i := 12) scLaw.nd rfl (Or.inl rfl) (ClX.pe_cmeth (pe_glob (v := .ref a.cTable) (by rfl) T.gcTable rfl) T.crT T.cTFull (GTFull.raw T.bTFull .nil) (hr.mono (by decide)) passE (pa_cons (pe_make MA GA (hr.mono (by decide)) (by rfl) AV.gC bA .nil passE (pa_cons (pe_ix (r := rIxL K) ix_list (pv 11) pe_int (fun _ _ => rfl)) (pa_cons (pe_ix (r := rIxL K) ix_list (pv 11) pe_int (fun _ _ => rfl)) pa_nil))) pa_nil)))
      (pss_cons (ps_set (i := 13) scLaw.nd rfl (Or.inl rfl) (pe_call GTable (hr.mono (by decide)) (by rfl) T.gTable T.FTable.kp T.bTable .nil pass0 (pa_cons (pv 6) (pa_cons (pv 5) (pa_cons (pv 7) pa_nil)))))
      (pss_cons (ps_for PassesOwn.never rfl (pi_range1 (by rfl) T.z_range (pa_cons pe_int pa_nil)) (pg_name (i := 9) scLaw.nd rfl (Or.inl rfl)) (pss_one (ps_for PassesOwn.never rfl (pi_list (pe_lst (pa_cons pe_bl (pa_cons pe_bl pa_nil)))) (pg_name (i := 14) scLaw.nd rfl (Or.inl rfl)) (pss_one (ps_if (PW.pt (pw_or (pt_not (pt_val (pe_call GMixed (hr.mono (by decide)) (by rfl) T.gMixed T.FMixed.kp T.bMixed .nil pass0 (pa_cons (pv 13) (pa_cons (pv 12) (pa_cons (pv 9) (pa_cons (pv 14) pa_nil))))))) (pw_or1 (pt_not (pt_val (pe_call GMixed (hr.mono (by decide)) (by rfl) T.gMixed T.FMixed.kp T.bMixed .nil pass0 (pa_cons (pv 12) (pa_cons (pv 13) (pa_cons (pv 9) (pa_cons (pv 14) pa_nil)))))))))) (pss_one (ps_ret pe_bl)) pss_nil)))))
      (pss_one (ps_ret pe_bl)))))))))))))))), ?_⟩
    rw [show L2.start [("_law_script" : Str), ("_law_bag_here" : Str), ("_law_way" : Str), ("_law_many" : Str), ("_law_names_here" : Str), ("_law_signs_here" : Str), ("_law_alphabet" : Str), ("_law_fixed" : Str), ("_law_outs_here" : Str), ("_law_side_here" : Str), ("_law_whole_here" : Str), ("_law_unlike" : Str), ("_law_strange" : Str), ("_law_table_here" : Str), ("_law_factor_here" : Str)] [V.ref x] = [some (V.ref x), none, none, none, none, none, none, none, none, none, none, none, none, none, none] from rfl]
    walk_at "go"
    refine ⟨x, ns, rfl, hx, by omega, fun b g u H1 _ _ _ hB1 s1 => ?_⟩
    walk_at "nrm"
    walk_at "go"
    refine ⟨b, g, u, 6, rfl, hB1, by decide, by decide, fun w0 H2 hw0 hB2 f2 => ?_⟩
    walk_at "nrm"
    walk_at "go"
    refine ⟨b, g, u, 6, rfl, hB2, by decide, by decide, fun w1 H3 hw1 hB3 f3 => ?_⟩
    walk_at "nrm"
    walk_at "go"
    rename_i pw hpw
    have nw := hB3.ne hpw
    have hB4 := hB3.laid (o := .lst [.int (w0 : Int), .int (w1 : Int)]) hpw
    have hW4 : (L2.upd H3 pw (.lst [.int (w0 : Int), .int (w1 : Int)])) pw = some (.lst [.int (w0 : Int), .int (w1 : Int)]) := upd_same
    generalize L2.upd H3 pw (.lst [.int (w0 : Int), .int (w1 : Int)]) = H4 at hB4 hW4 ⊢
    have iw : pw ∉ [b, g] := by simp [nw.1, nw.2.1]
    refine ⟨b, g, u, 26, rfl, hB4, by decide, by decide, fun m0 H5 hm0 hB5 f5 => ?_⟩
    walk_at "nrm"
    walk_at "go"
    refine ⟨b, g, u, 26, rfl, hB5, by decide, by decide, fun m1 H6 hm1 hB6 f6 => ?_⟩
    walk_at "nrm"
    walk_at "go"
    rename_i pm hpm
    have nm := hB6.ne hpm
    have hW6 := f6 _ _ iw (f5 _ _ iw hW4)
    have hB7 := hB6.laid (o := .lst [.int (m0 : Int), .int (m1 : Int)]) hpm
    have hM7 : (L2.upd H6 pm (.lst [.int (m0 : Int), .int (m1 : Int)])) pm = some (.lst [.int (m0 : Int), .int (m1 : Int)]) := upd_same
    have hW7 := upd_oth (o := .lst [.int (m0 : Int), .int (m1 : Int)]) (ne_of_none hW6 hpm) hW6
    generalize L2.upd H6 pm (.lst [.int (m0 : Int), .int (m1 : Int)]) = H7 at hB7 hM7 hW7 ⊢
    have im : pm ∉ [b, g] := by simp [nm.1, nm.2.1]
    refine ⟨b, g, u, 4, rfl, hB7, by decide, by decide, fun m4 H8 hm4 hB8 f8 => ?_⟩
    walk_at "nrm"
    walk_at "go"
    refine ⟨b, g, u, 1 + m4, rfl, hB8, by omega, by omega, fun np l v H9 _ nb ng nu hnp hok hnl4 hB9 f9 => ?_⟩
    have hM9 := f9 _ _ im (f8 _ _ im hM7)
    have hW9 := f9 _ _ iw (f8 _ _ iw hW7)
    have h4 := hok.h4
    have hv4 := hok.vlen
    walk_at "nrm"
    walk_at "go"
    refine ⟨l, rfl, h4, fun H10 s10 => ?_⟩
    have hnp10 := s10 _ _ hnp
    walk_at "nrm"
    walk_at "go"
    intro al dal hal1 hal2 hal3
    refine iMkA hal1 hal2 hal3 hok fun H11 s11 hal => ?_
    have hsg := hok.sg
    have hl5 := hsg.l
    have s911 : Same H9 H11 := Vk.Same.trans s10 s11
    have hB11 := hB9.same s911
    have hM11 := s911 _ _ hM9
    have hW11 := s911 _ _ hW9
    have hnp11 := s911 _ _ hnp
    have inp : np ∉ [b, g] := by simp [nb, ng]
    clear hM7 hM9 hW4 hW6 hW7 hW9 hnp10 hnp hB1 hB2 hB3 hB4 hB5 hB6 hB7
    walk_at "nrm"
    walk_at "go"
    refine ⟨b, g, u, 45 :: srtL l, m0, rfl, hB11, hsg.p, by omega, by omega, fun p8 q8 H12 hp8 hP8 hl8 hm8 d81 d82 d83 hn8 hB12 f12 => ?_⟩
    have hM12 := f12 _ _ im hM11
    have hW12 := f12 _ _ iw hW11
    have hnp12 := f12 _ _ inp hnp11
    have hal12 := hal.bag f12 hB11
    walk_at "nrm"
    walk_at "go"
    refine ⟨45 :: srtL l, p8, q8, rfl, hsg, hP8, by omega, hm8, fun r1 H13 hr1n s13 hr1 => ?_⟩
    have nr1 := hB12.ne hr1n
    have hB13 := hB12.same s13
    have hM13 := s13 _ _ hM12
    have hW13 := s13 _ _ hW12
    have hnp13 := s13 _ _ hnp12
    have hal13 := hal12.same s13
    have ir1 : r1 ∉ [b, g] := by simp [nr1.1, nr1.2.1]
    walk_at "nrm"
    walk_at "go"
    refine ⟨b, g, u, 45 :: srtL l, m1, rfl, hB13, hsg.p, by omega, by omega, fun p9 q9 H14 hp9 hP9 hl9 hm9 d91 d92 d93 hn9 hB14 f14 => ?_⟩
    have hW14 := f14 _ _ iw hW13
    have hnp14 := f14 _ _ inp hnp13
    have hal14 := hal13.bag f14 hB13
    have hr14 : RowAt H14 r1 (45 :: srtL l) (relP q8) := f14 _ _ ir1 hr1
    walk_at "nrm"
    walk_at "go"
    refine ⟨45 :: srtL l, p9, q9, rfl, hsg, hP9, by omega, hm9, fun r2 H15 hr2n s15 hr2 => ?_⟩
    have nr2 := hB14.ne hr2n
    have hB15 := hB14.same s15
    have hW15 := s15 _ _ hW14
    have hnp15 := s15 _ _ hnp14
    have hal15 := hal14.same s15
    have hr15 := hr14.same s15
    have ir2 : r2 ∉ [b, g] := by simp [nr2.1, nr2.2.1]
    clear hM11 hM12 hM13 hW11 hW12 hW13 hW14 hnp11 hnp12 hnp13 hnp14 hal12 hal13 hal14 hr14 hP8 hP9 hB11 hB12 hB13 hB14
    generalize relP q8 = RA at hr15 ⊢
    generalize relP q9 = RB at hr2 ⊢
    walk_at "nrm"
    walk_at "go"
    refine for_R (fun i σ H' => Stop (∃ (v9 v10 : Option V), σ = [some (.ref x), some (.ref b), some (.ref pw), some (.ref pm), some (.ref np), some (.str (S (45 :: srtL l))), some (.ref al), some (.ref r1), some (.ref r2), v9, v10, none, none, none, none] ∧ BagB H' b g u ∧ Fr [b, g] H15 H')) ⟨none, none, rfl, hB15, Fr.refl _ _⟩ ?_ ?_
    · rintro i σ H16 hi ⟨v9, v10, rfl, hB16, f16⟩
      have hi2 : i < 2 := hi
      have ij : (0 : Int) + (i : Int) = (i : Int) := Int.zero_add _
      rw [ij]
      have hW16 := f16 _ _ iw hW15
      have hal16 := hal15.bag f16 hB15
      have h116 : RowAt H16 r1 (45 :: srtL l) RA := f16 _ _ ir1 hr15
      have h216 : RowAt H16 r2 (45 :: srtL l) RB := f16 _ _ ir2 hr2
      obtain ⟨wi, hwi, hwi6⟩ : ∃ wi : Nat, ([.int (w0 : Int), .int (w1 : Int)] : List V)[i]? = some (.int (wi : Int)) ∧ wi < 6 := by
        rcases (show i = 0 ∨ i = 1 by omega) with e | e
        · subst e; exact ⟨w0, rfl, hw0⟩
        · subst e; exact ⟨w1, rfl, hw1⟩
      walk_at "nrm"
      walk_at "go"
      refine ⟨b, g, u, _, r1, r2, RA, RB, wi, i, rfl, hB16, hsg, h116, h216, nr1.1, nr1.2.1, nr2.1, nr2.2.1, hwi6, fun r Wr H17 hr hz rb rg hB17 f17 => ?_⟩
      have hW17 := f17 _ _ iw hW16
      have hal17 := hal16.bag f17 hB16
      have h117 : RowAt H17 r1 (45 :: srtL l) RA := f17 _ _ ir1 h116
      walk_at "nrm"
      walk_at "go"
      refine ⟨al, r1, r, l, v, RA, Wr, i, _, rfl, hal17, hok, h117, hr, hi2, fun h => ⟨RB, hz ?_⟩, fun H18 s18 => ?_⟩
      · simpa using h
      · walk_at "nrm"
        walk_at "go"
        exact ⟨_, _, rfl, hB17.same s18, Fr.trans (Fr.trans f16 f17) (Fr.of_same s18)⟩
    · rintro σ H16 ⟨v9, v10, rfl, hB16, f16⟩
      have hnp16 := f16 _ _ inp hnp15
      have hal16 := hal15.bag f16 hB15
      have h116 : RowAt H16 r1 (45 :: srtL l) RA := f16 _ _ ir1 hr15
      walk_at "nrm"
      walk_at "go"
      refine ⟨b, g, u, np, l, v, rfl, hB16, hnp16, hok, nb, ng, fun p2 l2 v2 H17 hp2 hok2 hna hB17 f17 => ?_⟩
      have hal17 := hal16.bag f17 hB16
      have h117 : RowAt H17 r1 (45 :: srtL l) RA := f17 _ _ ir1 h116
      walk_at "nrm"
      walk_at "go"
      intro al2 dal2 z1 z2 z3
      refine iMkA z1 z2 z3 hok2 fun H18 s18 hal2 => ?_
      walk_at "nrm"
      walk_at "go"
      refine ⟨al2, _, _, rfl, hal2, hok2.sg, fun st H19 s19 hst => ?_⟩
      have s1719 := Vk.Same.trans s18 s19
      walk_at "nrm"
      walk_at "go"
      refine ⟨al, r1, _, _, RA, rfl, hal17.same s1719, hsg, h117.same s1719, fun tb H20 s20 htb => ?_⟩
      have hst20 := hst.same s20
      have hnb : ¬ Alike (45 :: srtL l2) (srtL v2) (45 :: srtL l) (srtL v) := fun ⟨e1, e2⟩ => hna ⟨e1.symm, e2.symm⟩
      walk_at "nrm"
      walk_at "go"
      refine for_R (fun i σ H' => Stop (∃ (v9 v14 : Option V), σ = [some (.ref x), some (.ref b), some (.ref pw), some (.ref pm), some (.ref np), some (.str (S (45 :: srtL l))), some (.ref al), some (.ref r1), some (.ref r2), v9, v10, some (.ref p2), some (.ref st), some (.ref tb), v14] ∧ Same H20 H')) ⟨_, _, rfl, fun _ _ h => h⟩ ?_ ?_
      · rintro i σ H21 hi ⟨w9, v14, rfl, s21⟩
        have hi2 : i < 2 := hi
        have ij : (0 : Int) + (i : Int) = (i : Int) := Int.zero_add _
        rw [ij]
        walk_at "nrm"
        walk_at "go"
        rename_i fl hfl
        have s22 : Same H21 (L2.upd H21 fl (.lst [.bl false, .bl true])) := Same.upd_new hfl
        have hfl22 : (L2.upd H21 fl (.lst [.bl false, .bl true])) fl = some (.lst [.bl false, .bl true]) := upd_same
        generalize L2.upd H21 fl (.lst [.bl false, .bl true]) = H22 at s22 hfl22 ⊢
        walk_at "nrm"
        refine for_L (xs := [.bl false, .bl true]) (fun j σ H' => Stop (∃ (v14 : Option V), σ = [some (.ref x), some (.ref b), some (.ref pw), some (.ref pm), some (.ref np), some (.str (S (45 :: srtL l))), some (.ref al), some (.ref r1), some (.ref r2), some (.int (i : Int)), v10, some (.ref p2), some (.ref st), some (.ref tb), v14] ∧ Same H22 H')) ⟨_, rfl, fun _ _ h => h⟩ (fun j σ H' _ hh => ?_) ?_ ?_
        · obtain ⟨_, _, s23⟩ := hh
          exact SqL.of (s23 _ _ hfl22)
        · rintro j y σ H23 hy ⟨v14, rfl, s23⟩
          obtain ⟨fb, rfl⟩ : ∃ fb, y = .bl fb := by
            rcases j with _ | _ | j
            · exact ⟨false, (Option.some.inj hy).symm⟩
            · exact ⟨true, (Option.some.inj hy).symm⟩
            · simp at hy
          have s2023 := Vk.Same.trans s21 (Vk.Same.trans s22 s23)
          have htb23 := htb.same s2023
          have hst23 := hst20.same s2023
          walk_at "nrm"
          walk_at "go"
          refine ⟨tb, al, st, al2, _, _, _, _, RA, _, i, fb, rfl, hi2, htb23, hst23, hsg, hok2.sg, hna, fun H24 s24 => ?_⟩
          walk_at "nrm"
          walk_at "go"
          refine ⟨st, al2, tb, al, _, _, _, _, _, RA, i, fb, rfl, hi2, hst23.same s24, htb23.same s24, hok2.sg, hsg, hnb, fun H25 s25 => ?_⟩
          walk_at "nrm"
          walk_at "go"
          exact ⟨_, rfl, Vk.Same.trans s23 (Vk.Same.trans s24 s25)⟩
        · rintro σ H23 ⟨v14, rfl, s23⟩
          exact ⟨_, _, rfl, Vk.Same.trans s21 (Vk.Same.trans s22 s23)⟩
      · rintro σ H21 ⟨w9, v14, rfl, s21⟩
        walk_at "nrm"
        walk_at "go"
        exact k H21
end
end
section
set_option Elab.async false
open PySem PySem.Spec PyProof.Rows L2
abbrev sBadPair : Stmt := inClass (top 5) 0
abbrev sUnk : Stmt := inClass (top 6) 0
end
section
set_option Elab.async false
set_option linter.all false
set_option maxRecDepth 100000
set_option maxHeartbeats 8000000
open PySem PySem.Spec PyProof.Rows L2
theorem find_of_cls {K : PySem.W.Frag} {C : Addr} {cd : ClassData} {name : Str} (h : PySem.W.clsIn K C = some cd) : PySem.W.findIn K (.ref C) name = PySem.W.alongIn K name cd.mro := by
  unfold PySem.W.clsIn at h
  split at h
  · rename_i ho
    cases h
    unfold PySem.W.findIn
    simp only [ho]
  · cases h
theorem kit_of {K : PySem.W.Frag} {t c : Addr} {b : Bool} (hc : PySem.W.isClsIn K c = true) (ht : PySem.W.typeIn K (.ref c) = some (.type "type")) (hs : PySem.W.subIn K (.ref t) (.ref c) = some b) (hcc : PySem.W.subIn K (.ref c) (.ref c) = some true) : PySem.W.kitOne K (.ref t) (.ref c) = some b := by
  have h1 : (PySem.W.clsIn K c).isSome = true := hc
  unfold PySem.W.kitOne
  by_cases e : (Value.ref t == Value.ref c) = true
  · rw [if_pos e]
    have e2 : Value.ref t = Value.ref c := eq_of_beq e
    rw [e2, hcc] at hs
    exact hs
  · rw [if_neg e]
    show (if ((PySem.W.clsIn K c).isSome && PySem.W.typeIn K (.ref c) == some (.type "type")) = true then PySem.W.subIn K (.ref t) (.ref c) else none) = _
    rw [h1, ht, if_pos (by rfl), hs]
theorem kit_own {K : PySem.W.Frag} {C : Addr} : PySem.W.kitOne K (.ref C) (.ref C) = some true := by
  unfold PySem.W.kitOne
  rw [if_pos (beq_self_eq_true _)]
theorem kit_any2 {K : PySem.W.Frag} {t c1 c2 : Addr} (h1 : PySem.W.kitOne K (.ref t) (.ref c1) = some false) (h2 : PySem.W.kitOne K (.ref t) (.ref c2) = some false) : PySem.W.kitAny K (.ref t) [.ref c1, .ref c2] = some false := by
  simp [PySem.W.kitAny, h1, h2]
theorem all_mk {l : PySem.W.OpenLaw} {w : World} {K : PySem.W.Frag} {h : Heap} {mg : Str → Option Value} {fa : Addr} (X : K.In h) (G : h.Ns mainGlobals mg) (hfa : mg "law" = some (.ref fa))
    {fDiff fPCheckAlphabets fPCheckShared fGB fGA fFU fEA fBag fTake fNames fSigns fPairs fOuts fProduct fOther fIs fTold fGreatest fFactor fJoin fInside fSingle fFlipped fWhole fTable fSome fSide fMixed fLaw C TB fAlEq fIsSign fTInit fTFull pTFull fTGet fTIn fTLen fTEq fTMul fTInv fTPairs TDA fA TE BA fBA ccBA cdaBA BP fBP ccBP cdaBP US fUS ccUS cdaUS MX : Addr} {odDiff anDiff odPCheckAlphabets anPCheckAlphabets odPCheckShared anPCheckShared odGB anGB odGA anGA odFU anFU odEA anEA odBag anBag odTake anTake odNames anNames odSigns anSigns odPairs anPairs odOuts anOuts odProduct anProduct odOther anOther odIs anIs odTold anTold odGreatest anGreatest odFactor anFactor odJoin anJoin odInside anInside odSingle anSingle odFlipped anFlipped odWhole anWhole odTable anTable odSome anSome odSide anSide odMixed anMixed odLaw anLaw odAlEq anAlEq odIsSign anIsSign odTInit anTInit odTFull anTFull odTGet anTGet odTIn anTIn odTLen anTLen odTEq anTEq odTMul anTMul odTInv anTInv odTPairs anTPairs odA anA odBA anBA ddccBA ddcdBA odBP anBP ddccBP ddcdBP odUS anUS ddccUS ddcdUS : Option Addr} {slDiff slPCheckAlphabets slPCheckShared slGB slGA slFU slEA slBag slTake slNames slSigns slPairs slOuts slProduct slOther slIs slTold slGreatest slFactor slJoin slInside slSingle slFlipped slWhole slTable slSome slSide slMixed slLaw slAlEq slIsSign slTInit slTFull slTGet slTIn slTLen slTEq slTMul slTInv slTPairs slA slBA slccBA slcdBA slBP slccBP slcdBP slUS slccUS slcdUS : Array (Option Value)} {ocDiff kVDiff dcDiff pmDiff cdDiff ctDiff ocPCheckAlphabets kVPCheckAlphabets dcPCheckAlphabets pmPCheckAlphabets cdPCheckAlphabets ctPCheckAlphabets ocPCheckShared kVPCheckShared dcPCheckShared pmPCheckShared cdPCheckShared ctPCheckShared ocGB kVGB dcGB pmGB cdGB ctGB ocGA kVGA dcGA pmGA cdGA ctGA ocFU kVFU dcFU pmFU cdFU ctFU ocEA kVEA dcEA pmEA cdEA ctEA ocBag kVBag dcBag pmBag cdBag ctBag ocTake kVTake dcTake pmTake cdTake ctTake ocNames kVNames dcNames pmNames cdNames ctNames ocSigns kVSigns dcSigns pmSigns cdSigns ctSigns ocPairs kVPairs dcPairs pmPairs cdPairs ctPairs ocOuts kVOuts dcOuts pmOuts cdOuts ctOuts ocProduct kVProduct dcProduct pmProduct cdProduct ctProduct ocOther kVOther dcOther pmOther cdOther ctOther ocIs kVIs dcIs pmIs cdIs ctIs ocTold kVTold dcTold pmTold cdTold ctTold ocGreatest kVGreatest dcGreatest pmGreatest cdGreatest ctGreatest ocFactor kVFactor dcFactor pmFactor cdFactor ctFactor ocJoin kVJoin dcJoin pmJoin cdJoin ctJoin ocInside kVInside dcInside pmInside cdInside ctInside ocSingle kVSingle dcSingle pmSingle cdSingle ctSingle ocFlipped kVFlipped dcFlipped pmFlipped cdFlipped ctFlipped ocWhole kVWhole dcWhole pmWhole cdWhole ctWhole ocTable kVTable dcTable pmTable cdTable ctTable ocSome kVSome dcSome pmSome cdSome ctSome ocSide kVSide dcSide pmSide cdSide ctSide ocMixed kVMixed dcMixed pmMixed cdMixed ctMixed ocLaw kVLaw dcLaw pmLaw cdLaw ctLaw ocAlEq kVAlEq dcAlEq pmAlEq cdAlEq ctAlEq ocIsSign kVIsSign dcIsSign pmIsSign cdIsSign ctIsSign ocTInit kVTInit dcTInit pmTInit cdTInit ctTInit ocTFull kVTFull dcTFull pmTFull cdTFull ctTFull ocTGet kVTGet dcTGet pmTGet cdTGet ctTGet ocTIn kVTIn dcTIn pmTIn cdTIn ctTIn ocTLen kVTLen dcTLen pmTLen cdTLen ctTLen ocTEq kVTEq dcTEq pmTEq cdTEq ctTEq ocTMul kVTMul dcTMul pmTMul cdTMul ctTMul ocTInv kVTInv dcTInv pmTInv cdTInv ctTInv ocTPairs kVTPairs dcTPairs pmTPairs cdTPairs ctTPairs ocA kVA dcA pmA cdA ctA ocBA kVBA dcBA pmBA ctBA clccBA clcdBA ocBP kVBP dcBP pmBP ctBP clccBP clcdBP ocUS kVUS dcUS pmUS ctUS clccUS clcdUS : Value} {tM tJ tl tj2 : Tok} {rsTFull : List Value} {nDA : Nat} {odDA : Option Addr} {slDA : Array (Option Value)} {ocDA : Value} {tDA : Tok} {vsCBA : Array Value} {flBA : Str} {tfBA : Tok} {vsCBP : Array Value} {flBP : Str} {tfBP : Tok} {vsCUS : Array Value} {flUS : Str} {tfUS : Tok}
    {nmTE qTE : Str} {NTE : Addr} {bsTE : List Value} {snTE : List Str} {subTE : List Value} {abTE : Bool} {colTE : Option Bool} {ddTE : Option Addr} {m0TE m1TE m2TE m3TE m5TE : Option Value}
    {nmBA qBA : Str} {NBA : Addr} {bsBA : List Value} {snBA : List Str} {subBA : List Value} {abBA : Bool} {colBA : Option Bool} {ddBA : Option Addr} {m0BA m1BA m2BA m3BA m5BA : Option Value}
    {nmBP qBP : Str} {NBP : Addr} {bsBP : List Value} {snBP : List Str} {subBP : List Value} {abBP : Bool} {colBP : Option Bool} {ddBP : Option Addr} {m0BP m1BP m2BP m3BP m5BP : Option Value}
    {nmUS qUS : Str} {NUS : Addr} {bsUS : List Value} {snUS : List Str} {subUS : List Value} {abUS : Bool} {colUS : Option Bool} {ddUS : Option Addr} {m0US m1US m2US m3US m5US : Option Value}
    {nmMX qMX : Str} {NMX : Addr} {bsMX : List Value} {snMX : List Str} {subMX : List Value} {abMX : Bool} {colMX : Option Bool} {ddMX : Option Addr} {m0MX m1MX m2MX m3MX m5MX : Option Value}
    (lDiff : K.lookup fDiff = some ⟨ocDiff, odDiff, .func (PySem.W.fnOf "differ_within" "differ_within" (defArgs sDiff) (defBody sDiff) (defScope sDiff) .none kVDiff dcDiff pmDiff anDiff cdDiff ctDiff), slDiff⟩)
    (cDiff : PySem.W.codeIn K cdDiff "differ_within" = true)
    (aDiff : PySem.W.nsIn K mainGlobals "differ_within" = some (some (.ref fDiff)))
    (kDiff : PySem.W.keepIn K (.ref fDiff) = true)
    (lPCheckAlphabets : K.lookup fPCheckAlphabets = some ⟨ocPCheckAlphabets, odPCheckAlphabets, .func (PySem.W.fnOf "check_alphabets" "check_alphabets" (defArgs sPCheckAlphabets) (defBody sPCheckAlphabets) (defScope sPCheckAlphabets) .none kVPCheckAlphabets dcPCheckAlphabets pmPCheckAlphabets anPCheckAlphabets cdPCheckAlphabets ctPCheckAlphabets), slPCheckAlphabets⟩)
    (cPCheckAlphabets : PySem.W.codeIn K cdPCheckAlphabets "check_alphabets" = true)
    (aPCheckAlphabets : PySem.W.nsIn K mainGlobals "check_alphabets" = some (some (.ref fPCheckAlphabets)))
    (kPCheckAlphabets : PySem.W.keepIn K (.ref fPCheckAlphabets) = true)
    (lPCheckShared : K.lookup fPCheckShared = some ⟨ocPCheckShared, odPCheckShared, .func (PySem.W.fnOf "check_shared" "check_shared" (defArgs sPCheckShared) (defBody sPCheckShared) (defScope sPCheckShared) .none kVPCheckShared dcPCheckShared pmPCheckShared anPCheckShared cdPCheckShared ctPCheckShared), slPCheckShared⟩)
    (cPCheckShared : PySem.W.codeIn K cdPCheckShared "check_shared" = true)
    (aPCheckShared : PySem.W.nsIn K mainGlobals "check_shared" = some (some (.ref fPCheckShared)))
    (kPCheckShared : PySem.W.keepIn K (.ref fPCheckShared) = true)
    (lGB : K.lookup fGB = some ⟨ocGB, odGB, .func (PySem.W.fnOf "greatest_behind" "greatest_behind" (defArgs sGB) (defBody sGB) (defScope sGB) .none kVGB dcGB pmGB anGB cdGB ctGB), slGB⟩)
    (cGB : PySem.W.codeIn K cdGB "greatest_behind" = true)
    (aGB : PySem.W.nsIn K mainGlobals "greatest_behind" = some (some (.ref fGB)))
    (kGB : PySem.W.keepIn K (.ref fGB) = true)
    (lGA : K.lookup fGA = some ⟨ocGA, odGA, .func (PySem.W.fnOf "greatest_ahead" "greatest_ahead" (defArgs sGA) (defBody sGA) (defScope sGA) .none kVGA dcGA pmGA anGA cdGA ctGA), slGA⟩)
    (cGA : PySem.W.codeIn K cdGA "greatest_ahead" = true)
    (aGA : PySem.W.nsIn K mainGlobals "greatest_ahead" = some (some (.ref fGA)))
    (kGA : PySem.W.keepIn K (.ref fGA) = true)
    (lFU : K.lookup fFU = some ⟨ocFU, odFU, .func (PySem.W.fnOf "further" "further" (defArgs sFU) (defBody sFU) (defScope sFU) .none kVFU dcFU pmFU anFU cdFU ctFU), slFU⟩)
    (cFU : PySem.W.codeIn K cdFU "further" = true)
    (aFU : PySem.W.nsIn K mainGlobals "further" = some (some (.ref fFU)))
    (kFU : PySem.W.keepIn K (.ref fFU) = true)
    (lEA : K.lookup fEA = some ⟨ocEA, odEA, .func (PySem.W.fnOf "earlier" "earlier" (defArgs sEA) (defBody sEA) (defScope sEA) .none kVEA dcEA pmEA anEA cdEA ctEA), slEA⟩)
    (cEA : PySem.W.codeIn K cdEA "earlier" = true)
    (aEA : PySem.W.nsIn K mainGlobals "earlier" = some (some (.ref fEA)))
    (kEA : PySem.W.keepIn K (.ref fEA) = true)
    (lBag : K.lookup fBag = some ⟨ocBag, odBag, .func (PySem.W.fnOf "_law_bag" "_law_bag" (defArgs sBag) (defBody sBag) (defScope sBag) .none kVBag dcBag pmBag anBag cdBag ctBag), slBag⟩)
    (cBag : PySem.W.codeIn K cdBag "_law_bag" = true)
    (aBag : PySem.W.nsIn K mainGlobals "_law_bag" = some (some (.ref fBag)))
    (kBag : PySem.W.keepIn K (.ref fBag) = true)
    (lTake : K.lookup fTake = some ⟨ocTake, odTake, .func (PySem.W.fnOf "_law_take" "_law_take" (defArgs sTake) (defBody sTake) (defScope sTake) .none kVTake dcTake pmTake anTake cdTake ctTake), slTake⟩)
    (cTake : PySem.W.codeIn K cdTake "_law_take" = true)
    (aTake : PySem.W.nsIn K mainGlobals "_law_take" = some (some (.ref fTake)))
    (kTake : PySem.W.keepIn K (.ref fTake) = true)
    (lNames : K.lookup fNames = some ⟨ocNames, odNames, .func (PySem.W.fnOf "_law_names" "_law_names" (defArgs sNames) (defBody sNames) (defScope sNames) .none kVNames dcNames pmNames anNames cdNames ctNames), slNames⟩)
    (cNames : PySem.W.codeIn K cdNames "_law_names" = true)
    (aNames : PySem.W.nsIn K mainGlobals "_law_names" = some (some (.ref fNames)))
    (kNames : PySem.W.keepIn K (.ref fNames) = true)
    (lSigns : K.lookup fSigns = some ⟨ocSigns, odSigns, .func (PySem.W.fnOf "_law_signs" "_law_signs" (defArgs sSigns) (defBody sSigns) (defScope sSigns) .none kVSigns dcSigns pmSigns anSigns cdSigns ctSigns), slSigns⟩)
    (cSigns : PySem.W.codeIn K cdSigns "_law_signs" = true)
    (aSigns : PySem.W.nsIn K mainGlobals "_law_signs" = some (some (.ref fSigns)))
    (kSigns : PySem.W.keepIn K (.ref fSigns) = true)
    (lPairs : K.lookup fPairs = some ⟨ocPairs, odPairs, .func (PySem.W.fnOf "_law_pairs" "_law_pairs" (defArgs sPairs) (defBody sPairs) (defScope sPairs) .none kVPairs dcPairs pmPairs anPairs cdPairs ctPairs), slPairs⟩)
    (cPairs : PySem.W.codeIn K cdPairs "_law_pairs" = true)
    (aPairs : PySem.W.nsIn K mainGlobals "_law_pairs" = some (some (.ref fPairs)))
    (kPairs : PySem.W.keepIn K (.ref fPairs) = true)
    (lOuts : K.lookup fOuts = some ⟨ocOuts, odOuts, .func (PySem.W.fnOf "_law_outs" "_law_outs" (defArgs sOuts) (defBody sOuts) (defScope sOuts) .none kVOuts dcOuts pmOuts anOuts cdOuts ctOuts), slOuts⟩)
    (cOuts : PySem.W.codeIn K cdOuts "_law_outs" = true)
    (aOuts : PySem.W.nsIn K mainGlobals "_law_outs" = some (some (.ref fOuts)))
    (kOuts : PySem.W.keepIn K (.ref fOuts) = true)
    (lProduct : K.lookup fProduct = some ⟨ocProduct, odProduct, .func (PySem.W.fnOf "_law_product" "_law_product" (defArgs sProduct) (defBody sProduct) (defScope sProduct) .none kVProduct dcProduct pmProduct anProduct cdProduct ctProduct), slProduct⟩)
    (cProduct : PySem.W.codeIn K cdProduct "_law_product" = true)
    (aProduct : PySem.W.nsIn K mainGlobals "_law_product" = some (some (.ref fProduct)))
    (kProduct : PySem.W.keepIn K (.ref fProduct) = true)
    (lOther : K.lookup fOther = some ⟨ocOther, odOther, .func (PySem.W.fnOf "_law_other" "_law_other" (defArgs sOther) (defBody sOther) (defScope sOther) .none kVOther dcOther pmOther anOther cdOther ctOther), slOther⟩)
    (cOther : PySem.W.codeIn K cdOther "_law_other" = true)
    (aOther : PySem.W.nsIn K mainGlobals "_law_other" = some (some (.ref fOther)))
    (kOther : PySem.W.keepIn K (.ref fOther) = true)
    (lIs : K.lookup fIs = some ⟨ocIs, odIs, .func (PySem.W.fnOf "_law_is" "_law_is" (defArgs sIs) (defBody sIs) (defScope sIs) .none kVIs dcIs pmIs anIs cdIs ctIs), slIs⟩)
    (cIs : PySem.W.codeIn K cdIs "_law_is" = true)
    (aIs : PySem.W.nsIn K mainGlobals "_law_is" = some (some (.ref fIs)))
    (kIs : PySem.W.keepIn K (.ref fIs) = true)
    (lTold : K.lookup fTold = some ⟨ocTold, odTold, .func (PySem.W.fnOf "_law_told" "_law_told" (defArgs sTold) (defBody sTold) (defScope sTold) .none kVTold dcTold pmTold anTold cdTold ctTold), slTold⟩)
    (cTold : PySem.W.codeIn K cdTold "_law_told" = true)
    (aTold : PySem.W.nsIn K mainGlobals "_law_told" = some (some (.ref fTold)))
    (kTold : PySem.W.keepIn K (.ref fTold) = true)
    (lGreatest : K.lookup fGreatest = some ⟨ocGreatest, odGreatest, .func (PySem.W.fnOf "_law_greatest" "_law_greatest" (defArgs sGreatest) (defBody sGreatest) (defScope sGreatest) .none kVGreatest dcGreatest pmGreatest anGreatest cdGreatest ctGreatest), slGreatest⟩)
    (cGreatest : PySem.W.codeIn K cdGreatest "_law_greatest" = true)
    (aGreatest : PySem.W.nsIn K mainGlobals "_law_greatest" = some (some (.ref fGreatest)))
    (kGreatest : PySem.W.keepIn K (.ref fGreatest) = true)
    (lFactor : K.lookup fFactor = some ⟨ocFactor, odFactor, .func (PySem.W.fnOf "_law_factor" "_law_factor" (defArgs sFactor) (defBody sFactor) (defScope sFactor) .none kVFactor dcFactor pmFactor anFactor cdFactor ctFactor), slFactor⟩)
    (cFactor : PySem.W.codeIn K cdFactor "_law_factor" = true)
    (aFactor : PySem.W.nsIn K mainGlobals "_law_factor" = some (some (.ref fFactor)))
    (kFactor : PySem.W.keepIn K (.ref fFactor) = true)
    (lJoin : K.lookup fJoin = some ⟨ocJoin, odJoin, .func (PySem.W.fnOf "_law_join" "_law_join" (defArgs sJoin) (defBody sJoin) (defScope sJoin) .none kVJoin dcJoin pmJoin anJoin cdJoin ctJoin), slJoin⟩)
    (cJoin : PySem.W.codeIn K cdJoin "_law_join" = true)
    (aJoin : PySem.W.nsIn K mainGlobals "_law_join" = some (some (.ref fJoin)))
    (kJoin : PySem.W.keepIn K (.ref fJoin) = true)
    (lInside : K.lookup fInside = some ⟨ocInside, odInside, .func (PySem.W.fnOf "_law_inside" "_law_inside" (defArgs sInside) (defBody sInside) (defScope sInside) .none kVInside dcInside pmInside anInside cdInside ctInside), slInside⟩)
    (cInside : PySem.W.codeIn K cdInside "_law_inside" = true)
    (aInside : PySem.W.nsIn K mainGlobals "_law_inside" = some (some (.ref fInside)))
    (kInside : PySem.W.keepIn K (.ref fInside) = true)
    (lSingle : K.lookup fSingle = some ⟨ocSingle, odSingle, .func (PySem.W.fnOf "_law_single" "_law_single" (defArgs sSingle) (defBody sSingle) (defScope sSingle) .none kVSingle dcSingle pmSingle anSingle cdSingle ctSingle), slSingle⟩)
    (cSingle : PySem.W.codeIn K cdSingle "_law_single" = true)
    (aSingle : PySem.W.nsIn K mainGlobals "_law_single" = some (some (.ref fSingle)))
    (kSingle : PySem.W.keepIn K (.ref fSingle) = true)
    (lFlipped : K.lookup fFlipped = some ⟨ocFlipped, odFlipped, .func (PySem.W.fnOf "_law_flipped" "_law_flipped" (defArgs sFlipped) (defBody sFlipped) (defScope sFlipped) .none kVFlipped dcFlipped pmFlipped anFlipped cdFlipped ctFlipped), slFlipped⟩)
    (cFlipped : PySem.W.codeIn K cdFlipped "_law_flipped" = true)
    (aFlipped : PySem.W.nsIn K mainGlobals "_law_flipped" = some (some (.ref fFlipped)))
    (kFlipped : PySem.W.keepIn K (.ref fFlipped) = true)
    (lWhole : K.lookup fWhole = some ⟨ocWhole, odWhole, .func (PySem.W.fnOf "_law_whole" "_law_whole" (defArgs sWhole) (defBody sWhole) (defScope sWhole) .none kVWhole dcWhole pmWhole anWhole cdWhole ctWhole), slWhole⟩)
    (cWhole : PySem.W.codeIn K cdWhole "_law_whole" = true)
    (aWhole : PySem.W.nsIn K mainGlobals "_law_whole" = some (some (.ref fWhole)))
    (kWhole : PySem.W.keepIn K (.ref fWhole) = true)
    (lTable : K.lookup fTable = some ⟨ocTable, odTable, .func (PySem.W.fnOf "_law_table" "_law_table" (defArgs sTable) (defBody sTable) (defScope sTable) .none kVTable dcTable pmTable anTable cdTable ctTable), slTable⟩)
    (cTable : PySem.W.codeIn K cdTable "_law_table" = true)
    (aTable : PySem.W.nsIn K mainGlobals "_law_table" = some (some (.ref fTable)))
    (kTable : PySem.W.keepIn K (.ref fTable) = true)
    (lSome : K.lookup fSome = some ⟨ocSome, odSome, .func (PySem.W.fnOf "_law_some" "_law_some" (defArgs sSome) (defBody sSome) (defScope sSome) .none kVSome dcSome pmSome anSome cdSome ctSome), slSome⟩)
    (cSome : PySem.W.codeIn K cdSome "_law_some" = true)
    (aSome : PySem.W.nsIn K mainGlobals "_law_some" = some (some (.ref fSome)))
    (kSome : PySem.W.keepIn K (.ref fSome) = true)
    (lSide : K.lookup fSide = some ⟨ocSide, odSide, .func (PySem.W.fnOf "_law_side" "_law_side" (defArgs sSide) (defBody sSide) (defScope sSide) .none kVSide dcSide pmSide anSide cdSide ctSide), slSide⟩)
    (cSide : PySem.W.codeIn K cdSide "_law_side" = true)
    (aSide : PySem.W.nsIn K mainGlobals "_law_side" = some (some (.ref fSide)))
    (kSide : PySem.W.keepIn K (.ref fSide) = true)
    (lMixed : K.lookup fMixed = some ⟨ocMixed, odMixed, .func (PySem.W.fnOf "_law_mixed" "_law_mixed" (defArgs sMixed) (defBody sMixed) (defScope sMixed) .none kVMixed dcMixed pmMixed anMixed cdMixed ctMixed), slMixed⟩)
    (cMixed : PySem.W.codeIn K cdMixed "_law_mixed" = true)
    (aMixed : PySem.W.nsIn K mainGlobals "_law_mixed" = some (some (.ref fMixed)))
    (kMixed : PySem.W.keepIn K (.ref fMixed) = true)
    (lLaw : K.lookup fLaw = some ⟨ocLaw, odLaw, .func (PySem.W.fnOf "law" "law" (defArgs sLaw) (defBody sLaw) (defScope sLaw) .none kVLaw dcLaw pmLaw anLaw cdLaw ctLaw), slLaw⟩)
    (cLaw : PySem.W.codeIn K cdLaw "law" = true)
    (aLaw : PySem.W.nsIn K mainGlobals "law" = some (some (.ref fLaw)))
    (kLaw : PySem.W.keepIn K (.ref fLaw) = true)
    (z_len : PySem.W.nsIn K mainGlobals "len" = some none)
    (z_set : PySem.W.nsIn K mainGlobals "set" = some none)
    (z_all : PySem.W.nsIn K mainGlobals "all" = some none)
    (z_abs : PySem.W.nsIn K mainGlobals "abs" = some none)
    (z_int : PySem.W.nsIn K mainGlobals "int" = some none)
    (z_range : PySem.W.nsIn K mainGlobals "range" = some none)
    (z_sorted : PySem.W.nsIn K mainGlobals "sorted" = some none)
    (z_isinstance : PySem.W.nsIn K mainGlobals "isinstance" = some none)
    (z_str : PySem.W.nsIn K mainGlobals "str" = some none)
    (z_bool : PySem.W.nsIn K mainGlobals "bool" = some none)
    (z_list : PySem.W.nsIn K mainGlobals "list" = some none)
    (z_tuple : PySem.W.nsIn K mainGlobals "tuple" = some none)
    (z_any : PySem.W.nsIn K mainGlobals "any" = some none)
    (z_enumerate : PySem.W.nsIn K mainGlobals "enumerate" = some none)
    (z_min : PySem.W.nsIn K mainGlobals "min" = some none)
    (z_max : PySem.W.nsIn K mainGlobals "max" = some none)
    (z_ValueError : PySem.W.nsIn K mainGlobals "ValueError" = some none)
    (aC : PySem.W.nsIn K mainGlobals "Alphabet" = some (some (.ref C)))
    (pgC : PySem.W.plainGet K C Str.empty = true)
    (hdC : PySem.W.hasDictIn K C = true)
    (poC : PySem.W.plainOver K C = true)
    (saC : PySem.W.findIn K (.ref C) "__setattr__" = some (some (.builtin "object.__setattr__")))
    (mkC : PySem.W.makesIn K C = true)
    (kC : PySem.W.keepIn K (.ref C) = true)
    (nC_letters : PySem.W.findIn K (.ref C) "letters" = some none)
    (nC_vowels : PySem.W.findIn K (.ref C) "vowels" = some none)
    (nC_consonants : PySem.W.findIn K (.ref C) "consonants" = some none)
    (nC_signs : PySem.W.findIn K (.ref C) "signs" = some none)
    (ig : PySem.W.specialIn K (.builtin "object.__class__") "__get__" = some (some (.builtin "getset_descriptor.__get__")))
    (it : PySem.W.takesIn K (.builtin "object.__class__") = some true)
    (icC : PySem.W.findIn K (.ref C) "__class__" = some (some (.builtin "object.__class__")))
    (imC : PySem.W.mroIn K C (.type "object") = some true)
    (rdC : PySem.W.readsIn K C (.type "type") = true)
    (gaC : PySem.W.specialIn K (.ref C) "__getattribute__" = some (some (.builtin "type.__getattribute__")))
    (vM : PySem.W.findCls K (.ref C) (.type "type") "MOST" = some (.val (.int 4 tM)))
    (vJ : PySem.W.findCls K (.ref C) (.type "type") "JOINT" = some (.val (.str "-" tJ)))
    (aJ : PySem.W.findIn K (.ref C) "JOINT" = some (some (.str "-" tj2)))
    (gJ : PySem.W.specialIn K (.str "-" tj2) "__get__" = some none)
    (aSL : PySem.W.nsIn K mainGlobals "SMALL_LETTERS" = some (some (.str "abcdefghijklmnopqrstuvwxyz" tl)))
    (aTB : PySem.W.nsIn K mainGlobals "Table" = some (some (.ref TB)))
    (pgTB : PySem.W.plainGet K TB Str.empty = true)
    (hdTB : PySem.W.hasDictIn K TB = true)
    (poTB : PySem.W.plainOver K TB = true)
    (saTB : PySem.W.findIn K (.ref TB) "__setattr__" = some (some (.builtin "object.__setattr__")))
    (mkTB : PySem.W.makesIn K TB = true)
    (kTB : PySem.W.keepIn K (.ref TB) = true)
    (nTB_alphabet : PySem.W.findIn K (.ref TB) "alphabet" = some none)
    (nTB_pairs : PySem.W.findIn K (.ref TB) "_pairs" = some none)
    (icTB : PySem.W.findIn K (.ref TB) "__class__" = some (some (.builtin "object.__class__")))
    (imTB : PySem.W.mroIn K TB (.type "object") = some true)
    (rdTB : PySem.W.readsIn K TB (.type "type") = true)
    (gaTB : PySem.W.specialIn K (.ref TB) "__getattribute__" = some (some (.builtin "type.__getattribute__")))
    (lAlEq : K.lookup fAlEq = some ⟨ocAlEq, odAlEq, .func (PySem.W.fnOf "__eq__" "Alphabet.__eq__" (defArgs sAlEq) (defBody sAlEq) (defScope sAlEq) .none kVAlEq dcAlEq pmAlEq anAlEq cdAlEq ctAlEq), slAlEq⟩)
    (cAlEq : PySem.W.codeIn K cdAlEq "Alphabet.__eq__" = true)
    (aAlEq : PySem.W.findIn K (.ref C) "__eq__" = some (some (.ref fAlEq)))
    (kAlEq : PySem.W.keepIn K (.ref fAlEq) = true)
    (iAlEq : PySem.W.isFn K (.ref fAlEq) = true)
    (lIsSign : K.lookup fIsSign = some ⟨ocIsSign, odIsSign, .func (PySem.W.fnOf "is_sign" "Alphabet.is_sign" (defArgs sIsSign) (defBody sIsSign) (defScope sIsSign) .none kVIsSign dcIsSign pmIsSign anIsSign cdIsSign ctIsSign), slIsSign⟩)
    (cIsSign : PySem.W.codeIn K cdIsSign "Alphabet.is_sign" = true)
    (aIsSign : PySem.W.findIn K (.ref C) "is_sign" = some (some (.ref fIsSign)))
    (kIsSign : PySem.W.keepIn K (.ref fIsSign) = true)
    (iIsSign : PySem.W.isFn K (.ref fIsSign) = true)
    (lTInit : K.lookup fTInit = some ⟨ocTInit, odTInit, .func (PySem.W.fnOf "__init__" "Table.__init__" (defArgs sTInit) (defBody sTInit) (defScope sTInit) .none kVTInit dcTInit pmTInit anTInit cdTInit ctTInit), slTInit⟩)
    (cTInit : PySem.W.codeIn K cdTInit "Table.__init__" = true)
    (aTInit : PySem.W.findIn K (.ref TB) "__init__" = some (some (.ref fTInit)))
    (kTInit : PySem.W.keepIn K (.ref fTInit) = true)
    (iTInit : PySem.W.isFn K (.ref fTInit) = true)
    (lTFull : K.lookup fTFull = some ⟨ocTFull, odTFull, .func (PySem.W.fnOf "full" "Table.full" (defArgs sTFull) (defBody sTFull) (defScope sTFull) .none kVTFull dcTFull pmTFull anTFull cdTFull ctTFull), slTFull⟩)
    (cTFull : PySem.W.codeIn K cdTFull "Table.full" = true)
    (kTFull : PySem.W.keepIn K (.ref fTFull) = true)
    (cmTFull : PySem.W.findCls K (.ref TB) (.type "type") "full" = some (.get (.builtin "classmethod.__get__") (.ref pTFull) .none (.ref TB)))
    (rcTFull : PySem.W.recIn K pTFull "classmethod" = some (.ref fTFull :: rsTFull))
    (fiTFull : PySem.W.fnIn K fTFull = true)
    (lTGet : K.lookup fTGet = some ⟨ocTGet, odTGet, .func (PySem.W.fnOf "__getitem__" "Table.__getitem__" (defArgs sTGet) (defBody sTGet) (defScope sTGet) .none kVTGet dcTGet pmTGet anTGet cdTGet ctTGet), slTGet⟩)
    (cTGet : PySem.W.codeIn K cdTGet "Table.__getitem__" = true)
    (aTGet : PySem.W.findIn K (.ref TB) "__getitem__" = some (some (.ref fTGet)))
    (kTGet : PySem.W.keepIn K (.ref fTGet) = true)
    (iTGet : PySem.W.isFn K (.ref fTGet) = true)
    (lTIn : K.lookup fTIn = some ⟨ocTIn, odTIn, .func (PySem.W.fnOf "__contains__" "Table.__contains__" (defArgs sTIn) (defBody sTIn) (defScope sTIn) .none kVTIn dcTIn pmTIn anTIn cdTIn ctTIn), slTIn⟩)
    (cTIn : PySem.W.codeIn K cdTIn "Table.__contains__" = true)
    (aTIn : PySem.W.findIn K (.ref TB) "__contains__" = some (some (.ref fTIn)))
    (kTIn : PySem.W.keepIn K (.ref fTIn) = true)
    (iTIn : PySem.W.isFn K (.ref fTIn) = true)
    (lTLen : K.lookup fTLen = some ⟨ocTLen, odTLen, .func (PySem.W.fnOf "__len__" "Table.__len__" (defArgs sTLen) (defBody sTLen) (defScope sTLen) .none kVTLen dcTLen pmTLen anTLen cdTLen ctTLen), slTLen⟩)
    (cTLen : PySem.W.codeIn K cdTLen "Table.__len__" = true)
    (aTLen : PySem.W.findIn K (.ref TB) "__len__" = some (some (.ref fTLen)))
    (kTLen : PySem.W.keepIn K (.ref fTLen) = true)
    (iTLen : PySem.W.isFn K (.ref fTLen) = true)
    (lTEq : K.lookup fTEq = some ⟨ocTEq, odTEq, .func (PySem.W.fnOf "__eq__" "Table.__eq__" (defArgs sTEq) (defBody sTEq) (defScope sTEq) .none kVTEq dcTEq pmTEq anTEq cdTEq ctTEq), slTEq⟩)
    (cTEq : PySem.W.codeIn K cdTEq "Table.__eq__" = true)
    (aTEq : PySem.W.findIn K (.ref TB) "__eq__" = some (some (.ref fTEq)))
    (kTEq : PySem.W.keepIn K (.ref fTEq) = true)
    (iTEq : PySem.W.isFn K (.ref fTEq) = true)
    (lTMul : K.lookup fTMul = some ⟨ocTMul, odTMul, .func (PySem.W.fnOf "__mul__" "Table.__mul__" (defArgs sTMul) (defBody sTMul) (defScope sTMul) .none kVTMul dcTMul pmTMul anTMul cdTMul ctTMul), slTMul⟩)
    (cTMul : PySem.W.codeIn K cdTMul "Table.__mul__" = true)
    (aTMul : PySem.W.findIn K (.ref TB) "__mul__" = some (some (.ref fTMul)))
    (kTMul : PySem.W.keepIn K (.ref fTMul) = true)
    (iTMul : PySem.W.isFn K (.ref fTMul) = true)
    (lTInv : K.lookup fTInv = some ⟨ocTInv, odTInv, .func (PySem.W.fnOf "__invert__" "Table.__invert__" (defArgs sTInv) (defBody sTInv) (defScope sTInv) .none kVTInv dcTInv pmTInv anTInv cdTInv ctTInv), slTInv⟩)
    (cTInv : PySem.W.codeIn K cdTInv "Table.__invert__" = true)
    (aTInv : PySem.W.findIn K (.ref TB) "__invert__" = some (some (.ref fTInv)))
    (kTInv : PySem.W.keepIn K (.ref fTInv) = true)
    (iTInv : PySem.W.isFn K (.ref fTInv) = true)
    (lTPairs : K.lookup fTPairs = some ⟨ocTPairs, odTPairs, .func (PySem.W.fnOf "pairs" "Table.pairs" (defArgs sTPairs) (defBody sTPairs) (defScope sTPairs) .none kVTPairs dcTPairs pmTPairs anTPairs cdTPairs ctTPairs), slTPairs⟩)
    (cTPairs : PySem.W.codeIn K cdTPairs "Table.pairs" = true)
    (aTPairs : PySem.W.findIn K (.ref TB) "pairs" = some (some (.ref fTPairs)))
    (kTPairs : PySem.W.keepIn K (.ref fTPairs) = true)
    (iTPairs : PySem.W.isFn K (.ref fTPairs) = true)
    (sfTB : PySem.W.selfFirst K TB = true)
    (fnTGet : PySem.W.fnIn K fTGet = true)
    (neC : PySem.W.findIn K (.ref C) "__ne__" = some (some (.builtin "object.__ne__")))
    (eqC : PySem.W.notFirst K C (.ref C) = true)
    (eqTB : PySem.W.notFirst K TB (.ref TB) = true)
    (lA : K.lookup fA = some ⟨ocA, odA, .func (PySem.W.fnOf "__init__" "Alphabet.__init__" (defArgs sAI) (defBody sAI) (defScope sAI) (.ref TDA) kVA dcA pmA anA cdA ctA), slA⟩)
    (cA : PySem.W.codeIn K cdA "Alphabet.__init__" = true)
    (aA : PySem.W.findIn K (.ref C) "__init__" = some (some (.ref fA)))
    (lDA : K.lookup TDA = some ⟨ocDA, odDA, .seq [Value.str "" tDA].toArray nDA, slDA⟩)
    (kA : PySem.W.keepIn K (.ref fA) = true)
    (iA : PySem.W.isFn K (.ref fA) = true)
    (xTE : K.lookup TE = some (excClassObj nmTE qTE TE NTE bsTE [.type "ValueError", .type "Exception", .type "BaseException", .type "object"] true snTE subTE abTE colTE ddTE m0TE m1TE m2TE m3TE m5TE "ValueError.__new__"))
    (aTE : PySem.W.nsIn K mainGlobals "TaleError" = some (some (.ref TE)))
    (eTE : PySem.W.subIn K (.ref TE) (.type "BaseException") = some true)
    (tTE : PySem.W.typeIn K (.ref TE) = some (.type "type"))
    (hTE : PySem.W.hasDictIn K TE = true)
    (iTE : PySem.W.findIn K (.ref TE) "__init__" = some (some (.builtin "ValueError.__init__")))
    (noT : (l.prog.main.scope.names.lookup ("super" : Str)).isSome = false)
    (noM : PySem.W.nsIn K mainGlobals "super" = some none)
    (anyS : PySem.W.nsIn K cStatics "thirdparty.any" = some none)
    (xBA : K.lookup BA = some (excClassObj nmBA qBA BA NBA bsBA [.ref TE, .type "ValueError", .type "Exception", .type "BaseException", .type "object"] true snBA subBA abBA colBA ddBA m0BA m1BA m2BA m3BA m5BA "ValueError.__new__"))
    (aBA : PySem.W.nsIn K mainGlobals "BadAlphabet" = some (some (.ref BA)))
    (eBA : PySem.W.subIn K (.ref BA) (.type "BaseException") = some true)
    (tBA : PySem.W.typeIn K (.ref BA) = some (.type "type"))
    (hBA : PySem.W.hasDictIn K BA = true)
    (nBA_part : PySem.W.findIn K (.ref BA) "part" = some none)
    (saBA : PySem.W.findIn K (.ref BA) "__setattr__" = some (some (.builtin "object.__setattr__")))
    (gaBA : PySem.W.findIn K (.ref BA) "__getattribute__" = some (some (.builtin "BaseException.__getattribute__")))
    (ggBA : PySem.W.findIn K (.ref BA) "__getattr__" = some none)
    (aFBA : PySem.W.findIn K (.ref BA) "__init__" = some (some (.ref fBA)))
    (tFBA : PySem.W.typeIn K (.ref fBA) = some (.type "function"))
    (lBA : K.lookup fBA = some ⟨ocBA, odBA, .func (PySem.W.ksFn "__init__" "BadAlphabet.__init__" (defArgs sBA) (defBody sBA) (defScope sBA) .none kVBA dcBA pmBA anBA (.ref cdaBA) ctBA ccBA), slBA⟩)
    (cBA : PySem.W.codeIn K (.ref cdaBA) "BadAlphabet.__init__" = true)
    (kBA : PySem.W.keepIn K (.ref BA) = true)
    (lccBA : K.lookup ccBA = some ⟨clccBA, ddccBA, .cell (some (.ref BA)), slccBA⟩)
    (lcdBA : K.lookup cdaBA = some ⟨clcdBA, ddcdBA, .fields vsCBA, slcdBA⟩)
    (hvBA : vsCBA[2]? = some (.str flBA tfBA))
    (hflBA : ((l.prog.main.file : Str) == flBA) = true)
    (mmBA : PySem.W.mroIn K BA (.ref BA) = some true)
    (vBA : PySem.W.subIn K (.ref BA) (.type "ValueError") = some true)
    (xBP : K.lookup BP = some (excClassObj nmBP qBP BP NBP bsBP [.ref TE, .type "ValueError", .type "Exception", .type "BaseException", .type "object"] true snBP subBP abBP colBP ddBP m0BP m1BP m2BP m3BP m5BP "ValueError.__new__"))
    (aBP : PySem.W.nsIn K mainGlobals "BadPair" = some (some (.ref BP)))
    (eBP : PySem.W.subIn K (.ref BP) (.type "BaseException") = some true)
    (tBP : PySem.W.typeIn K (.ref BP) = some (.type "type"))
    (hBP : PySem.W.hasDictIn K BP = true)
    (nBP_index : PySem.W.findIn K (.ref BP) "index" = some none)
    (saBP : PySem.W.findIn K (.ref BP) "__setattr__" = some (some (.builtin "object.__setattr__")))
    (gaBP : PySem.W.findIn K (.ref BP) "__getattribute__" = some (some (.builtin "BaseException.__getattribute__")))
    (ggBP : PySem.W.findIn K (.ref BP) "__getattr__" = some none)
    (aFBP : PySem.W.findIn K (.ref BP) "__init__" = some (some (.ref fBP)))
    (tFBP : PySem.W.typeIn K (.ref fBP) = some (.type "function"))
    (lBP : K.lookup fBP = some ⟨ocBP, odBP, .func (PySem.W.ksFn "__init__" "BadPair.__init__" (defArgs sBadPair) (defBody sBadPair) (defScope sBadPair) .none kVBP dcBP pmBP anBP (.ref cdaBP) ctBP ccBP), slBP⟩)
    (cBP : PySem.W.codeIn K (.ref cdaBP) "BadPair.__init__" = true)
    (kBP : PySem.W.keepIn K (.ref BP) = true)
    (lccBP : K.lookup ccBP = some ⟨clccBP, ddccBP, .cell (some (.ref BP)), slccBP⟩)
    (lcdBP : K.lookup cdaBP = some ⟨clcdBP, ddcdBP, .fields vsCBP, slcdBP⟩)
    (hvBP : vsCBP[2]? = some (.str flBP tfBP))
    (hflBP : ((l.prog.main.file : Str) == flBP) = true)
    (mmBP : PySem.W.mroIn K BP (.ref BP) = some true)
    (vBP : PySem.W.subIn K (.ref BP) (.type "ValueError") = some true)
    (xUS : K.lookup US = some (excClassObj nmUS qUS US NUS bsUS [.ref TE, .type "ValueError", .type "Exception", .type "BaseException", .type "object"] true snUS subUS abUS colUS ddUS m0US m1US m2US m3US m5US "ValueError.__new__"))
    (aUS : PySem.W.nsIn K mainGlobals "UnknownSign" = some (some (.ref US)))
    (eUS : PySem.W.subIn K (.ref US) (.type "BaseException") = some true)
    (tUS : PySem.W.typeIn K (.ref US) = some (.type "type"))
    (hUS : PySem.W.hasDictIn K US = true)
    (nUS_sign : PySem.W.findIn K (.ref US) "sign" = some none)
    (saUS : PySem.W.findIn K (.ref US) "__setattr__" = some (some (.builtin "object.__setattr__")))
    (gaUS : PySem.W.findIn K (.ref US) "__getattribute__" = some (some (.builtin "BaseException.__getattribute__")))
    (ggUS : PySem.W.findIn K (.ref US) "__getattr__" = some none)
    (aFUS : PySem.W.findIn K (.ref US) "__init__" = some (some (.ref fUS)))
    (tFUS : PySem.W.typeIn K (.ref fUS) = some (.type "function"))
    (lUS : K.lookup fUS = some ⟨ocUS, odUS, .func (PySem.W.ksFn "__init__" "UnknownSign.__init__" (defArgs sUnk) (defBody sUnk) (defScope sUnk) .none kVUS dcUS pmUS anUS (.ref cdaUS) ctUS ccUS), slUS⟩)
    (cUS : PySem.W.codeIn K (.ref cdaUS) "UnknownSign.__init__" = true)
    (kUS : PySem.W.keepIn K (.ref US) = true)
    (lccUS : K.lookup ccUS = some ⟨clccUS, ddccUS, .cell (some (.ref US)), slccUS⟩)
    (lcdUS : K.lookup cdaUS = some ⟨clcdUS, ddcdUS, .fields vsCUS, slcdUS⟩)
    (hvUS : vsCUS[2]? = some (.str flUS tfUS))
    (hflUS : ((l.prog.main.file : Str) == flUS) = true)
    (mmUS : PySem.W.mroIn K US (.ref US) = some true)
    (vUS : PySem.W.subIn K (.ref US) (.type "ValueError") = some true)
    (xMX : K.lookup MX = some (excClassObj nmMX qMX MX NMX bsMX [.ref TE, .type "ValueError", .type "Exception", .type "BaseException", .type "object"] true snMX subMX abMX colMX ddMX m0MX m1MX m2MX m3MX m5MX "ValueError.__new__"))
    (aMX : PySem.W.nsIn K mainGlobals "Mixed" = some (some (.ref MX)))
    (eMX : PySem.W.subIn K (.ref MX) (.type "BaseException") = some true)
    (tMX : PySem.W.typeIn K (.ref MX) = some (.type "type"))
    (hMX : PySem.W.hasDictIn K MX = true)
    (kMX : PySem.W.keepIn K (.ref MX) = true)
    (gaMX : PySem.W.findIn K (.ref MX) "__getattribute__" = some (some (.builtin "BaseException.__getattribute__")))
    (ggMX : PySem.W.findIn K (.ref MX) "__getattr__" = some none)
    (vMX : PySem.W.subIn K (.ref MX) (.type "ValueError") = some true)
    (XCMX : PySem.W.excIn K MX [.type "ValueError", .type "Exception", .type "BaseException", .type "object"] "ValueError.__new__" = true)
    (sTE_TE : PySem.W.subIn K (.ref TE) (.ref TE) = some true)
    (clTE : PySem.W.isClsIn K TE = true)
    (sMX_MX : PySem.W.subIn K (.ref MX) (.ref MX) = some true)
    (sMX_TE : PySem.W.subIn K (.ref MX) (.ref TE) = some true)
    (sUS_US : PySem.W.subIn K (.ref US) (.ref US) = some true)
    (clMX : PySem.W.isClsIn K MX = true)
    (clUS : PySem.W.isClsIn K US = true)
    (icMX : PySem.W.findIn K (.ref MX) "__class__" = some (some (.builtin "object.__class__")))
    (imMX : PySem.W.mroIn K MX (.type "object") = some true) :
    ∃ fd : FuncData, (∀ (s : Shared) (v : Value), BindsTo s fd ⟨[v], []⟩ [("_law_script", v)]) ∧ ∀ base : Heap, K.In base → base.Ns mainGlobals mg → FnOk l.prog w K mg base CX0 12 fa fd ["_law_script"] (spLaw K) := by
  have e := hfa.symm.trans (PySem.W.mg_of X G aLaw)
  cases e
  have gm : ∀ {n : Str} {v : Value}, PySem.W.nsIn K mainGlobals n = some (some v) → mg n = some v := fun e => PySem.W.mg_of X G e
  have gn : ∀ {n : Str}, PySem.W.nsIn K mainGlobals n = some none → mg n = none := fun e => PySem.W.mg_none_of X G e
  have FDiff := fun_mk (st := sDiff) lDiff cDiff kDiff
  have bDiff := FDiff.binds (ps := ["text", "allowed"]) fun _ _ _ _ _ _ us hl => match us, hl with | [_, _], _ => rfl
  have FPCheckAlphabets := fun_mk (st := sPCheckAlphabets) lPCheckAlphabets cPCheckAlphabets kPCheckAlphabets
  have bPCheckAlphabets := FPCheckAlphabets.binds (ps := ["things"]) fun _ _ _ _ _ _ us hl => match us, hl with | [_], _ => rfl
  have FPCheckShared := fun_mk (st := sPCheckShared) lPCheckShared cPCheckShared kPCheckShared
  have bPCheckShared := FPCheckShared.binds (ps := ["alphabet", "things"]) fun _ _ _ _ _ _ us hl => match us, hl with | [_, _], _ => rfl
  have FGB := fun_mk (st := sGB) lGB cGB kGB
  have bGB := FGB.binds (ps := ["first", "whole"]) fun _ _ _ _ _ _ us hl => match us, hl with | [_, _], _ => rfl
  have FGA := fun_mk (st := sGA) lGA cGA kGA
  have bGA := FGA.binds (ps := ["last", "whole"]) fun _ _ _ _ _ _ us hl => match us, hl with | [_, _], _ => rfl
  have FFU := fun_mk (st := sFU) lFU cFU kFU
  have bFU := FFU.binds (ps := ["first", "whole"]) fun _ _ _ _ _ _ us hl => match us, hl with | [_, _], _ => rfl
  have FEA := fun_mk (st := sEA) lEA cEA kEA
  have bEA := FEA.binds (ps := ["last", "whole"]) fun _ _ _ _ _ _ us hl => match us, hl with | [_, _], _ => rfl
  have FBag := fun_mk (st := sBag) lBag cBag kBag
  have bBag := FBag.binds (ps := ["_law_script"]) fun _ _ _ _ _ _ us hl => match us, hl with | [_], _ => rfl
  have FTake := fun_mk (st := sTake) lTake cTake kTake
  have bTake := FTake.binds (ps := ["_law_bag_here", "_law_size"]) fun _ _ _ _ _ _ us hl => match us, hl with | [_, _], _ => rfl
  have FNames := fun_mk (st := sNames) lNames cNames kNames
  have bNames := FNames.binds (ps := ["_law_bag_here", "_law_count"]) fun _ _ _ _ _ _ us hl => match us, hl with | [_, _], _ => rfl
  have FSigns := fun_mk (st := sSigns) lSigns cSigns kSigns
  have bSigns := FSigns.binds (ps := ["_law_letters"]) fun _ _ _ _ _ _ us hl => match us, hl with | [_], _ => rfl
  have FPairs := fun_mk (st := sPairs) lPairs cPairs kPairs
  have bPairs := FPairs.binds (ps := ["_law_bag_here", "_law_signs_here", "_law_count"]) fun _ _ _ _ _ _ us hl => match us, hl with | [_, _, _], _ => rfl
  have FOuts := fun_mk (st := sOuts) lOuts cOuts kOuts
  have bOuts := FOuts.binds (ps := ["_law_signs_here", "_law_pairs_here"]) fun _ _ _ _ _ _ us hl => match us, hl with | [_, _], _ => rfl
  have FProduct := fun_mk (st := sProduct) lProduct cProduct kProduct
  have bProduct := FProduct.binds (ps := ["_law_signs_here", "_law_one", "_law_other_here"]) fun _ _ _ _ _ _ us hl => match us, hl with | [_, _, _], _ => rfl
  have FOther := fun_mk (st := sOther) lOther cOther kOther
  have bOther := FOther.binds (ps := ["_law_bag_here", "_law_names_here"]) fun _ _ _ _ _ _ us hl => match us, hl with | [_, _], _ => rfl
  have FIs := fun_mk (st := sIs) lIs cIs kIs
  have bIs := FIs.binds (ps := ["_law_table_here", "_law_alphabet", "_law_signs_here", "_law_outs_here"]) fun _ _ _ _ _ _ us hl => match us, hl with | [_, _, _, _], _ => rfl
  have FTold := fun_mk (st := sTold) lTold cTold kTold
  have bTold := FTold.binds (ps := ["_law_table_here", "_law_alphabet", "_law_signs_here"]) fun _ _ _ _ _ _ us hl => match us, hl with | [_, _, _], _ => rfl
  have FGreatest := fun_mk (st := sGreatest) lGreatest cGreatest kGreatest
  have bGreatest := FGreatest.binds (ps := ["_law_fixed", "_law_whole_here", "_law_side_here"]) fun _ _ _ _ _ _ us hl => match us, hl with | [_, _, _], _ => rfl
  have FFactor := fun_mk (st := sFactor) lFactor cFactor kFactor
  have bFactor := FFactor.binds (ps := ["_law_fixed", "_law_whole_here", "_law_side_here"]) fun _ _ _ _ _ _ us hl => match us, hl with | [_, _, _], _ => rfl
  have FJoin := fun_mk (st := sJoin) lJoin cJoin kJoin
  have bJoin := FJoin.binds (ps := ["_law_signs_here", "_law_fixed", "_law_outs_here", "_law_side_here"]) fun _ _ _ _ _ _ us hl => match us, hl with | [_, _, _, _], _ => rfl
  have FInside := fun_mk (st := sInside) lInside cInside kInside
  have bInside := FInside.binds (ps := ["_law_one", "_law_other_here"]) fun _ _ _ _ _ _ us hl => match us, hl with | [_, _], _ => rfl
  have FSingle := fun_mk (st := sSingle) lSingle cSingle kSingle
  have bSingle := FSingle.binds (ps := ["_law_signs_here", "_law_told_here", "_law_out"]) fun _ _ _ _ _ _ us hl => match us, hl with | [_, _, _], _ => rfl
  have FFlipped := fun_mk (st := sFlipped) lFlipped cFlipped kFlipped
  have bFlipped := FFlipped.binds (ps := ["_law_signs_here", "_law_outs_here", "_law_told_here", "_law_out"]) fun _ _ _ _ _ _ us hl => match us, hl with | [_, _, _, _], _ => rfl
  have FWhole := fun_mk (st := sWhole) lWhole cWhole kWhole
  have bWhole := FWhole.binds (ps := ["_law_bag_here", "_law_signs_here", "_law_fixed", "_law_outs_here", "_law_way", "_law_side_here"]) fun _ _ _ _ _ _ us hl => match us, hl with | [_, _, _, _, _, _], _ => rfl
  have FTable := fun_mk (st := sTable) lTable cTable kTable
  have bTable := FTable.binds (ps := ["_law_alphabet", "_law_signs_here", "_law_outs_here"]) fun _ _ _ _ _ _ us hl => match us, hl with | [_, _, _], _ => rfl
  have FSome := fun_mk (st := sSome) lSome cSome kSome
  have bSome := FSome.binds (ps := ["_law_signs_here", "_law_fixed", "_law_whole_here", "_law_side_here"]) fun _ _ _ _ _ _ us hl => match us, hl with | [_, _, _, _], _ => rfl
  have FSide := fun_mk (st := sSide) lSide cSide kSide
  have bSide := FSide.binds (ps := ["_law_alphabet", "_law_signs_here", "_law_fixed", "_law_whole_here", "_law_side_here", "_law_sure"]) fun _ _ _ _ _ _ us hl => match us, hl with | [_, _, _, _, _, _], _ => rfl
  have FMixed := fun_mk (st := sMixed) lMixed cMixed kMixed
  have bMixed := FMixed.binds (ps := ["_law_one", "_law_other_here", "_law_side_here", "_law_factor_here"]) fun _ _ _ _ _ _ us hl => match us, hl with | [_, _, _, _], _ => rfl
  have FLaw := fun_mk (st := sLaw) lLaw cLaw kLaw
  have bLaw := FLaw.binds (ps := ["_law_script"]) fun _ _ _ _ _ _ us hl => match us, hl with | [_], _ => rfl
  have FAlEq := fun_mk (st := sAlEq) lAlEq cAlEq kAlEq
  have bAlEq := FAlEq.binds (ps := ["self", "other"]) fun _ _ _ _ _ _ us hl => match us, hl with | [_, _], _ => rfl
  have FIsSign := fun_mk (st := sIsSign) lIsSign cIsSign kIsSign
  have bIsSign := FIsSign.binds (ps := ["self", "text"]) fun _ _ _ _ _ _ us hl => match us, hl with | [_, _], _ => rfl
  have FTInit := fun_mk (st := sTInit) lTInit cTInit kTInit
  have bTInit := FTInit.binds (ps := ["self", "alphabet", "pairs"]) fun _ _ _ _ _ _ us hl => match us, hl with | [_, _, _], _ => rfl
  have FTFull := fun_mk (st := sTFull) lTFull cTFull kTFull
  have bTFull := FTFull.binds (ps := ["cls", "alphabet"]) fun _ _ _ _ _ _ us hl => match us, hl with | [_, _], _ => rfl
  have FTGet := fun_mk (st := sTGet) lTGet cTGet kTGet
  have bTGet := FTGet.binds (ps := ["self", "sign"]) fun _ _ _ _ _ _ us hl => match us, hl with | [_, _], _ => rfl
  have FTIn := fun_mk (st := sTIn) lTIn cTIn kTIn
  have bTIn := FTIn.binds (ps := ["self", "pair"]) fun _ _ _ _ _ _ us hl => match us, hl with | [_, _], _ => rfl
  have FTLen := fun_mk (st := sTLen) lTLen cTLen kTLen
  have bTLen := FTLen.binds (ps := ["self"]) fun _ _ _ _ _ _ us hl => match us, hl with | [_], _ => rfl
  have FTEq := fun_mk (st := sTEq) lTEq cTEq kTEq
  have bTEq := FTEq.binds (ps := ["self", "other"]) fun _ _ _ _ _ _ us hl => match us, hl with | [_, _], _ => rfl
  have FTMul := fun_mk (st := sTMul) lTMul cTMul kTMul
  have bTMul := FTMul.binds (ps := ["self", "other"]) fun _ _ _ _ _ _ us hl => match us, hl with | [_, _], _ => rfl
  have FTInv := fun_mk (st := sTInv) lTInv cTInv kTInv
  have bTInv := FTInv.binds (ps := ["self"]) fun _ _ _ _ _ _ us hl => match us, hl with | [_], _ => rfl
  have FTPairs := fun_mk (st := sTPairs) lTPairs cTPairs kTPairs
  have bTPairs := FTPairs.binds (ps := ["self"]) fun _ _ _ _ _ _ us hl => match us, hl with | [_], _ => rfl
  have FA : FunD K "__init__" "Alphabet.__init__" (defArgs sAI) (defBody sAI) (defScope sAI) [.str ""] [] fA (PySem.W.fnOf "__init__" "Alphabet.__init__" (defArgs sAI) (defBody sAI) (defScope sAI) (.ref TDA) kVA dcA pmA anA cdA ctA) :=
    ⟨⟨_, _, _, _, _, _, _, _, _, _, rfl, lA, cA, .inr ⟨by simp, TDA, _, [Value.str "" tDA], nDA, rfl, lDA, rfl, .cons ⟨_, rfl⟩ .nil⟩, .inl rfl⟩, kA⟩
  obtain ⟨d0A, v0A, bA⟩ := FA.binds1 (ps := ["self", "letters", "vowels"]) 3 1 (by simp) rfl fun T kV doc pm an cdv ct us its h1 h2 => match us, its, h1, h2 with | [_, _, _], [_], _, _ => ⟨_, rfl, rfl⟩
  have ed0A : d0A = [] := by
    cases v0A
    rfl
  subst ed0A
  have OXBA : OexC K BA := ⟨⟨_, _, _, _, _, _, _, _, _, _, _, _, _, _, _, xBA, rfl⟩, saBA, eBA, tBA, kBA⟩
  have supBA : PySem.W.ks_superIn K BA BA "__init__" = some (some (.builtin "ValueError.__init__")) := by
    have hcl : PySem.W.clsIn K BA = some { name := nmBA, bases := bsBA, mro := .ref BA :: [.ref TE, .type "ValueError", .type "Exception", .type "BaseException", .type "object"], ns := NBA, qualname := qBA, hasDict := true, slotNames := snBA, subclasses := subBA, abstract := abBA, collection := colBA, hasDel := false } := by
      unfold PySem.W.clsIn
      rw [xBA] <;> rfl
    unfold PySem.W.ks_superIn
    rw [hcl]
    have e1 : PySem.W.findIn K (.ref TE) "__init__" = PySem.W.alongIn K "__init__" [.ref TE, .type "ValueError", .type "Exception", .type "BaseException", .type "object"] := by
      unfold PySem.W.findIn
      simp only [xTE]
    rw [← iTE, e1]
    show PySem.W.alongIn K "__init__" (((Value.ref BA :: [.ref TE, .type "ValueError", .type "Exception", .type "BaseException", .type "object"]).dropWhile (· != .ref BA)).drop 1) = _
    have hb : (Value.ref BA != .ref BA) = false := by simp
    rw [List.dropWhile_cons, hb]
    rfl
  have SCBA : SupC l.prog K mg BA ccBA cdaBA := ⟨OXBA, ⟨_, _, _, lccBA⟩, ⟨_, _, _, _, _, _, lcdBA, hvBA, hflBA⟩, mmBA, supBA, vBA, noT, gn noM, anyS⟩
  have bBA : Binds K (PySem.W.ksFn "__init__" "BadAlphabet.__init__" (defArgs sBA) (defBody sBA) (defScope sBA) .none kVBA dcBA pmBA anBA (.ref cdaBA) ctBA ccBA) ["self", "part"] [] := Binds.all fun us hl => match us, hl with | [_, _], _ => rfl
  have OXBP : OexC K BP := ⟨⟨_, _, _, _, _, _, _, _, _, _, _, _, _, _, _, xBP, rfl⟩, saBP, eBP, tBP, kBP⟩
  have supBP : PySem.W.ks_superIn K BP BP "__init__" = some (some (.builtin "ValueError.__init__")) := by
    have hcl : PySem.W.clsIn K BP = some { name := nmBP, bases := bsBP, mro := .ref BP :: [.ref TE, .type "ValueError", .type "Exception", .type "BaseException", .type "object"], ns := NBP, qualname := qBP, hasDict := true, slotNames := snBP, subclasses := subBP, abstract := abBP, collection := colBP, hasDel := false } := by
      unfold PySem.W.clsIn
      rw [xBP] <;> rfl
    unfold PySem.W.ks_superIn
    rw [hcl]
    have e1 : PySem.W.findIn K (.ref TE) "__init__" = PySem.W.alongIn K "__init__" [.ref TE, .type "ValueError", .type "Exception", .type "BaseException", .type "object"] := by
      unfold PySem.W.findIn
      simp only [xTE]
    rw [← iTE, e1]
    show PySem.W.alongIn K "__init__" (((Value.ref BP :: [.ref TE, .type "ValueError", .type "Exception", .type "BaseException", .type "object"]).dropWhile (· != .ref BP)).drop 1) = _
    have hb : (Value.ref BP != .ref BP) = false := by simp
    rw [List.dropWhile_cons, hb]
    rfl
  have SCBP : SupC l.prog K mg BP ccBP cdaBP := ⟨OXBP, ⟨_, _, _, lccBP⟩, ⟨_, _, _, _, _, _, lcdBP, hvBP, hflBP⟩, mmBP, supBP, vBP, noT, gn noM, anyS⟩
  have bBP : Binds K (PySem.W.ksFn "__init__" "BadPair.__init__" (defArgs sBadPair) (defBody sBadPair) (defScope sBadPair) .none kVBP dcBP pmBP anBP (.ref cdaBP) ctBP ccBP) ["self", "index"] [] := Binds.all fun us hl => match us, hl with | [_, _], _ => rfl
  have OXUS : OexC K US := ⟨⟨_, _, _, _, _, _, _, _, _, _, _, _, _, _, _, xUS, rfl⟩, saUS, eUS, tUS, kUS⟩
  have supUS : PySem.W.ks_superIn K US US "__init__" = some (some (.builtin "ValueError.__init__")) := by
    have hcl : PySem.W.clsIn K US = some { name := nmUS, bases := bsUS, mro := .ref US :: [.ref TE, .type "ValueError", .type "Exception", .type "BaseException", .type "object"], ns := NUS, qualname := qUS, hasDict := true, slotNames := snUS, subclasses := subUS, abstract := abUS, collection := colUS, hasDel := false } := by
      unfold PySem.W.clsIn
      rw [xUS] <;> rfl
    unfold PySem.W.ks_superIn
    rw [hcl]
    have e1 : PySem.W.findIn K (.ref TE) "__init__" = PySem.W.alongIn K "__init__" [.ref TE, .type "ValueError", .type "Exception", .type "BaseException", .type "object"] := by
      unfold PySem.W.findIn
      simp only [xTE]
    rw [← iTE, e1]
    show PySem.W.alongIn K "__init__" (((Value.ref US :: [.ref TE, .type "ValueError", .type "Exception", .type "BaseException", .type "object"]).dropWhile (· != .ref US)).drop 1) = _
    have hb : (Value.ref US != .ref US) = false := by simp
    rw [List.dropWhile_cons, hb]
    rfl
  have SCUS : SupC l.prog K mg US ccUS cdaUS := ⟨OXUS, ⟨_, _, _, lccUS⟩, ⟨_, _, _, _, _, _, lcdUS, hvUS, hflUS⟩, mmUS, supUS, vUS, noT, gn noM, anyS⟩
  have bUS : Binds K (PySem.W.ksFn "__init__" "UnknownSign.__init__" (defArgs sUnk) (defBody sUnk) (defScope sUnk) .none kVUS dcUS pmUS anUS (.ref cdaUS) ctUS ccUS) ["self", "sign"] [] := Binds.all fun us hl => match us, hl with | [_, _], _ => rfl
  have EBP : EF K mg "BadPair" BP fBP (PySem.W.ksFn "__init__" "BadPair.__init__" (defArgs sBadPair) (defBody sBadPair) (defScope sBadPair) .none kVBP dcBP pmBP anBP (.ref cdaBP) ctBP ccBP) ["self", "index"] := ⟨OXBP, aFBP, tFBP, gm aBP, bBP⟩
  have EUS : EF K mg "UnknownSign" US fUS (PySem.W.ksFn "__init__" "UnknownSign.__init__" (defArgs sUnk) (defBody sUnk) (defScope sUnk) .none kVUS dcUS pmUS anUS (.ref cdaUS) ctUS ccUS) ["self", "sign"] := ⟨OXUS, aFUS, tFUS, gm aUS, bUS⟩
  have T : Fns K mg ⟨fDiff, fAlEq, fIsSign, fPCheckAlphabets, fPCheckShared, fTInit, fTFull, fTGet, fTIn, fTLen, fTEq, fTMul, fTInv, fTPairs, fGB, fGA, fFU, fEA, fBag, fTake, fNames, fSigns, fPairs, fOuts, fProduct, fOther, fIs, fTold, fGreatest, fFactor, fJoin, fInside, fSingle, fFlipped, fWhole, fTable, fSome, fSide, fMixed, fa, C, TB, pTFull, TE, MX, US, BP, fBP, fUS, tj2⟩
      ⟨(PySem.W.fnOf "differ_within" "differ_within" (defArgs sDiff) (defBody sDiff) (defScope sDiff) .none kVDiff dcDiff pmDiff anDiff cdDiff ctDiff), (PySem.W.fnOf "__eq__" "Alphabet.__eq__" (defArgs sAlEq) (defBody sAlEq) (defScope sAlEq) .none kVAlEq dcAlEq pmAlEq anAlEq cdAlEq ctAlEq), (PySem.W.fnOf "is_sign" "Alphabet.is_sign" (defArgs sIsSign) (defBody sIsSign) (defScope sIsSign) .none kVIsSign dcIsSign pmIsSign anIsSign cdIsSign ctIsSign), (PySem.W.fnOf "check_alphabets" "check_alphabets" (defArgs sPCheckAlphabets) (defBody sPCheckAlphabets) (defScope sPCheckAlphabets) .none kVPCheckAlphabets dcPCheckAlphabets pmPCheckAlphabets anPCheckAlphabets cdPCheckAlphabets ctPCheckAlphabets), (PySem.W.fnOf "check_shared" "check_shared" (defArgs sPCheckShared) (defBody sPCheckShared) (defScope sPCheckShared) .none kVPCheckShared dcPCheckShared pmPCheckShared anPCheckShared cdPCheckShared ctPCheckShared), (PySem.W.fnOf "__init__" "Table.__init__" (defArgs sTInit) (defBody sTInit) (defScope sTInit) .none kVTInit dcTInit pmTInit anTInit cdTInit ctTInit), (PySem.W.fnOf "full" "Table.full" (defArgs sTFull) (defBody sTFull) (defScope sTFull) .none kVTFull dcTFull pmTFull anTFull cdTFull ctTFull), (PySem.W.fnOf "__getitem__" "Table.__getitem__" (defArgs sTGet) (defBody sTGet) (defScope sTGet) .none kVTGet dcTGet pmTGet anTGet cdTGet ctTGet), (PySem.W.fnOf "__contains__" "Table.__contains__" (defArgs sTIn) (defBody sTIn) (defScope sTIn) .none kVTIn dcTIn pmTIn anTIn cdTIn ctTIn), (PySem.W.fnOf "__len__" "Table.__len__" (defArgs sTLen) (defBody sTLen) (defScope sTLen) .none kVTLen dcTLen pmTLen anTLen cdTLen ctTLen), (PySem.W.fnOf "__eq__" "Table.__eq__" (defArgs sTEq) (defBody sTEq) (defScope sTEq) .none kVTEq dcTEq pmTEq anTEq cdTEq ctTEq), (PySem.W.fnOf "__mul__" "Table.__mul__" (defArgs sTMul) (defBody sTMul) (defScope sTMul) .none kVTMul dcTMul pmTMul anTMul cdTMul ctTMul), (PySem.W.fnOf "__invert__" "Table.__invert__" (defArgs sTInv) (defBody sTInv) (defScope sTInv) .none kVTInv dcTInv pmTInv anTInv cdTInv ctTInv), (PySem.W.fnOf "pairs" "Table.pairs" (defArgs sTPairs) (defBody sTPairs) (defScope sTPairs) .none kVTPairs dcTPairs pmTPairs anTPairs cdTPairs ctTPairs), (PySem.W.fnOf "greatest_behind" "greatest_behind" (defArgs sGB) (defBody sGB) (defScope sGB) .none kVGB dcGB pmGB anGB cdGB ctGB), (PySem.W.fnOf "greatest_ahead" "greatest_ahead" (defArgs sGA) (defBody sGA) (defScope sGA) .none kVGA dcGA pmGA anGA cdGA ctGA), (PySem.W.fnOf "further" "further" (defArgs sFU) (defBody sFU) (defScope sFU) .none kVFU dcFU pmFU anFU cdFU ctFU), (PySem.W.fnOf "earlier" "earlier" (defArgs sEA) (defBody sEA) (defScope sEA) .none kVEA dcEA pmEA anEA cdEA ctEA), (PySem.W.fnOf "_law_bag" "_law_bag" (defArgs sBag) (defBody sBag) (defScope sBag) .none kVBag dcBag pmBag anBag cdBag ctBag), (PySem.W.fnOf "_law_take" "_law_take" (defArgs sTake) (defBody sTake) (defScope sTake) .none kVTake dcTake pmTake anTake cdTake ctTake), (PySem.W.fnOf "_law_names" "_law_names" (defArgs sNames) (defBody sNames) (defScope sNames) .none kVNames dcNames pmNames anNames cdNames ctNames), (PySem.W.fnOf "_law_signs" "_law_signs" (defArgs sSigns) (defBody sSigns) (defScope sSigns) .none kVSigns dcSigns pmSigns anSigns cdSigns ctSigns), (PySem.W.fnOf "_law_pairs" "_law_pairs" (defArgs sPairs) (defBody sPairs) (defScope sPairs) .none kVPairs dcPairs pmPairs anPairs cdPairs ctPairs), (PySem.W.fnOf "_law_outs" "_law_outs" (defArgs sOuts) (defBody sOuts) (defScope sOuts) .none kVOuts dcOuts pmOuts anOuts cdOuts ctOuts), (PySem.W.fnOf "_law_product" "_law_product" (defArgs sProduct) (defBody sProduct) (defScope sProduct) .none kVProduct dcProduct pmProduct anProduct cdProduct ctProduct), (PySem.W.fnOf "_law_other" "_law_other" (defArgs sOther) (defBody sOther) (defScope sOther) .none kVOther dcOther pmOther anOther cdOther ctOther), (PySem.W.fnOf "_law_is" "_law_is" (defArgs sIs) (defBody sIs) (defScope sIs) .none kVIs dcIs pmIs anIs cdIs ctIs), (PySem.W.fnOf "_law_told" "_law_told" (defArgs sTold) (defBody sTold) (defScope sTold) .none kVTold dcTold pmTold anTold cdTold ctTold), (PySem.W.fnOf "_law_greatest" "_law_greatest" (defArgs sGreatest) (defBody sGreatest) (defScope sGreatest) .none kVGreatest dcGreatest pmGreatest anGreatest cdGreatest ctGreatest), (PySem.W.fnOf "_law_factor" "_law_factor" (defArgs sFactor) (defBody sFactor) (defScope sFactor) .none kVFactor dcFactor pmFactor anFactor cdFactor ctFactor), (PySem.W.fnOf "_law_join" "_law_join" (defArgs sJoin) (defBody sJoin) (defScope sJoin) .none kVJoin dcJoin pmJoin anJoin cdJoin ctJoin), (PySem.W.fnOf "_law_inside" "_law_inside" (defArgs sInside) (defBody sInside) (defScope sInside) .none kVInside dcInside pmInside anInside cdInside ctInside), (PySem.W.fnOf "_law_single" "_law_single" (defArgs sSingle) (defBody sSingle) (defScope sSingle) .none kVSingle dcSingle pmSingle anSingle cdSingle ctSingle), (PySem.W.fnOf "_law_flipped" "_law_flipped" (defArgs sFlipped) (defBody sFlipped) (defScope sFlipped) .none kVFlipped dcFlipped pmFlipped anFlipped cdFlipped ctFlipped), (PySem.W.fnOf "_law_whole" "_law_whole" (defArgs sWhole) (defBody sWhole) (defScope sWhole) .none kVWhole dcWhole pmWhole anWhole cdWhole ctWhole), (PySem.W.fnOf "_law_table" "_law_table" (defArgs sTable) (defBody sTable) (defScope sTable) .none kVTable dcTable pmTable anTable cdTable ctTable), (PySem.W.fnOf "_law_some" "_law_some" (defArgs sSome) (defBody sSome) (defScope sSome) .none kVSome dcSome pmSome anSome cdSome ctSome), (PySem.W.fnOf "_law_side" "_law_side" (defArgs sSide) (defBody sSide) (defScope sSide) .none kVSide dcSide pmSide anSide cdSide ctSide), (PySem.W.fnOf "_law_mixed" "_law_mixed" (defArgs sMixed) (defBody sMixed) (defScope sMixed) .none kVMixed dcMixed pmMixed anMixed cdMixed ctMixed), (PySem.W.fnOf "law" "law" (defArgs sLaw) (defBody sLaw) (defScope sLaw) .none kVLaw dcLaw pmLaw anLaw cdLaw ctLaw), (PySem.W.ksFn "__init__" "BadPair.__init__" (defArgs sBadPair) (defBody sBadPair) (defScope sBadPair) .none kVBP dcBP pmBP anBP (.ref cdaBP) ctBP ccBP), (PySem.W.ksFn "__init__" "UnknownSign.__init__" (defArgs sUnk) (defBody sUnk) (defScope sUnk) .none kVUS dcUS pmUS anUS (.ref cdaUS) ctUS ccUS)⟩ :=
    { z_len := gn z_len, z_set := gn z_set, z_all := gn z_all, z_abs := gn z_abs, z_int := gn z_int, z_range := gn z_range, z_sorted := gn z_sorted, z_isinstance := gn z_isinstance, z_str := gn z_str, z_bool := gn z_bool, z_list := gn z_list, z_tuple := gn z_tuple, z_any := gn z_any, z_enum := gn z_enumerate, z_min := gn z_min, z_max := gn z_max, z_VE := gn z_ValueError,
      gDiff := gm aDiff, FDiff := FDiff, bDiff := bDiff,
      mAlEq := ⟨aAlEq, iAlEq, kAlEq⟩, FAlEq := FAlEq, bAlEq := bAlEq,
      mIsSign := ⟨aIsSign, iIsSign, kIsSign⟩, FIsSign := FIsSign, bIsSign := bIsSign,
      gPCheckAlphabets := gm aPCheckAlphabets, FPCheckAlphabets := FPCheckAlphabets, bPCheckAlphabets := bPCheckAlphabets,
      gPCheckShared := gm aPCheckShared, FPCheckShared := FPCheckShared, bPCheckShared := bPCheckShared,
      mTInit := ⟨aTInit, iTInit, kTInit⟩, FTInit := FTInit, bTInit := bTInit,
      cTFull := ⟨cmTFull, ⟨_, rcTFull⟩, fiTFull⟩, FTFull := FTFull, bTFull := bTFull,
      mTGet := ⟨aTGet, iTGet, kTGet⟩, FTGet := FTGet, bTGet := bTGet,
      mTIn := ⟨aTIn, iTIn, kTIn⟩, FTIn := FTIn, bTIn := bTIn,
      mTLen := ⟨aTLen, iTLen, kTLen⟩, FTLen := FTLen, bTLen := bTLen,
      mTEq := ⟨aTEq, iTEq, kTEq⟩, FTEq := FTEq, bTEq := bTEq,
      mTMul := ⟨aTMul, iTMul, kTMul⟩, FTMul := FTMul, bTMul := bTMul,
      mTInv := ⟨aTInv, iTInv, kTInv⟩, FTInv := FTInv, bTInv := bTInv,
      mTPairs := ⟨aTPairs, iTPairs, kTPairs⟩, FTPairs := FTPairs, bTPairs := bTPairs,
      gGB := gm aGB, FGB := FGB, bGB := bGB,
      gGA := gm aGA, FGA := FGA, bGA := bGA,
      gFU := gm aFU, FFU := FFU, bFU := bFU,
      gEA := gm aEA, FEA := FEA, bEA := bEA,
      gBag := gm aBag, FBag := FBag, bBag := bBag,
      gTake := gm aTake, FTake := FTake, bTake := bTake,
      gNames := gm aNames, FNames := FNames, bNames := bNames,
      gSigns := gm aSigns, FSigns := FSigns, bSigns := bSigns,
      gPairs := gm aPairs, FPairs := FPairs, bPairs := bPairs,
      gOuts := gm aOuts, FOuts := FOuts, bOuts := bOuts,
      gProduct := gm aProduct, FProduct := FProduct, bProduct := bProduct,
      gOther := gm aOther, FOther := FOther, bOther := bOther,
      gIs := gm aIs, FIs := FIs, bIs := bIs,
      gTold := gm aTold, FTold := FTold, bTold := bTold,
      gGreatest := gm aGreatest, FGreatest := FGreatest, bGreatest := bGreatest,
      gFactor := gm aFactor, FFactor := FFactor, bFactor := bFactor,
      gJoin := gm aJoin, FJoin := FJoin, bJoin := bJoin,
      gInside := gm aInside, FInside := FInside, bInside := bInside,
      gSingle := gm aSingle, FSingle := FSingle, bSingle := bSingle,
      gFlipped := gm aFlipped, FFlipped := FFlipped, bFlipped := bFlipped,
      gWhole := gm aWhole, FWhole := FWhole, bWhole := bWhole,
      gTable := gm aTable, FTable := FTable, bTable := bTable,
      gSome := gm aSome, FSome := FSome, bSome := bSome,
      gSide := gm aSide, FSide := FSide, bSide := bSide,
      gMixed := gm aMixed, FMixed := FMixed, bMixed := bMixed,
      gLaw := gm aLaw, FLaw := FLaw, bLaw := bLaw,
      gcTaleError := gm aTE,
      gcMixed := gm aMX,
      gcUnknownSign := gm aUS,
      gcTable := gm aTB,
      xBadPair := EBP,
      xUnknownSign := EUS,
      clA := ⟨pgC, hdC, poC, saC⟩,
      clT := ⟨pgTB, hdTB, poTB, saTB⟩,
      nL := nC_letters,
      nV := nC_vowels,
      nC := nC_consonants,
      nS := nC_signs,
      nTa := nTB_alphabet,
      nTp := nTB_pairs,
      crT := ⟨rdTB, gaTB⟩,
      mkT := mkTB,
      kpT := kTB,
      xMixed := XCMX,
      kMixed := kMX,
      eMixed := eMX,
      tMixed := tMX,
      sfT := sfTB,
      fnTGet := fnTGet,
      neA := neC,
      moA := imC,
      eqA := eqC,
      eqT := eqTB,
      icT := icTB,
      imT := imTB,
      igO := ig,
      itO := it,
      joint := ⟨aJ, ⟨_, by rw [show S [45] = PySem.Str.ofString "-" by decide +kernel]⟩, gJ, by decide +kernel⟩ }
  have A : AlF K C := ⟨⟨pgC, hdC, poC, saC⟩, nC_letters, nC_vowels, nC_consonants, nC_signs, icC, ig, it, imC⟩
  have AV : AlV K mg C (.type "type") tM tJ tl := ⟨gm aC, by rw [← az_S]; exact gm aSL, ⟨rdC, gaC⟩, ⟨vM, ⟨_, rfl⟩⟩, ⟨vJ, ⟨_, rfl⟩⟩⟩
  have BA' : BaF l.prog K mg BA fBA := ⟨OXBA, aFBA, tFBA, gm aBA⟩
  have MX' : MixX K (⟨fDiff, fAlEq, fIsSign, fPCheckAlphabets, fPCheckShared, fTInit, fTFull, fTGet, fTIn, fTLen, fTEq, fTMul, fTInv, fTPairs, fGB, fGA, fFU, fEA, fBag, fTake, fNames, fSigns, fPairs, fOuts, fProduct, fOther, fIs, fTold, fGreatest, fFactor, fJoin, fInside, fSingle, fFlipped, fWhole, fTable, fSome, fSide, fMixed, fa, C, TB, pTFull, TE, MX, US, BP, fBP, fUS, tj2⟩ : Ad) := ⟨⟨gaMX, ggMX, eMX, hMX, icMX, ig, it, imMX⟩, PySem.W.exm_ref eMX hMX tMX sMX_MX, kit_of clTE tTE sMX_TE sTE_TE, by
        unfold PySem.W.kitOne
        have hne : (Value.ref MX == Value.type "ValueError") = false := beq_eq_false_iff_ne.mpr fun e => by cases e
        rw [hne, if_neg Bool.false_ne_true]
        show (if PySem.W.kitMeta "ValueError" = true then PySem.W.subIn K (.ref MX) (.type "ValueError") else none) = _
        rw [if_pos (by decide +kernel), vMX]⟩
  refine ⟨PySem.W.fnOf "law" "law" (defArgs sLaw) (defBody sLaw) (defScope sLaw) .none kVLaw dcLaw pmLaw anLaw cdLaw ctLaw, fun s v => .of_eq rfl, fun base _ _ => ?_⟩
  have GA := ok_alph (P := l.prog) (w := w) (base := base) FA T.toTxA A AV BA' FDiff bDiff (ok_ba SCBA nBA_part lBA cBA) bBA
  have GAlEq := ok_eq (P := l.prog) (w := w) (base := base) FAlEq T.toTxA A (gm aC)
  exact ok_law T MX' GAlEq ⟨mkTB, aTInit, iTInit, kTB⟩ bTInit AV ⟨mkC, aA, iA, kC⟩ GA bA
theorem walk {l : PySem.W.OpenLaw} {q : Program} {loose : List Str} {XP : (Str → Option Value) → Heap → Prop} {YP : World → Heap → Prop} {d : DefRec} {K : Params → PySem.W.Frag} (hn : l.most = some 63) (hdf : d.params.defaults = [])
    (hY : ∀ (w : World) (h : Heap), YP w h → (K w.params).In h)
    (F : ∀ (w : World) (mg : Str → Option Value) (fa : Addr) (h : Heap), (K w.params).In h → h.Ns mainGlobals mg → mg d.name = some (.ref fa) →
      ∃ fd : FuncData, (∀ (s : Shared) (u : Value), BindsTo s fd ⟨[u], []⟩ [("_law_script", u)]) ∧ ∀ base : Heap, (K w.params).In base → base.Ns mainGlobals mg → FnOk l.prog w (K w.params) mg base CX0 12 fa fd ["_law_script"] (spLaw (K w.params))) :
    PySem.W.WalkO q loose XP YP l.row.toRowW d [] (fun f vs => PySem.call f vs) :=
  L2.walk_of (n := 63) (k := 12) (x := "_law_script") (CX := fun _ => CX0) (sp := fun w => spLaw (K w.params)) hn (by decide) hdf ⟨rfl, by decide, by decide⟩ hY F (fun _ _ a ns hl _ hS => ⟨a, ns, rfl, hS, hl, fun _ => rfl⟩) fun _ _ _ _ _ z => z
end
end Vk
set_option Elab.async false
open PySem PySem.W PyProof.Rows
set_option maxRecDepth 100000 in
set_option maxHeartbeats 0 in
theorem PySem.Challenge.cw_talepost_k22_whole_greatest_tables_holds : PySem.Challenge.rw_talepost_k22_whole_greatest_tables.Holds := by
  w_on; o_law; k_head; (case hw => w_witness2)
  k_fill
  refine Vk.walk (l := PySem.Challenge.rw_talepost_k22_whole_greatest_tables) rfl rfl (fun w h Y => PySem.W.kIn_of Y) ?F
  case F =>
    intro w mg fa h KX G hmg
    refine' Vk.all_mk KX G hmg ?lDiff ?cDiff ?aDiff ?kDiff ?lPCheckAlphabets ?cPCheckAlphabets ?aPCheckAlphabets ?kPCheckAlphabets ?lPCheckShared ?cPCheckShared ?aPCheckShared ?kPCheckShared ?lGB ?cGB ?aGB ?kGB ?lGA ?cGA ?aGA ?kGA ?lFU ?cFU ?aFU ?kFU ?lEA ?cEA ?aEA ?kEA ?lBag ?cBag ?aBag ?kBag ?lTake ?cTake ?aTake ?kTake ?lNames ?cNames ?aNames ?kNames ?lSigns ?cSigns ?aSigns ?kSigns ?lPairs ?cPairs ?aPairs ?kPairs ?lOuts ?cOuts ?aOuts ?kOuts ?lProduct ?cProduct ?aProduct ?kProduct ?lOther ?cOther ?aOther ?kOther ?lIs ?cIs ?aIs ?kIs ?lTold ?cTold ?aTold ?kTold ?lGreatest ?cGreatest ?aGreatest ?kGreatest ?lFactor ?cFactor ?aFactor ?kFactor ?lJoin ?cJoin ?aJoin ?kJoin ?lInside ?cInside ?aInside ?kInside ?lSingle ?cSingle ?aSingle ?kSingle ?lFlipped ?cFlipped ?aFlipped ?kFlipped ?lWhole ?cWhole ?aWhole ?kWhole ?lTable ?cTable ?aTable ?kTable ?lSome ?cSome ?aSome ?kSome ?lSide ?cSide ?aSide ?kSide ?lMixed ?cMixed ?aMixed ?kMixed ?lLaw ?cLaw ?aLaw ?kLaw ?z_len ?z_set ?z_all ?z_abs ?z_int ?z_range ?z_sorted ?z_isinstance ?z_str ?z_bool ?z_list ?z_tuple ?z_any ?z_enumerate ?z_min ?z_max ?z_ValueError ?aC ?pgC ?hdC ?poC ?saC ?mkC ?kC ?nC_letters ?nC_vowels ?nC_consonants ?nC_signs ?ig ?it ?icC ?imC ?rdC ?gaC ?vM ?vJ ?aJ ?gJ ?aSL ?aTB ?pgTB ?hdTB ?poTB ?saTB ?mkTB ?kTB ?nTB_alphabet ?nTB_pairs ?icTB ?imTB ?rdTB ?gaTB ?lAlEq ?cAlEq ?aAlEq ?kAlEq ?iAlEq ?lIsSign ?cIsSign ?aIsSign ?kIsSign ?iIsSign ?lTInit ?cTInit ?aTInit ?kTInit ?iTInit ?lTFull ?cTFull ?kTFull ?cmTFull ?rcTFull ?fiTFull ?lTGet ?cTGet ?aTGet ?kTGet ?iTGet ?lTIn ?cTIn ?aTIn ?kTIn ?iTIn ?lTLen ?cTLen ?aTLen ?kTLen ?iTLen ?lTEq ?cTEq ?aTEq ?kTEq ?iTEq ?lTMul ?cTMul ?aTMul ?kTMul ?iTMul ?lTInv ?cTInv ?aTInv ?kTInv ?iTInv ?lTPairs ?cTPairs ?aTPairs ?kTPairs ?iTPairs ?sfTB ?fnTGet ?neC ?eqC ?eqTB ?lA ?cA ?aA ?lDA ?kA ?iA ?xTE ?aTE ?eTE ?tTE ?hTE ?iTE ?noT ?noM ?anyS ?xBA ?aBA ?eBA ?tBA ?hBA ?nBA_part ?saBA ?gaBA ?ggBA ?aFBA ?tFBA ?lBA ?cBA ?kBA ?lccBA ?lcdBA ?hvBA ?hflBA ?mmBA ?vBA ?xBP ?aBP ?eBP ?tBP ?hBP ?nBP_index ?saBP ?gaBP ?ggBP ?aFBP ?tFBP ?lBP ?cBP ?kBP ?lccBP ?lcdBP ?hvBP ?hflBP ?mmBP ?vBP ?xUS ?aUS ?eUS ?tUS ?hUS ?nUS_sign ?saUS ?gaUS ?ggUS ?aFUS ?tFUS ?lUS ?cUS ?kUS ?lccUS ?lcdUS ?hvUS ?hflUS ?mmUS ?vUS ?xMX ?aMX ?eMX ?tMX ?hMX ?kMX ?gaMX ?ggMX ?vMX ?XCMX ?sTE_TE ?clTE ?sMX_MX ?sMX_TE ?sUS_US ?clMX ?clUS ?icMX ?imMX
    (case aDiff => k_is)
    (case aPCheckAlphabets => k_is)
    (case aPCheckShared => k_is)
    (case aGB => k_is)
    (case aGA => k_is)
    (case aFU => k_is)
    (case aEA => k_is)
    (case aBag => k_is)
    (case aTake => k_is)
    (case aNames => k_is)
    (case aSigns => k_is)
    (case aPairs => k_is)
    (case aOuts => k_is)
    (case aProduct => k_is)
    (case aOther => k_is)
    (case aIs => k_is)
    (case aTold => k_is)
    (case aGreatest => k_is)
    (case aFactor => k_is)
    (case aJoin => k_is)
    (case aInside => k_is)
    (case aSingle => k_is)
    (case aFlipped => k_is)
    (case aWhole => k_is)
    (case aTable => k_is)
    (case aSome => k_is)
    (case aSide => k_is)
    (case aMixed => k_is)
    (case aLaw => k_is)
    (case z_len => k_is)
    (case z_set => k_is)
    (case z_all => k_is)
    (case z_abs => k_is)
    (case z_int => k_is)
    (case z_range => k_is)
    (case z_sorted => k_is)
    (case z_isinstance => k_is)
    (case z_str => k_is)
    (case z_bool => k_is)
    (case z_list => k_is)
    (case z_tuple => k_is)
    (case z_any => k_is)
    (case z_enumerate => k_is)
    (case z_min => k_is)
    (case z_max => k_is)
    (case z_ValueError => k_is)
    (case aC => k_is)
    (case aSL => k_is)
    (case aTB => k_is)
    (case aTE => k_is)
    (case noM => k_is)
    (case aBA => k_is)
    (case aBP => k_is)
    (case aUS => k_is)
    (case aMX => k_is)
    (case aAlEq => k_is)
    (case aIsSign => k_is)
    (case aTInit => k_is)
    (case aTGet => k_is)
    (case aTIn => k_is)
    (case aTLen => k_is)
    (case aTEq => k_is)
    (case aTMul => k_is)
    (case aTInv => k_is)
    (case aTPairs => k_is)
    (case aA => k_is)
    (case aFBA => k_is)
    (case aFBP => k_is)
    (case aFUS => k_is)
    (case cmTFull => k_is)
    (case rcTFull => k_is)
    (case lDiff => k_is)
    (case cDiff => k_is)
    (case kDiff => k_is)
    (case lPCheckAlphabets => k_is)
    (case cPCheckAlphabets => k_is)
    (case kPCheckAlphabets => k_is)
    (case lPCheckShared => k_is)
    (case cPCheckShared => k_is)
    (case kPCheckShared => k_is)
    (case lGB => k_is)
    (case cGB => k_is)
    (case kGB => k_is)
    (case lGA => k_is)
    (case cGA => k_is)
    (case kGA => k_is)
    (case lFU => k_is)
    (case cFU => k_is)
    (case kFU => k_is)
    (case lEA => k_is)
    (case cEA => k_is)
    (case kEA => k_is)
    (case lBag => k_is)
    (case cBag => k_is)
    (case kBag => k_is)
    (case lTake => k_is)
    (case cTake => k_is)
    (case kTake => k_is)
    (case lNames => k_is)
    (case cNames => k_is)
    (case kNames => k_is)
    (case lSigns => k_is)
    (case cSigns => k_is)
    (case kSigns => k_is)
    (case lPairs => k_is)
    (case cPairs => k_is)
    (case kPairs => k_is)
    (case lOuts => k_is)
    (case cOuts => k_is)
    (case kOuts => k_is)
    (case lProduct => k_is)
    (case cProduct => k_is)
    (case kProduct => k_is)
    (case lOther => k_is)
    (case cOther => k_is)
    (case kOther => k_is)
    (case lIs => k_is)
    (case cIs => k_is)
    (case kIs => k_is)
    (case lTold => k_is)
    (case cTold => k_is)
    (case kTold => k_is)
    (case lGreatest => k_is)
    (case cGreatest => k_is)
    (case kGreatest => k_is)
    (case lFactor => k_is)
    (case cFactor => k_is)
    (case kFactor => k_is)
    (case lJoin => k_is)
    (case cJoin => k_is)
    (case kJoin => k_is)
    (case lInside => k_is)
    (case cInside => k_is)
    (case kInside => k_is)
    (case lSingle => k_is)
    (case cSingle => k_is)
    (case kSingle => k_is)
    (case lFlipped => k_is)
    (case cFlipped => k_is)
    (case kFlipped => k_is)
    (case lWhole => k_is)
    (case cWhole => k_is)
    (case kWhole => k_is)
    (case lTable => k_is)
    (case cTable => k_is)
    (case kTable => k_is)
    (case lSome => k_is)
    (case cSome => k_is)
    (case kSome => k_is)
    (case lSide => k_is)
    (case cSide => k_is)
    (case kSide => k_is)
    (case lMixed => k_is)
    (case cMixed => k_is)
    (case kMixed => k_is)
    (case lLaw => k_is)
    (case cLaw => k_is)
    (case kLaw => k_is)
    (case pgC => k_is)
    (case hdC => k_is)
    (case poC => k_is)
    (case saC => k_is)
    (case mkC => k_is)
    (case kC => k_is)
    (case nC_letters => k_is)
    (case nC_vowels => k_is)
    (case nC_consonants => k_is)
    (case nC_signs => k_is)
    (case ig => k_is)
    (case it => k_is)
    (case icC => k_is)
    (case imC => k_is)
    (case rdC => k_is)
    (case gaC => k_is)
    (case vM => k_is)
    (case vJ => k_is)
    (case aJ => k_is)
    (case gJ => k_is)
    (case pgTB => k_is)
    (case hdTB => k_is)
    (case poTB => k_is)
    (case saTB => k_is)
    (case mkTB => k_is)
    (case kTB => k_is)
    (case nTB_alphabet => k_is)
    (case nTB_pairs => k_is)
    (case icTB => k_is)
    (case imTB => k_is)
    (case rdTB => k_is)
    (case gaTB => k_is)
    (case lAlEq => k_is)
    (case cAlEq => k_is)
    (case kAlEq => k_is)
    (case iAlEq => k_is)
    (case lIsSign => k_is)
    (case cIsSign => k_is)
    (case kIsSign => k_is)
    (case iIsSign => k_is)
    (case lTInit => k_is)
    (case cTInit => k_is)
    (case kTInit => k_is)
    (case iTInit => k_is)
    (case lTFull => k_is)
    (case cTFull => k_is)
    (case kTFull => k_is)
    (case fiTFull => k_is)
    (case lTGet => k_is)
    (case cTGet => k_is)
    (case kTGet => k_is)
    (case iTGet => k_is)
    (case lTIn => k_is)
    (case cTIn => k_is)
    (case kTIn => k_is)
    (case iTIn => k_is)
    (case lTLen => k_is)
    (case cTLen => k_is)
    (case kTLen => k_is)
    (case iTLen => k_is)
    (case lTEq => k_is)
    (case cTEq => k_is)
    (case kTEq => k_is)
    (case iTEq => k_is)
    (case lTMul => k_is)
    (case cTMul => k_is)
    (case kTMul => k_is)
    (case iTMul => k_is)
    (case lTInv => k_is)
    (case cTInv => k_is)
    (case kTInv => k_is)
    (case iTInv => k_is)
    (case lTPairs => k_is)
    (case cTPairs => k_is)
    (case kTPairs => k_is)
    (case iTPairs => k_is)
    (case sfTB => k_is)
    (case fnTGet => k_is)
    (case neC => k_is)
    (case eqC => k_is)
    (case eqTB => k_is)
    (case lA => k_is)
    (case cA => k_is)
    (case lDA => k_is)
    (case kA => k_is)
    (case iA => k_is)
    (case xTE => k_is)
    (case eTE => k_is)
    (case tTE => k_is)
    (case hTE => k_is)
    (case iTE => k_is)
    (case noT => first | rfl | decide +kernel)
    (case anyS => k_is)
    (case xBA => k_is)
    (case eBA => k_is)
    (case tBA => k_is)
    (case hBA => k_is)
    (case nBA_part => k_is)
    (case saBA => k_is)
    (case gaBA => k_is)
    (case ggBA => k_is)
    (case tFBA => k_is)
    (case lBA => k_is)
    (case cBA => k_is)
    (case kBA => k_is)
    (case lccBA => k_is)
    (case lcdBA => k_is)
    (case hvBA => rfl)
    (case hflBA => first | rfl | decide +kernel)
    (case mmBA => k_is)
    (case vBA => k_is)
    (case xBP => k_is)
    (case eBP => k_is)
    (case tBP => k_is)
    (case hBP => k_is)
    (case nBP_index => k_is)
    (case saBP => k_is)
    (case gaBP => k_is)
    (case ggBP => k_is)
    (case tFBP => k_is)
    (case lBP => k_is)
    (case cBP => k_is)
    (case kBP => k_is)
    (case lccBP => k_is)
    (case lcdBP => k_is)
    (case hvBP => rfl)
    (case hflBP => first | rfl | decide +kernel)
    (case mmBP => k_is)
    (case vBP => k_is)
    (case xUS => k_is)
    (case eUS => k_is)
    (case tUS => k_is)
    (case hUS => k_is)
    (case nUS_sign => k_is)
    (case saUS => k_is)
    (case gaUS => k_is)
    (case ggUS => k_is)
    (case tFUS => k_is)
    (case lUS => k_is)
    (case cUS => k_is)
    (case kUS => k_is)
    (case lccUS => k_is)
    (case lcdUS => k_is)
    (case hvUS => rfl)
    (case hflUS => first | rfl | decide +kernel)
    (case mmUS => k_is)
    (case vUS => k_is)
    (case xMX => k_is)
    (case eMX => k_is)
    (case tMX => k_is)
    (case hMX => k_is)
    (case kMX => k_is)
    (case gaMX => k_is)
    (case ggMX => k_is)
    (case vMX => k_is)
    (case XCMX => k_exc)
    (case sTE_TE => k_is)
    (case clTE => k_is)
    (case sMX_MX => k_is)
    (case sMX_TE => k_is)
    (case sUS_US => k_is)
    (case clMX => k_is)
    (case clUS => k_is)
    (case icMX => k_is)
    (case imMX => k_is)
