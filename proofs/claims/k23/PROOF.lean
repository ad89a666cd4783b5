import PyProof.Rows.All
import Wide.All
import OpenK.AllK
import Wide.FinOn
import HandS.ForExc
import HandS.ExcOwn
import HandS.ForMost
import HandS.WordsExc
import HandS.ExcInit
import HandS.ExcCtx
import HandS.SuiteRaise
import HandS.RaiseFrom
import HandS.ExcInitHot
import HandS.Base
import HandS.Call
import HandS.Exc
import HandS.TryMany
import HandS.More
import HandS.SlotsOwn
import HandS.ExcField
import HandS.FStr
import HandS.ExcSuper
import KE.KExcSuper
import HandS.ExcIs
import HandS.IsInst
import KE.KOpsOwn
import HandS.TupSets
import KE.KeyNested
import KE.KSortTupG
import HandS.SetBool
import HandS.Walk
import PyProof.CollectStr
import HandS.Property
import HandS.Text
import HandS.Strs
import PyProof.ListStr
import HandS.Conv
import HandS.Zip
import HandS.ClsMeth
import HandS.Defaults
import PySem.Challenge.RW_talepost_k23_people
import HandS.Iter
import PyProof.Draws
import PyProof.EnumMake
import KE.GoesZip
import KE.GoesMore
import HandS.Set
import KE.KSuper
import HandS.Dict
import KE.KDictZip
import HandS.Deep
import HandS.Style
import KE.KRevSl
import HandS.RaiseMore
import HandS.DictComp
import KE.Datum
import PyProof.StrLawsRepr
set_option Elab.async false
set_option linter.all false
set_option maxRecDepth 100000
set_option maxHeartbeats 4000000
namespace Vk
open PySem PySem.Spec PyProof.Rows L2
/-! o.m(e, ..) whose def may raise, in a try -/
def tMethS (C : Addr) (m : Str) (sp : Sp) (E : L2.St → XK) (ta : TE) (t : TA) : TE := fun σ H Q => ta σ H fun x H1 => ∃ a dx fs, x = .ref a ∧ H1 a = some (.ins C dx fs) ∧ fs.lookup m = none ∧ t σ H1 fun vs H2 => sp (x :: vs) H2 Q (E σ)
section
variable {X : Cx} {CX : CXT} {k : Nat} {f C : Addr} {fd : FuncData} {ps : List Str} {sp : Sp} {E : L2.St → XK} {m : Str} {apos pos : Pos} {o e : Expr} {es : List Expr} {ta : TE} {t : TA}
theorem pe_methS {pl : Sem Bool} (he : PE X o ta) (c : Cls X.K C) (hm : Meth X.K C m f) (F : FnOk X.prog X.w X.K X.mg X.base CX k f fd ps sp) (hr : Room k X.A) (hb : Binds X.K fd ps []) (hx : ∀ σ, PassesAt CX X σ (E σ)) (ha : PA X (e :: es) t)
    (hst : starEach (e :: es) X.env = (false, eval e X.env) :: starEach es X.env := by rfl) (hpl : (backTo pos (starEach es X.env)).any (·.1) = false := by rfl)
    (ht : eval (.Call (.Attribute o m apos) (e :: es) [] pos) X.env = (do
      let ov ← eval o X.env
      standAt apos.atName
      let (f, first) ← holding [ov] (getMethod ov m pl)
      callWith pos f first (backTo pos (starEach (e :: es) X.env)) (backToKw pos (keywordEach [] X.env))) := by rfl) :
    PE X (.Call (.Attribute o m apos) (e :: es) [] pos) (tMethS C m sp E ta t) := by
  refine ⟨fun pins s σ H Q I h => ?_⟩
  refine PySem.W.methodCall_KW (pl := pl) (thn (he.run pins s σ H _ I h) fun u s1 ⟨x, H1, I1, rx, a, dx, fs, ex, ea, l, q⟩ => ?_) ht
  subst ex
  obtain rfl : u = Value.ref a := rx
  refine getmeth_ok I1 ea c hm l ?_
  refine PySem.W.callWith_K (first := [.ref a]) (h₀ := X.base) I.ok.mod.kin hm.kp (thn (ha.run pos pins s1 σ H1 _ I1 q) fun us s2 ⟨vs, H2, I2, r, q2⟩ => ⟨I2.kIn, ?_⟩) hst hpl
  exact run_fnS (us := .ref a :: us) (vs := .ref a :: vs) F hr hb (hx σ) I2 (.cons rfl r) q2
end
end Vk
set_option Elab.async false
set_option linter.all false
set_option maxRecDepth 100000
set_option maxHeartbeats 2000000
namespace Vk
open PySem PySem.Spec PyProof.Rows L2
/-! defs whose errors bear no context, for a handler that raises -/
theorem okN {P : Program} {w : World} {K : PySem.W.Frag} {mg : Str → Option Value} {base : Heap} {nm qn : Str} {st : Stmt} {fa : Addr} {fd : FuncData} {N qs : List Str} {lv : Nat} {sp : Sp} (F : Fun K nm qn st fa fd) (S : FnScope N qs (defScope st))
    (hlen : ∀ us H Q E, sp us H Q E → us.length = qs.length)
    (hb : ∀ (cv : Value) (B : Around) (out : List Env) (s0 : Shared) (H : Hp) (us : List V) (Q : VK) (E : XK), Room lv (B.deeper (envOfC qn (defScope st) s0.heap.objs.size fa cv)) → sp us H Q E →
      ∃ z, PSs (cxOf (L2N.CX P w) P w K mg base N qn (defScope st) fa cv B out s0 H E) (defBody st) z ∧ z { nx := fun _ G => Q .non G, rt := Q } (start N us) H) : FnOk P w K mg base (L2N.CX P w) (lv + 1) fa fd qs sp := by
  obtain ⟨_, _, _, _, _, _, cv, _, _, rfl, h1, h2⟩ := F.ex
  exact fn_of h1 h2 S hlen fun B out s0 H us Q E r h => hb cv B out s0 H us Q E r h
/-- C(e, ..), C an own error with its own __init__; the new error bears no context -/
theorem pmk_oexN {X : Cx} {CX : CXT} {nm : Str} {C fi : Addr} {lv : Nat} {fd : FuncData} {qs : List Str} {sp : Sp} {e : Expr} {es : List Expr} {ta : TA} {p p' : Pos} (O : OexC X.K C) (hi : PySem.W.findIn X.K (.ref C) "__init__" = some (some (.ref fi))) (ht : PySem.W.typeIn X.K (.ref fi) = some (.type "function"))
    (FI : FnOk X.prog X.w X.K X.mg X.base CX lv fi fd qs sp) (hr : Room (lv + 1) X.A) (hb : Binds X.K fd qs []) (hp : Passes CX X (fun _ _ _ => False)) (hg : Gl X nm) (hm : X.mg nm = some (.ref C)) (ha : PA X (e :: es) ta)
    (hdb : (nm == ("__debug__" : Str)) = false := by decide) (hst : starEach (e :: es) X.env = (false, eval e X.env) :: starEach es X.env := by rfl) (hpl : (backTo p' (starEach es X.env)).any (·.1) = false := by rfl) :
    L2N.PMk X (.Call (.Name nm p) (e :: es) [] p') (tMkO C sp [] ta) := by
  intro pins s σ H Q I h
  obtain ⟨n1, n2, n3, n4, bm, n6, n7, n8, n9, n10, n11, n12, n13, n14, n15, hC, hbm⟩ := O.cls
  refine wpAny_Call_Name_kw (ld_glob I hg hm ?_ hdb)
  refine PySem.W.callWith_K (h₀ := X.base) I.ok.mod.kin O.kC (thn (ha.run p' pins s σ H _ I h) fun us s1 z1 => ?_) hst hpl
  obtain ⟨vs, H1, J, rv, hz, q⟩ := z1
  refine ⟨J.kIn, ?_⟩
  show wpAny _ _ (call (.ref C) us) _ _ _
  obtain ⟨g0, ga, dr, tk, os⟩ := s1
  have up1 : g0.objs.size ≤ g0.objs.size + 1 := Nat.le_succ _
  have q1 := q (g0.objs.size + 1) (J.hok.fresh up1)
  rw [List.append_nil] at q1
  have kp : ∀ b o, g0.get? b = some o → ((g0.push (PySem.W.kdv_tup us)).push (PySem.HandSPX.excO C g0.objs.size)).get? b = some o := fun _ _ y => Heap.get?_push_of_some _ (Heap.get?_push_of_some _ y)
  have at1 : ((g0.push (PySem.W.kdv_tup us)).push (PySem.HandSPX.excO C g0.objs.size)).get? (g0.objs.size + 1) = some (PySem.HandSPX.excO C g0.objs.size) := by heap_get
  have J2 := J.laid (t' := tk) (a := g0.objs.size + 1) (o := exo (g0.objs.size + 1) C none) kp up1 (exo_ok at1)
  have r2 : Vals (V.ref (g0.objs.size + 1) :: vs) (Value.ref (g0.objs.size + 1) :: us) := .cons rfl rv
  have ln : (Value.ref (g0.objs.size + 1) :: us ++ []).length = qs.length := by
    have y := r2.length
    rw [FI.len _ _ _ _ q1] at y
    rw [List.append_nil]
    exact y.symm
  have usz : us.length ≤ sizeLine := by
    rw [← Paired.length rv, sizeLine_eq]
    omega
  have b1 := hb _ (Value.ref (g0.objs.size + 1) :: us) J2.kIn ln
  rw [List.append_nil] at b1
  have run := FI.run _ X.stack _ _ ⟨Value.ref (g0.objs.size + 1) :: us, []⟩ (Value.ref (g0.objs.size + 1) :: us) _ _ (fun _ _ _ => False) (hr.make C us []) (J2.env0.make C us []) b1 r2 q1
  refine wpAny_call (PySem.HandSPX.call_own F.excBase_ValueError (fun Y => PySem.HandSPX.refsVE_contains Y bm hbm) (J.kIn _ _ hC) (PySem.W.looks_findIn J.kIn hi) (fun self => PySem.W.bind_fn J.kIn self ht) usz (codeAny_mono run fun r s2 z => ?_))
  cases r with
  | error er => exact hp pins σ _ _ er s2 J2 z
  | ok fl =>
    cases fl with
    | next => exact z.elim
    | brk => exact z.elim
    | cont => exact z.elim
    | ret u =>
      obtain ⟨v, H2, e1, e2, e3, e4, e5, ev, d, fs, e6, e7, e8, e9⟩ := z
      subst ev
      obtain ⟨g2, ga2, d2, t2, os2⟩ := s2
      obtain ⟨t0, G, J3, kG, gn, go, na⟩ := mk_end0 (d2 := d2) (t2 := t2) J up1 kp e3 e4 e1 e2 e6 e7 e8
      refine ⟨e5, g0.objs.size + 1, _, _, ⟨G, ga2, d2, t2, os2⟩, _, .ref C, some d, rfl, J3, kG, gn, go, ⟨rfl, rfl, fun vs hv => ?_⟩, rfl, rfl, na, rfl, e2, raises_own O.exC O.tyC, e9⟩
      cases hv
      rfl
end Vk
set_option Elab.async false
set_option linter.all false
set_option maxRecDepth 100000
set_option maxHeartbeats 4000000
namespace Vk
open PySem PySem.Spec PyProof.Rows L2
/-! several except clauses, each with a name: one step for each clause -/
/-- D, the clause's name gone behind its suite -/
def goneD (D : Ends) (i : Nat) : Ends := { nx := fun σ' H' => D.nx (σ'.set i none) H', rt := D.rt, bk := fun σ' H' => D.bk (σ'.set i none) H', ct := fun σ' H' => D.ct (σ'.set i none) H' }
/-- a clause: its class, its name's slot, its suite's reading -/
structure Cl where
  c : Value
  i : Nat
  ts : Addr → Value → Option Addr → TS
def wAsN (K : PySem.W.Frag) (Wout : WX) (D : Ends) : List Cl → WX
  | [] => Wout
  | q :: r => fun cls d σ H => ∃ b, PySem.W.exmOne K cls q.c = some b ∧ (b = true → ∀ a, H a = none → q.ts a cls d (goneD D q.i) (σ.set q.i (some (.ref a))) H) ∧ (b = false → wAsN K Wout D r cls d σ H)
inductive AsOk (X : Cx) : List ExceptHandler → List Cl → Prop
  | nil : AsOk X [] []
  | cons {x n : Str} {q : Cl} {b₀ : Stmt} {suite : List Stmt} {np pos' : Pos} {hds : List ExceptHandler} {l : List Cl} (hi : X.N[q.i]? = some n) (hln : X.env.kindOf n = some .local) (hc : Names X x q.c)
      (hsu : ∀ (a : Addr) (oe : Obj) (cls : Value) (d : Option Addr) (pn : List (Addr × Obj)), Zc cls d oe → (∃ vs, oe.data = .fields vs) → PSs (X.suite a ((a, oe) :: pn)) (b₀ :: suite) (q.ts a cls d)) (r : AsOk X hds l) :
      AsOk X (.ExceptHandler (some (.Name x np)) (some n) (b₀ :: suite) pos' :: hds) (q :: l)
section
variable {X : Cx} {body : List Stmt} {h₀ : ExceptHandler} {hds : List ExceptHandler} {l : List Cl} {pos : Pos} {tb : WX → TS} {Wout : WX}
theorem ps_try_asN (hs : X.stack = X.env :: X.outer) (hf : X.env.frame = some X.env.locals) (hN : X.N.Nodup) (tk : Takes X Wout)
    (hb : ∀ (W : WX) (pn : List (Addr × Obj)) (xe : Value → Shared → Prop), Takes (X.tr pn xe) W → PassesOwn (model X.prog X.w) X.A X.env xe → PSs (X.tr pn xe) body (tb W))
    (hh : AsOk X (h₀ :: hds) l) : PS X (.Try body (h₀ :: hds) [] [] pos) (fun D σ H => tb (wAsN X.K Wout D l) D σ H) := by
  refine ⟨fun pins s σ H D I h => ?_⟩
  have ok := I.ok
  have hfr : X.A.frames = some (X.env :: X.outer) := by rw [ok.frames, hs]
  refine wpAny_Try_except (wpAny_mono ((hb (wAsN X.K Wout D l) (X.pn ++ pins) (fun e s₁ => wpAny (model X.prog X.w) X.A (noteFrame e X.env) (fun _ s₂ => wpAny (model X.prog X.w) X.A (setFlight e none) (fun _ s₃ =>
    wpAny (model X.prog X.w) X.A (handleBy e X.env (h₀ :: hds)) (SP X pins D) X.xe s₃) X.xe s₂) X.xe s₁) (fun u s' hx => ?_) PassesOwn.looking).run [] s σ H D (I.toTry _) h) (fun f s1 hsp => ?_) fun e s1 he => he)
  · obtain ⟨a, B, sI, pn', σ1, H1, cls, d, rfl, J0, nb, up, sky, na, os, ag, wish⟩ := hx
    have J : Inv X pins σ1 H1 sI := J0.ofTry ok
    rw [hs] at sky
    show wpAny (model X.prog X.w) X.A (noteFrame (.ref a) X.env) _ _ _
    refine Sky.land Zc.steady hfr hf sky fun h3 fl up3 => ?_
    have J3 : Inv X pins σ1 H1 { s' with heap := h3 } := J.landed nb fl.1 (up.trans up3) os ag
    obtain ⟨o3, vs3, e3, z3, d3⟩ := fl.there
    have nfr : a ∉ frs (X.env :: X.outer) := fun hm => by
      obtain ⟨_, o', e', hnf⟩ := fl.2.2.1.mem hm
      rw [e3] at e'
      cases e'
      exact hnf _ d3
    have nL : a ≠ X.env.locals := fun z => nfr (List.mem_filterMap.mpr ⟨X.env, List.mem_cons_self, by rw [hf, z]⟩)
    have nF : a ∉ X.fs := fun hm => by
      obtain ⟨e, he, q⟩ := List.mem_filterMap.mp hm
      exact nfr (List.mem_filterMap.mpr ⟨e, List.mem_cons_of_mem _ he, q⟩)
    have S3 := J3.suite e3 d3 na nL nF
    have LT : PySem.W.Looks (model X.prog X.w) h3 (typeOf (.ref a)) cls := fun A Q E s k q => wpAny_typeOf_ref (k _ _ e3) (by rw [z3.1]; exact q)
    suffices all : ∀ {hds' : List ExceptHandler} {l' : List Cl}, AsOk X hds' l' → wAsN X.K Wout D l' cls d σ1 H1 → wpAny (model X.prog X.w) X.A (handleBy (.ref a) X.env hds') (SP X pins D) X.xe { s' with heap := h3 } from all hh wish
    clear wish hh
    intro hds' l' hk
    induction hk with
    | nil =>
      intro wo
      obtain ⟨_, _, _, oe, vs, T, oT, ts', he, hz, hd, h1, hr⟩ := id fl
      have out : wpAny (model X.prog X.w) X.A (setFlight (.ref a) X.env.frame) (fun _ s4 => wpAny (model X.prog X.w) X.A (throw (.ref a) : Sem Flow) (SP X pins D) X.xe s4) X.xe { s' with heap := h3 } := by
        rw [hf]
        exact HandSPX.setFlight_upZ fl fun h4 hh4 up4 => wpAny_throw (tk _ _ ⟨a, B, sI, pins, σ1, H1, cls, d, rfl, J, nb, (up.trans up3).trans up4, .inr (.inr (by rw [hs]; exact hh4)), na, os, ag, wo⟩)
      refine wpAny_handleBy_nil ?_
      unfold PySem.passOn
      refine wpAny_bind (wpAny_field he hd h1 ?_)
      rw [if_neg (show ¬ ((Value.ref T == Value.none) = true) from by simp)]
      first
        | exact wpAny_bind (wpAny_pure (wpAny_bind out))
        | exact wpAny_bind out
    | @cons x n q b₀ suite np pos' hds2 l2 hi hln hc hsu r ih =>
      intro wo
      obtain ⟨b, hb1, hyes, hno⟩ := wo
      have LM := PySem.W.exm_one (M := model X.prog X.w) J3.kIn LT hb1
      refine wpAny_handleBy_cons (codeAny_handlers_test ?_) (by intro z; cases z)
      have name : ∀ {Q : Value → Shared → Prop} {E : Value → Shared → Prop}, Q q.c { s' with heap := h3 } → wpAny (model X.prog X.w) (X.A.mark (some (.ref a))) (eval (.Name x np) X.env) Q E { s' with heap := h3 } := fun {Q E} hQ => by
        obtain ⟨hg, hdbg, hm | ⟨hm, hv, hnn⟩⟩ := hc
        · exact ld_glob (X := X.suite a ((a, o3) :: (X.pn ++ pins))) S3 hg hm hQ hdbg
        · exact ld_blt (X := X.suite a ((a, o3) :: (X.pn ++ pins))) S3 hg hm hv hQ hnn hdbg
      refine name (LM.here ?_)
      cases b with
      | false =>
        show wpAny _ X.A (handleBy (.ref a) X.env hds2) _ _ _
        exact ih (hno rfl)
      | true =>
        refine codeAny_handlers_suite_as (HandSPX.lands_againZ fl fun h4 fl4 up4 => ?_)
        have J4 : Inv X pins σ1 H1 { s' with heap := h4 } := J.landed nb fl4.1 ((up.trans up3).trans up4) os ag
        obtain ⟨o4, vs4, e4, z4, d4⟩ := fl4.there
        refine store_ok (X := X.suite a ((a, o4) :: (X.pn ++ pins))) (v := .ref a) (J4.suite e4 d4 na nL nF) hN hi (.inl hln) rfl (fun s5 S5 => ?_) (.inr hln)
        refine wpAny_mono ((hsu a o4 cls d (X.pn ++ pins) z4 ⟨_, d4⟩).run [] s5 _ H1 _ S5 (hyes rfl a na)) (fun f s6 hsp => ?_) fun _ _ z => z.elim
        cases f with
        | next =>
          obtain ⟨σ6, H6, S6, q6⟩ := hsp
          exact gone_ok (S6.unsuite ok) hN hi hln fun s7 J7 => ⟨_, _, J7, q6⟩
        | brk =>
          obtain ⟨σ6, H6, S6, q6⟩ := hsp
          exact gone_ok (S6.unsuite ok) hN hi hln fun s7 J7 => ⟨_, _, J7, q6⟩
        | cont =>
          obtain ⟨σ6, H6, S6, q6⟩ := hsp
          exact gone_ok (S6.unsuite ok) hN hi hln fun s7 J7 => ⟨_, _, J7, q6⟩
        | ret u =>
          obtain ⟨v6, σ6, H6, S6, r6, q6⟩ := hsp
          exact gone_ok (S6.unsuite ok) hN hi hln fun s7 J7 => ⟨_, _, _, J7, r6, q6⟩
  · cases f with
    | next =>
      obtain ⟨σ', H', J', q⟩ := hsp
      exact wpAny_execs_nil ⟨σ', H', J'.ofTry ok, q⟩
    | brk =>
      obtain ⟨σ', H', J', q⟩ := hsp
      exact ⟨σ', H', J'.ofTry ok, q⟩
    | cont =>
      obtain ⟨σ', H', J', q⟩ := hsp
      exact ⟨σ', H', J'.ofTry ok, q⟩
    | ret u =>
      obtain ⟨v, σ', H', J', r, q⟩ := hsp
      exact ⟨v, σ', H', J'.ofTry ok, r, q⟩
end
end Vk
set_option Elab.async false
set_option linter.all false
set_option maxRecDepth 100000
set_option maxHeartbeats 4000000
namespace Vk
open PySem PySem.Spec PyProof.Rows L2
/-! len of an instance with its own `__len__` -/
def rLenI (C : Addr) (sp : Sp) (E : XK) : List V → Hp → VK → Prop := fun xs H Q => ∃ (a dx : Addr) (fs : List (Str × V)), xs = [V.ref a] ∧ H a = some (.ins C dx fs) ∧ sp [.ref a] H (fun z H' => ∃ n : Nat, z = .int (n : Int) ∧ n < 2 ^ 63 ∧ Q z H') E
theorem call_lenI {X : Cx} {CX : CXT} {C g : Addr} {n : Nat} {sp : Sp} {E : XK} (hs : PySem.W.findIn X.K (.ref C) "__len__" = some (some (.ref g))) (hf : PySem.W.isFn X.K (.ref g) = true) (F : FnR X.prog X.w X.K X.mg X.base CX n g sp) (hr : Room (n + 1) X.A) (hx : Passes CX X E) :
    CallR X (.builtin "len") (rLenI C sp E) := by
  intro pins s σ H xs us Q I r h
  obtain ⟨a, dx, fs, rfl, ha, q⟩ := h
  obtain ⟨u, rfl, ru⟩ := vals1 r
  cases (show u = Value.ref a from ru)
  obtain ⟨mA, O, _⟩ := ins_get I.hok ha
  obtain ⟨od, J, _⟩ := O.look
  obtain ⟨m, hF⟩ := I.fr
  have hr1 : Room n X.A.in1 := Room.in1 hr
  refine PySem.W.len_K hF I.ok.mod.kin J hs hf (wpAny_mono (wpAny_call (SlX.run_at (us := [.ref a]) (ws := [.ref a]) F hr1 I.env0.in1 hx I (.cons rfl .nil) q)) (fun w s' z => ?_) fun _ _ x => x)
  obtain ⟨z', H', I', rz, k, ei, hk, qz⟩ := z
  subst ei
  obtain ⟨t, e⟩ := (show ∃ t, w = Value.int (k : Int) t from rz)
  cases e
  exact ⟨⟨by omega, by omega⟩, .int (k : Int), H', I'.tok _, ⟨_, rfl⟩, qz⟩
end Vk
set_option Elab.async false
set_option linter.all false
set_option maxRecDepth 100000
set_option maxHeartbeats 2000000
namespace Vk
open PySem PySem.Spec PyProof.Rows L2

/-- the context of a body that closes over its class's cell -/
def cxS (CX : CXT) (P : Program) (w : World) (K : PySem.W.Frag) (mg : Str → Option Value) (base : Heap) (N : List Str) (qual : Str) (scope : Scope) (f cc : Addr) (cd : Value) (A : Around) (outer : List Env) (s : Shared) (H : Hp) (E : XK) : Cx where
  prog := P
  w := w
  K := K
  mg := mg
  base := base
  A := A.deeper (PySem.W.ksEnv qual scope s.heap.objs.size f cd cc)
  N := N
  s_0 := s
  H_0 := H
  env := PySem.W.ksEnv qual scope s.heap.objs.size f cd cc
  outer := outer
  stack := PySem.W.ksEnv qual scope s.heap.objs.size f cd cc :: outer
  ex := []
  calm := true
  fn := fun _ => false
  pn := []
  xe := fun e s' => wpAny (model P w) (A.deeper (PySem.W.ksEnv qual scope s.heap.objs.size f cd cc)) (leaving (PySem.W.ksEnv qual scope s.heap.objs.size f cd cc) e) (fun _ s'' => CX outer H s E e s'') (fun e' s'' => CX outer H s E e' s'') s'

/-- what the text has written of an own exception class at C and its __init__ at fI, whose code is at cda, its cell at cc -/
structure SupC (P : Program) (K : PySem.W.Frag) (mg : Str → Option Value) (C cc cda : Addr) : Prop where
  oex : OexC K C
  cell : ∃ cl cld csl, K.lookup cc = some ⟨cl, cld, .cell (some (.ref C)), csl⟩
  code : ∃ (ccl : Value) (cdd : Option Addr) (vs : Array Value) (ccs : Array (Option Value)) (file : Str) (tf : Tok), K.lookup cda = some ⟨ccl, cdd, .fields vs, ccs⟩ ∧ vs[2]? = some (.str file tf) ∧ ((P.main.file : Str) == file) = true
  sub : PySem.W.mroIn K C (.ref C) = some true
  sup : PySem.W.ks_superIn K C C "__init__" = some (some (.builtin "ValueError.__init__"))
  subV : PySem.W.subIn K (.ref C) (.type "ValueError") = some true
  noTop : (P.main.scope.names.lookup ("super" : Str)).isSome = false
  noMg : mg "super" = none
  any : PySem.W.nsIn K cStatics "thirdparty.any" = some none

structure SScope (N : List Str) (sc : Scope) : Prop where
  kind : sc.kind = .function
  co : sc.isCoroutine = false
  gen : sc.isGenerator = false
  nd : N.Nodup
  par : ∀ x ∈ N, sc.names.lookup x = some .local
  nocell : ∀ x ∈ sc.names, x.2 ≠ .cell
  free : ∀ x, sc.names.lookup x = some .free → x = "__class__"
  sup : sc.names.lookup ("super" : Str) = some .globalImplicit
  cls : sc.names.lookup ("__class__" : Str) = some .free

theorem rev_get {N : List Str} {us : List Value} (hlen : N.length = us.length) (nd : N.Nodup) {i : Nat} {x : Str} {u : Value} (h1 : N[i]? = some x) (h2 : us[i]? = some u) : (N.zip us).reverse.lookup x = some u := by
  have key : ∀ (l : List (Str × Value)), (l.map (·.1)).Nodup → ∀ x u, (x, u) ∈ l → l.lookup x = some u := by
    intro l
    induction l with
    | nil => intro _ _ _ h; cases h
    | cons p l ih =>
      intro hn x u hm
      obtain ⟨a, b⟩ := p
      simp only [List.map_cons, List.nodup_cons] at hn
      rcases List.mem_cons.mp hm with e | hm
      · cases e
        simp [List.lookup]
      · have hne : (x == a) = false := by
          have : x ≠ a := fun z => hn.1 (z ▸ List.mem_map_of_mem hm)
          simpa using this
        simp [List.lookup, hne, ih hn.2 x u hm]
  have hz : (N.zip us)[i]? = some (x, u) := by
    rw [List.getElem?_zip_eq_some]
    exact ⟨h1, h2⟩
  refine key _ ?_ _ _ (List.mem_reverse.mpr (List.mem_of_getElem? hz))
  rw [List.map_reverse]
  refine (List.pairwise_reverse (R := fun a b : Str => a ≠ b)).mpr ?_
  refine List.Pairwise.imp (R := fun a b : Str => a ≠ b) (fun h => Ne.symm h) ?_
  rw [List.map_fst_zip (Nat.le_of_eq hlen)]
  exact nd

theorem inv_s {CX : CXT} {P : Program} {w : World} {K : PySem.W.Frag} {mg : Str → Option Value} {base : Heap} {N : List Str} {qual : Str} {scope : Scope} {f cc : Addr} {cd : Value} {A : Around} {outer : List Env} {s : Shared} {H : Hp} {E : XK} {us : List Value} {vs : List V} {h1 : Heap} {tk : Nat} {oc : Value} {ocd : Option Addr} {osl : Array (Option Value)} {cv : Option Value}
    (S : SScope N scope) (hd : A.handled = none) (e0 : Env0 P w K mg base A outer s H) (hl : vs.length = N.length) (r : Vals vs us) (hcell : K.lookup cc = some ⟨oc, ocd, .cell cv, osl⟩)
    (hns : h1.Ns s.heap.objs.size (fun x => (N.zip us).reverse.lookup x)) (hk : ∀ b o, s.heap.get? b = some o → h1.get? b = some o) :
    Inv (cxS CX P w K mg base N qual scope f cc cd A outer s H E) [] (vs.map some) H { s with heap := h1, toks := tk } := by
  have noA : ∀ b : Addr, b ∉ (cxS CX P w K mg base N qual scope f cc cd A outer s H E).ex := fun b z => absurd (show b ∈ ([] : List Addr) from z) (by simp)
  have hcs : ∀ y c, (cxS CX P w K mg base N qual scope f cc cd A outer s H E).env.cells.lookup y = some c → y = "__class__" ∧ c = cc := fun y c h => by
    have h' : List.lookup y [(("__class__" : Str), cc)] = some c := h
    by_cases e : y = "__class__"
    · subst e
      simp [List.lookup] at h'
      exact ⟨rfl, h'.symm⟩
    · have q : (y == ("__class__" : Str)) = false := by simpa using e
      simp [List.lookup, q] at h'
  have hcb : ∃ o, base.get? cc = some o ∧ o.data = .cell cv := ⟨_, e0.mod.kin _ _ hcell, rfl⟩
  obtain ⟨ob, hb1, hb2⟩ := hcb
  refine ⟨⟨e0.mod, S.kind, rfl, rfl, Nat.le_refl _, fun y z c h1 h2 => ?_, fun y hy => ?_, fun y c h _ => absurd h (by show ¬ (false = true); decide), fun _ => hd, Around.frames_deeper e0.frames, .inr ⟨rfl, rfl⟩, fun b z => absurd z (noA b), e0.bs, e0.bsz, fun b _ _ => noA b, fun b z => absurd z (noA b), e0.funs, e0.frf⟩,
    rfl, e0.bare, Un.kept hk, ⟨_, hns, fun i y v h1 h2 h3 => ?_⟩, fun y c h => ?_, e0.hok.fresh (Nat.le_refl _), fun y c h => ?_, fun p hp => absurd (show p ∈ ([] : List (Addr × Obj)) from hp) (by simp), e0.hok.kept hk, ?_⟩
  · exact (hcs y c h1).1.trans (hcs z c h2).1.symm
  · have hy : scope.names.lookup y = some .cell ∨ scope.names.lookup y = some .free := hy
    rcases hy with hy | hy
    · exact absurd rfl (S.nocell _ (PySem.mem_of_lookup hy))
    · have e := S.free y hy
      subst e
      exact ⟨cc, by show List.lookup ("__class__" : Str) [(("__class__" : Str), cc)] = _; simp [List.lookup]⟩
  · have h1' : N[i]? = some y := h1
    have ha : vs[i]? = some v := by
      rw [List.getElem?_map] at h2
      cases e : vs[i]? with
      | none => rw [e] at h2; cases h2
      | some a => rw [e] at h2; cases h2; rfl
    obtain ⟨u, hu, rv⟩ := r.get ha
    exact ⟨u, rv, .inl ⟨S.par y (List.mem_of_getElem? h1'), rev_get (hl.symm.trans r.length) S.nd h1' hu⟩⟩
  · obtain ⟨_, rfl⟩ := hcs y c h
    exact ⟨cv, ob, hk _ _ (e0.bs _ _ hb1).1, hb2⟩
  · obtain ⟨_, rfl⟩ := hcs y c h
    exact (e0.bs _ _ hb1).2
  · show (vs.map some).length = N.length
    rw [List.length_map, hl]

/-- ValueError.__init__ bound to the exception at e, called -/
theorem call_bv {prog : Program} {w : World} {A : Around} {E : Value → Shared → Prop} {h : Heap} {g : Array GenState} {d : Drawn} {t : Nat} {os : OsState}
    {nm q : Str} {C N : Addr} {bs bm : List Value} {hdct : Bool} {sn : List Str} {sub : List Value} {ab : Bool} {col : Option Bool} {dd : Option Addr} {k0 k1 k2 k3 k5 : Option Value}
    {u e t0 : Addr} {rest : List Value} {Q : Value → Shared → Prop}
    (hC : h.get? C = some (excClassObj nm q C N bs bm hdct sn sub ab col dd k0 k1 k2 k3 k5 "ValueError.__new__")) (he : h.get? e = some (HandSPX.excO C t0)) (hu : h.get? u = some (PySem.W.kxs_mw "ValueError.__init__" e)) (hrest : rest.length ≤ sizeLine)
    (hq : ∀ h' t1, (∀ b o, b ≠ e → h.get? b = some o → h'.get? b = some o) → h'.get? e = some (HandSPX.excO C t1) → Q .none ⟨h', g, d, t, os⟩) :
    wpAny (model prog w) A (call (.ref u) rest) Q E ⟨h, g, d, t, os⟩ := by
  refine wpAny_call (codeAny_of_tree ?_)
  show wpAny _ A.in1 (callAny (.ref u) ⟨rest, []⟩) _ _ _
  unfold callAny
  refine wpAny_bind (wpAny_load hu ?_)
  simp only [PySem.W.kxs_mw, show (Value.type "method-wrapper" == Value.type "method" || Value.type "method-wrapper" == Value.type "builtin_function_or_method" || Value.type "method-wrapper" == Value.type "method-wrapper") = true from by decide, if_true]
  refine W.KFB.if_so (by decide) ?_
  refine wpAny_bind (PySem.ESX.check_bound F.excBase_ValueError hC he rfl ?_)
  refine wpAny_bind (wpAny_pure (wpAny_pure ?_))
  refine ⟨plainId_quiet F.excBase_ValueError.init.plain _, codeAny_builtin F.excBase_ValueError.initEntry ?_⟩
  refine PySem.W.exc_init_tree (cls := .ref C) (t0 := t0) (dv := none) (c2 := .none) (c3 := .none) (b4 := .bool false) he hrest fun h' k e' _ => hq h' _ k e'

/-- what super().__init__(e) asks: the argument; the exception, fresh -/
def tSup (C : Addr) (te : TE) : TS := fun D σ H => te σ H fun _ H1 => (∃ a, σ[0]? = some (some (.ref a)) ∧ H1 a = some (exo a C none)) ∧ D.nx σ H1

theorem fn_super {CX : CXT} {P : Program} {w : World} {K : PySem.W.Frag} {mg : Str → Option Value} {base : Heap} {k : Nat} {f C cc cda : Addr} {name qual self : Str} {params : Arguments} {body : List Stmt} {scope : Scope} {dV kV doc pm ct oc : Value} {an od : Option Addr}
    {osl : Array (Option Value)} {N : List Str} {sp : Sp} {parts : List Expr} {rest : List Stmt} {p0 p1 p2 p3 p4 jp : Pos} {ar : Arg} {N' : List Str} {pl : Sem Bool}
    (T : SupC P K mg C cc cda)
    (lk : K.lookup f = some ⟨oc, od, .func (PySem.W.ksFn name qual params body scope dV kV doc pm an (.ref cda) ct cc), osl⟩) (hcd : PySem.W.codeIn K (.ref cda) qual = true) (S : SScope N scope) (hN : N = self :: N')
    (hpar : (params.posonlyargs ++ params.args).head? = some ar) (har : ar.arg = self)
    (hbd : body = .Expr (.Call (.Attribute (.Call (.Name "super" p0) [] [] p1) "__init__" p2) [.JoinedStr parts jp] [] p3) p4 :: rest)
    (hcall : ∀ env : Env, eval (.Call (.Attribute (.Call (.Name "super" p0) [] [] p1) "__init__" p2) [.JoinedStr parts jp] [] p3) env = (do
      let ov ← attributeBase (.Call (.Name "super" p0) [] [] p1) "__init__" env (eval (.Call (.Name "super" p0) [] [] p1) env)
      standAt p2.atName
      let (f, first) ← holding [ov] (getMethod ov "__init__" pl)
      callWith p3 f first (backTo p3 (starEach [.JoinedStr parts jp] env)) []))
    (hsw : ∀ env : Env, swapsWith (.Call (.Attribute (.Call (.Name "super" p0) [] [] p1) "__init__" p2) [.JoinedStr parts jp] [] p3) none p4.line env = pure false)
    (len : ∀ vs H Q E, sp vs H Q E → vs.length = N.length)
    (hbody : ∀ (A : Around) (outer : List Env) (s : Shared) (H : Hp) (vs : List V) (Q : VK) (E : XK), Room k (A.deeper (PySem.W.ksEnv qual scope s.heap.objs.size f (.ref cda) cc)) → sp vs H Q E →
      ∃ te t, PE (cxS CX P w K mg base N qual scope f cc (.ref cda) A outer s H E) (.JoinedStr parts jp) te ∧ PSs (cxS CX P w K mg base N qual scope f cc (.ref cda) A outer s H E) rest t ∧
        (∃ a, vs[0]? = some (.ref a) ∧ H a = some (exo a C none)) ∧ tSeq (tSup C te) t { nx := fun _ H' => Q .non H', rt := Q } (vs.map some) H) :
    FnOk P w K mg base CX (k + 1) f (PySem.W.ksFn name qual params body scope dV kV doc pm an (.ref cda) ct cc) N sp := by
  refine ⟨len, fun A outer s H args us vs Q E hr e0 hb r hsp => ?_⟩
  have hl := len _ _ _ _ hsp
  have KX : K.In s.heap := e0.mod.kin.keeps fun b o e => (e0.bs b o e).1
  have lim : s.heap.NoLimit := e0.mod.nolimit.keeps fun b o e => (e0.bs b o e).1
  obtain ⟨cl, cld, csl, hcell⟩ := T.cell
  obtain ⟨ccl, cdd, vsC, ccs, file, tf, hcode, hvs2, hfile⟩ := T.code
  obtain ⟨nm, q, Nc, bs, bm, sn, sub, ab, col, dd, k0, k1, k2, k3, k5, hC, hbm⟩ := T.oex.cls
  obtain ⟨te, t, hpe, hps, ⟨a, ha0, hea⟩, hq⟩ := hbody A outer s H vs Q E (hr.deeper _) hsp
  refine ks_codeAny_call_defAt (fd := PySem.W.ksFn name qual params body scope dV kV doc pm an (.ref cda) ct cc) (body := body) (binds := N.zip us) hr.depth (KX _ _ lk) rfl lim (PySem.W.codeRec_of KX hcd) rfl hb S.nocell (fun y hy => S.par y.1 (List.of_mem_zip (a := y.1) (b := y.2) hy).1) (fun h1 hns hk => ?_) S.co S.gen S.kind
  have I : Inv (cxS CX P w K mg base N qual scope f cc (.ref cda) A outer s H E) [] (vs.map some) H { s with heap := h1, toks := s.toks + (N.zip us).length } := inv_s S hr.hd e0 hl r hcell hns hk
  subst hbd
  subst hN
  have ka0 : ∃ u0 us', us = u0 :: us' := by
    cases us with
    | nil => have q := r.length; rw [hl] at q; exact absurd q (by simp)
    | cons u0 us' => exact ⟨u0, us', rfl⟩
  obtain ⟨u0, us', rfl⟩ := ka0
  have hu0 : u0 = Value.ref a := by
    cases r with
    | cons r0 rt =>
      rw [List.getElem?_cons_zero] at ha0
      cases ha0
      exact r0
  subst hu0
  have hL : ((self :: N').zip (Value.ref a :: us')).reverse.lookup self = some (Value.ref a) := rev_get (by rw [← r.length]; exact hl.symm) S.nd (i := 0) rfl rfl
  have hself : scope.names.lookup self = some .local := S.par self List.mem_cons_self
  have hne : a ≠ C := fun z => by
    obtain ⟨t1, ho⟩ := exo_at e0.hok hea
    rw [z, KX _ _ hC] at ho
    cases ho
  generalize hs1 : s.toks + ((self :: N').zip (Value.ref a :: us')).length = tk1 at I ⊢
  obtain ⟨hp0, g, d, tk, os⟩ := s
  let env := PySem.W.ksEnv qual scope hp0.objs.size f (.ref cda) cc
  show PySem.wpAt (model P w) (A.deeper env) (.func (.Expr (.Call (.Attribute (.Call (.Name "super" p0) [] [] p1) "__init__" p2) [.JoinedStr parts jp] [] p3) p4 :: rest) env) (execs (.Expr (.Call (.Attribute (.Call (.Name "super" p0) [] [] p1) "__init__" p2) [.JoinedStr parts jp] [] p3) p4 :: rest) env) _ _ _
  have hint : interactive env = false := by
    unfold interactive
    rw [show env.scope.kind = ScopeKind.function from S.kind]
    rfl
  refine ks_wpAt_execs_cons (ks_wpAt_Expr_any (ks_wpAt_MethodCall (pl := pl) ?_ (hcall env)) hint (hsw env))
  · refine ks_wpAt_super_base (env := env) S.sup S.cls (by decide) rfl (hk _ _ (KX _ _ lk)) rfl hpar rfl (hk _ _ (KX _ _ hcode)) rfl hvs2 hfile T.noTop ?_
    obtain ⟨mb, hb1, hb2⟩ := I.mod.blt
    have hbs : mb ("super" : Str) = some (.type "super") := (hb2 _ (by decide)).trans (by decide +kernel)
    refine PySem.W.ks_loadName_global (env := env) S.kind S.sup (Calls.loadGlobal_builtin (env := env) (I.mod.glob.keeps I.bk) T.noMg (hb1.keeps I.bk) hbs ⟨rfl, ?_⟩)
    refine wpAny_loadName_free (env := env) S.kind S.cls rfl ⟨_, hk _ _ (KX _ _ hcell), rfl⟩ ?_
    rw [har]
    refine wpAny_loadName_local (env := env) S.kind hself hns hL ?_
    have KX1 : K.In h1 := KX.keeps hk
    have hC1 := KX1 _ _ hC
    obtain ⟨t1, hx1⟩ := exo_at I.hok hea
    have hcl : PySem.W.clsIn K C = some { name := nm, bases := bs, mro := .ref C :: bm, ns := Nc, qualname := q, hasDict := true, slotNames := sn, subclasses := sub, abstract := ab, collection := col, hasDel := false } := by unfold PySem.W.clsIn; rw [hC] <;> rfl
    have hsup := T.sup
    unfold PySem.W.ks_superIn at hsup
    rw [hcl] at hsup
    refine ks_wpAny_isType_cls hC1 rfl ⟨rfl, ?_⟩
    refine ks_wpAny_call_super hC1 rfl hx1 rfl (fun c z => by cases z) (PySem.W.looks_mroIn KX1 T.sub) (fun h2 e2 k2 => ?_)
    have I1 : Inv (cxS CX P w K mg base (self :: N') qual scope f cc (.ref cda) A outer ⟨hp0, g, d, tk, os⟩ H E) [] (vs.map some) H ⟨h2, g, d, tk1, os⟩ := I.kept (t' := tk1) k2
    have KX2 : K.In h2 := KX1.keeps k2
    have J2 : PySem.W.InstAt h2 a ({ cls := .ref C, dict := none, data := .fields #[.ref t1, .none, .none, .none, .bool false, .none] } : Obj) C none := ⟨k2 _ _ hx1, rfl, rfl, trivial⟩
    refine PySem.W.kxs_getMethod PySem.W.kxs_ValueError e2 (PySem.W.looks_opaque KX2 T.any) (fun A Q E s k q => wpAny_bind ((PySem.W.looks_clsIn KX2 hcl) A _ E s k (wpAny_pure q))) rfl KX2 hsup (J2.type.andThen (PySem.W.looks_subIn KX2 T.subV)) hne (by decide) ?_
    have fp := I1.fpOk (b := h2.objs.size) (H' := H) (Nat.le_refl _) (I1.hok.fresh (Nat.le_refl _))
    have I2 : Inv (cxS CX P w K mg base (self :: N') qual scope f cc (.ref cda) A outer ⟨hp0, g, d, tk, os⟩ H E) [(h2.objs.size, PySem.W.kxs_mw "ValueError.__init__" a)] (vs.map some) H ⟨h2.push (PySem.W.kxs_mw "ValueError.__init__" a), g, d, tk1 + 1, os⟩ :=
      (I1.kept (t' := tk1 + 1) (h' := h2.push (PySem.W.kxs_mw "ValueError.__init__" a)) fun b o z => Heap.get?_push_of_some _ z).pins_of fun p hp => by
        have ep : p = (h2.objs.size, PySem.W.kxs_mw "ValueError.__init__" a) := by simpa using hp
        subst ep
        exact ⟨Heap.get?_push_at rfl rfl, fp.1, fp.2.1, fp.2.2.1, fun v z => by cases z⟩
    have hst : starEach [Expr.JoinedStr parts jp] env = (false, eval (.JoinedStr parts jp) env) :: starEach [] env := rfl
    rw [hst]
    refine PySem.W.kxs_callWith (i := "ValueError.__init__") (x := a) (by rfl) (Calls.evalArgs_plain ?_)
    refine Calls.spliced_cons (thn (hpe.run [(h2.objs.size, PySem.W.kxs_mw "ValueError.__init__" a)] _ (vs.map some) H _ I2 hq) fun u1 s3 hh => Calls.spliced_nil ?_)
    obtain ⟨v1, H3, I3, r3, ⟨a', ea', hea3⟩, q3⟩ := hh
    have ea2 : a' = a := by
      rw [List.getElem?_map, ha0] at ea'
      cases ea'
      rfl
    subst ea2
    have hu3 : s3.heap.get? h2.objs.size = some (PySem.W.kxs_mw "ValueError.__init__" a') := (I3.pin (h2.objs.size, PySem.W.kxs_mw "ValueError.__init__" a') (by simp)).1
    refine ⟨hu3, ?_⟩
    obtain ⟨t3, hx3⟩ := exo_at I3.hok hea3
    have KX3 := I3.kIn
    have hlen1 : [u1].length ≤ sizeLine := by
      rw [sizeLine_eq]
      exact (by decide : 1 ≤ 16777216)
    obtain ⟨hp3, g3, d3, tk3, os3⟩ := s3
    refine call_bv (KX3 _ _ hC) hx3 hu3 hlen1 fun h4 t4 k4 hx4 => ?_
    have J := I3.write (t' := tk3) (x := a') (e := a') (o := exo a' C none) (by rw [hea3]; exact True.intro) (.inl rfl) k4 ⟨_, hx4⟩ (exo_ok hx4)
    have eu : upd H3 a' (exo a' C none) = H3 := by
      funext b
      by_cases hb : b = a'
      · rw [hb, upd_same, hea3]
      · rw [upd_ne hb]
    rw [eu] at J
    have J0 : Inv (cxS CX P w K mg base (self :: N') qual scope f cc (.ref cda) A outer ⟨hp0, g, d, tk, os⟩ H E) [] (vs.map some) H3 ⟨h4, g3, d3, tk3, os3⟩ := Inv.unpinned (pins := []) J
    refine PySem.wpAt_of_wpAny ?_
    refine wpAny_mono (hps.run [] _ (vs.map some) H3 _ J0 q3) (fun fl s' hs => ?_) fun e s' hs => hs
    have fin : ∀ {σ' : L2.St} {H' : Hp} {v : V} {u : Value}, Inv (cxS CX P w K mg base (self :: N') qual scope f cc (.ref cda) A outer ⟨hp0, g, d, tk, os⟩ H E) [] σ' H' s' → RelV v u → Q v H' → CE outer P w H ⟨hp0, g, d, tk, os⟩ Q u s' :=
      fun {σ' H' v u} J rv q => ⟨v, H', J.os, J.bare, J.base, J.hok, rv, q⟩
    cases fl with
    | ret u =>
      obtain ⟨v, σ', H', J, rv, q⟩ := hs
      exact fin J rv q
    | next =>
      obtain ⟨σ', H', J, q⟩ := hs
      exact fin (v := V.non) (u := Value.none) J rfl q
    | brk =>
      obtain ⟨_, _, _, q⟩ := hs
      exact False.elim q
    | cont =>
      obtain ⟨_, _, _, q⟩ := hs
      exact False.elim q
end Vk
set_option Elab.async false
set_option linter.all false
set_option maxRecDepth 100000
set_option maxHeartbeats 4000000
namespace Vk
open PySem PySem.Spec PyProof.Rows L2
/-! isinstance of a caught error that has a dict -/
section
open PySem.W
variable {prog : Program} {w : World} {A : Around} {E : Value → Shared → Prop} {s : Shared} {K : Frag} {x D : Addr} {ox od : Obj}
theorem cls_of_exc {Q : Option Value → Shared → Prop} (T : ExcC K D) (X : K.In s.heap) (I : InstAt s.heap x ox D (some od)) (h : Q (some (.ref D)) { s with toks := s.toks + 1 }) : wpAny (model prog w) A (getAttr? (.ref x) "__class__") Q E s := by
  have hf : findObj K D (some od) "__class__" = some (.bind (.builtin "getset_descriptor.__get__") (.builtin "object.__class__")) :=
    findObj_data (by obtain ⟨cd, hc, _⟩ := any_some T.hd; rw [hc]; rfl) T.ha T.hn T.ht
  obtain ⟨hp, g, d, t, os⟩ := s
  have K0 := I.type (M := model prog w)
  have K1 := looks_findIn (M := model prog w) X T.hg
  have K2 := looks_findIn (M := model prog w) X T.hk
  have K3 := looks_find (M := model prog w) X I hf
  have sub : Looks (model prog w) hp (isInstance (.ref x) (.type "BaseException")) true := K0.andThen (looks_subIn X T.hs)
  have q0 : (false && onTheHeap (Value.builtin "BaseException.__getattribute__")) = false := rfl
  have q2 : (Value.builtin "BaseException.__getattribute__" == Value.builtin "object.__getattribute__") = false := by decide +kernel
  have q1 : (onTheHeap (Value.ref D) && Value.builtin "BaseException.__getattribute__" == Value.builtin "object.__getattribute__") = false := by rw [q2]; rfl
  unfold getAttr? getAttrBy? getAttrBy
  refine wpAny_bind (wpAny_mkText (wpAny_bind (wpAny_attempt (wpAny_holding (wpAny_bind (K0.at (wpAny_bind (K1.at ?_))))))))
  show wpAny _ _ (if (onTheHeap (Value.ref D) && Value.builtin "BaseException.__getattribute__" == Value.builtin "object.__getattribute__") = true then _ else _) _ _ _
  rw [q1, if_neg Bool.false_ne_true]
  unfold getAttrByItsOwn hookBefore
  refine wpAny_bind ?_
  rw [if_pos (show onTheHeap (Value.ref D) = true from rfl)]
  refine K2.at (wpAny_bind (wpAny_attempt (wpAny_holding ?_)))
  unfold callGetattribute
  rw [q0, if_neg Bool.false_ne_true]
  unfold boundAndCalled
  rw [PySem.F.excAttr_ValueError.ga.bind (.ref x)]
  refine wpAny_bind (wpAny_pure ?_)
  show wpAny _ _ (call (.builtin "BaseException.__getattribute__") [.ref x, .str "__class__" t]) _ _ _
  refine wpAny_call (codeAny_call_builtin PySem.F.excAttr_ValueError.ga.plain PySem.F.entry_bexc_ga ?_)
  refine @check_slot (model prog w) _ _ ⟨hp, g, d, t + 1, os⟩ "BaseException.__getattribute__" "BaseException" "__getattribute__" (.ref x) [.str "__class__" t] [] _ (by decide +kernel) (by decide +kernel) sub (PySem.F.args_bexc_ga (.ref x) (.str "__class__" t)) ?_
  unfold Builtin.«object.__getattribute__»
  refine wpAny_bind (wpAny_of_eq (a := ((Value.ref x : Value), [Value.str "__class__" t])) (by first | rfl | (simp only [slotArgs]; rfl)) ?_)
  refine wpAny_bind (wpAny_pure (wpAny_bind (K0.at (wpAny_bind (K3.at ?_)))))
  show wpAny _ _ (holding [Value.builtin "object.__class__"] (call (.builtin "getset_descriptor.__get__") [.builtin "object.__class__", .ref x, .ref D]) >>= ret) _ _ _
  refine wpAny_bind (wpAny_holding (wpAny_call (class_get (s := ⟨hp, g, d, t + 1, os⟩) (ox := ox) (od := some od) X I T.hm (wpAny_pure ?_))))
  show wpAny _ _ (handedOut (.ref D)) _ _ _
  rw [handedOut_of (v := .ref D) rfl]
  first
    | exact wpAny_pure (wpAny_pure h)
    | exact wpAny_pure h
    | exact wpAny_pure (wpAny_bind (wpAny_pure (wpAny_pure h)))
theorem kit_excD (T : ExcC K D) : KitX K (.ref x) (.ref D) (fun h => InstAt h x ox D (some od)) where
  ty := fun _ _ _ I => I.type
  it := fun _ _ X _ => by
    obtain ⟨cdD, hcD, _⟩ := any_some T.hd
    unfold clsIn at hcD
    split at hcD
    · rename_i c1 d1 cd1 sl1 ho
      intro A1 Q1 E1 s1 k q
      unfold isType loadHead
      exact wpAny_bind (wpAny_loadPart (k _ _ (X _ _ ho)) (wpAny_pure q))
    · cases hcD
  ne := fun h tp dd its n sl X htp => by
    obtain ⟨cdD, hcD, _⟩ := any_some T.hd
    refine Bool.eq_false_iff.mpr fun q => ?_
    have e : D = tp := Value.ref.inj (beq_iff_eq.mp q)
    subst e
    unfold clsIn at hcD
    split at hcD
    · rename_i c1 d1 cd1 sl1 ho
      have z := (X _ _ ho).symm.trans htp
      cases z
    · cases hcD
  ca := fun X I k => cls_of_exc T X I k
end
/-- the caught error at a, of the class at D, its dict at dd: it can be asked for its class -/
theorem exc_inst {X : Cx} {a D dd : Addr} {oe : Obj} {pn : List (Addr × Obj)} {pins : List (Addr × Obj)} {σ : L2.St} {H : Hp} {s : Shared} {fs : List (Str × V)} (hz : Zc (.ref D) (some dd) oe) (hf : ∃ vs, oe.data = .fields vs)
    (I : Inv (X.suite a ((a, oe) :: pn)) pins σ H s) (hd : H dd = some (.xd fs)) : ∃ od, PySem.W.InstAt s.heap a oe D (some od) := by
  obtain ⟨ha, _⟩ := I.pin (a, oe) (List.mem_append_left _ List.mem_cons_self)
  obtain ⟨vs, hv⟩ := hf
  have hx : ObjOk X.prog X.w H s.heap dd (.xd fs) := I.hok dd _ hd
  obtain ⟨mA, hns, hr⟩ := hx
  obtain ⟨od, ho, hl⟩ := lookIn_ns hns
  exact ⟨od, ha, hz.1, by unfold PySem.W.notCls; rw [hv] <;> rfl, by rw [hz.2]; exact ho⟩
/-- isinstance(e, c), isinstance(e, (c1, c2)) in the suite: t the class of e as a value -/
def rIsX (K : PySem.W.Frag) (a : Addr) (cls : Value) (d : Option Addr) : List V → Hp → VK → Prop := fun xs H Q =>
  ∃ (D dd : Addr) (fs : List (Str × V)), cls = .ref D ∧ d = some dd ∧ ExcC K D ∧ H dd = some (.xd fs) ∧
    ((∃ (c : V) (u : Value) (b : Bool), xs = [.ref a, c] ∧ ClsV c u ∧ PySem.W.kitOne K (.ref D) u = some b ∧ Q (.bl b) H) ∨
      ∃ (tp : Addr) (cs : List V) (us : List Value) (b : Bool), xs = [.ref a, .ref tp] ∧ H tp = some (.tup cs) ∧ Paired ClsV cs us ∧ PySem.W.kitAny K (.ref D) us = some b ∧ Q (.bl b) H)
theorem call_isX {X : Cx} {a : Addr} {cls : Value} {d : Option Addr} {oe : Obj} {pn : List (Addr × Obj)} (hz : Zc cls d oe) (hf : ∃ vs, oe.data = .fields vs) : CallR (X.suite a ((a, oe) :: pn)) (.builtin "isinstance") (rIsX X.K a cls d) := by
  intro pins s σ H xs us Q I r h
  obtain ⟨D, dd, fs, rfl, rfl, C, hd, h⟩ := h
  obtain ⟨od, J⟩ := exc_inst hz hf I hd
  rcases h with ⟨c, u, b, rfl, k, e, q⟩ | ⟨tp, cs, ws, b, rfl, hT, k, e, q⟩
  · obtain ⟨u1, u2, rfl, r1, r2⟩ := vals2 r
    cases (show u1 = Value.ref a from r1)
    have e2 := k.eq r2
    subst e2
    exact PySem.W.kia_one (kit_excD C) I.kIn J e (fun z => nomatch z) fun tk => ⟨.bl b, H, I.tok tk, rfl, q⟩
  · obtain ⟨u1, u2, rfl, r1, r2⟩ := vals2 r
    cases (show u1 = Value.ref a from r1)
    cases (show u2 = Value.ref tp from r2)
    obtain ⟨_, its, rv, o, h1, h2, n, h3⟩ := (show ObjOk X.prog X.w H s.heap tp (.tup cs) from I.hok tp _ hT)
    have e3 := ClsV.all k rv
    subst e3
    obtain ⟨oc, od', dt, sl⟩ := o
    simp only at h2 h3
    subst h2 h3
    exact PySem.W.kia_tup (kit_excD C) I.kIn J h1 e (fun z => nomatch z) fun tk => ⟨.bl b, H, I.tok tk, rfl, q⟩

/-! x == y by an own __eq__ -/
def rOwnI (K : PySem.W.Frag) (C : Addr) (sp : Sp) (E : XK) : R2 := fun x y H Q => ∃ a dx fs b C' dy gs, x = .ref a ∧ y = .ref b ∧ H a = some (.ins C dx fs) ∧ H b = some (.ins C' dy gs) ∧ PySem.W.notFirst K C (.ref C') = true ∧ sp [x, y] H Q E
section
variable {X : Cx} {CX : CXT} {k : Nat} {g C : Addr} {fd : FuncData} {ps : List Str} {sp : Sp} {E : XK}
theorem op_ownI {op : CmpOp} (hop : ∀ a b, compareOp op a b = richCompare op a b) (hs : PySem.W.findIn X.K (.ref C) (cmpInfo op).2.1 = some (some (.ref g))) (hf : PySem.W.isFn X.K (.ref g) = true) (F : FnOk X.prog X.w X.K X.mg X.base CX k g fd ps sp)
    (hr : Room k X.A) (hb : Binds X.K fd ps []) (hx : Passes CX X E) : OpR X (compareOp op) (rOwnI X.K C sp E) := by
  intro pins s σ H x y v u Q I rx ry h
  obtain ⟨a, dx, fs, b, C', dy, gs, rfl, rfl, ha, hbb, hn, q⟩ := h
  cases (show v = Value.ref a from rx)
  cases (show u = Value.ref b from ry)
  obtain ⟨mA, O, _⟩ := ins_get I.hok ha
  obtain ⟨od, J, _⟩ := O.look
  obtain ⟨mB, O2, _⟩ := ins_get I.hok hbb
  obtain ⟨od2, J2, _⟩ := O2.look
  obtain ⟨m, hF⟩ := I.fr
  rw [hop]
  refine PySem.W.cmp_K (op := op) (tb := .ref C') hr.units0 hF I.ok.mod.kin J J2.type hn hs hf ?_
  refine wpAny_mono (run_fn (us := [.ref a, .ref b]) (vs := [.ref a, .ref b]) F hr hb .nil hx I (.cons rfl (.cons rfl .nil)) (by rw [List.append_nil]; exact q)) (fun w s1 z => ?_) fun _ _ x => x
  obtain ⟨z1, H1, I1, rz, qz⟩ := z
  exact SlX.cmpback rz ⟨z1, H1, I1, rz, qz⟩
end

/-! C(e, ..) whose __init__ may raise, in a try: what is raised is wished for at the slots -/
def tMakeS (C : Addr) (sp : Sp) (dvs : List V) (E : L2.St → XK) (t : TA) : TE := fun σ H Q => t σ H fun vs H1 => ∀ x dx, H1 x = none → H1 dx = none → dx ≠ x →
  sp (.ref x :: (vs ++ dvs)) (upd (upd H1 dx (.own x)) x (.ins C dx [])) (fun v H2 => v = .non ∧ Q (.ref x) H2) (E σ)
section
variable {X : Cx} {CX : CXT} {k : Nat} {f C : Addr} {fd : FuncData} {ps : List Str} {sp : Sp} {dvs : List V} {ds : List Value} {E : L2.St → XK} {x : Str} {p pos : Pos} {e : Expr} {es : List Expr} {t : TA}
theorem pe_makeS (M : Mk X.K C f) (F : FnOk X.prog X.w X.K X.mg X.base CX k f fd ps sp) (hr : Room (k + 1) X.A) (hg : Gl X x) (hm : X.mg x = some (.ref C)) (hb : Binds X.K fd ps ds) (hd : Vals dvs ds) (hx : ∀ σ, PassesAt CX X σ (E σ))
    (ha : PA X (e :: es) t) (hdb : (x == ("__debug__" : Str)) = false := by decide) (he : starEach (e :: es) X.env = (false, eval e X.env) :: starEach es X.env := by rfl) (hpl : (backTo pos (starEach es X.env)).any (·.1) = false := by rfl) :
    PE X (.Call (.Name x p) (e :: es) [] pos) (tMakeS C sp dvs E t) := by
  refine ⟨fun pins s σ H Q I h => ?_⟩
  refine wpAny_Call_Name_kw (ld_glob I hg hm ?_ hdb)
  refine PySem.W.callWith_K (h₀ := X.base) I.ok.mod.kin M.kp (thn (ha.run pos pins s σ H _ I h) fun us s1 hh => ?_) he hpl
  obtain ⟨vs, H1, I1, r, q⟩ := hh
  refine ⟨I1.kIn, ?_⟩
  show wpAny _ _ (call (.ref C) us) _ _ _
  have hq := q (s1.heap.objs.size + 1) s1.heap.objs.size (I1.hok.fresh (Nat.le_succ _)) (I1.hok.fresh (Nat.le_refl _)) (Nat.ne_of_lt (Nat.lt_succ_self _))
  have I2 := Inv.made (C := C) I1
  have r2 : Vals (V.ref (s1.heap.objs.size + 1) :: (vs ++ dvs)) (Value.ref (s1.heap.objs.size + 1) :: (us ++ ds)) := .cons rfl (r.append hd)
  have hl : (Value.ref (s1.heap.objs.size + 1) :: us ++ ds).length = ps.length := by
    have e := r2.length
    rw [F.len _ _ _ _ hq] at e
    exact e.symm
  refine wpAny_call (make_map (f := f) I1.kIn M.makes M.init (beq_iff_eq.mp M.fn) (codeAny_mono (F.run _ X.stack _ _ ⟨Value.ref (s1.heap.objs.size + 1) :: us, []⟩ (Value.ref (s1.heap.objs.size + 1) :: (us ++ ds)) _ _ (E σ) (hr.make C us [])
    (I2.env0.make C us []) (hb _ (Value.ref (s1.heap.objs.size + 1) :: us) I2.kIn hl) r2 hq) fun r3 s3 hq3 => ?_))
  cases r3 with
  | error e => exact hx σ _ _ _ e s3 I2 hq3
  | ok fl =>
    cases fl with
    | ret u =>
      obtain ⟨v, H3, I3, rv, ev, q3⟩ := I2.after hq3
      subst ev
      exact ⟨rv, ⟨V.ref (s1.heap.objs.size + 1), H3, I3, rfl, q3⟩⟩
    | next => exact False.elim hq3
    | brk => exact False.elim hq3
    | cont => exact False.elim hq3
end
end Vk
set_option Elab.async false
set_option linter.all false
set_option maxRecDepth 100000
set_option maxHeartbeats 4000000
namespace Vk
open PySem PySem.Spec PyProof.Rows L2
/-- what a class says of its own operator, the right hand side a builtin T -/
structure BinF (K : PySem.W.Frag) (C g : Addr) (op : Operator) (T : String) : Prop where
  sf : PySem.W.selfFirst K C = true
  own : PySem.W.findIn K (.ref C) (PySem.dunder op.info.2) = some (some (.ref g))
  fn : PySem.W.isFn K (.ref g) = true
  nr : PySem.W.findIn K (.ref C) (dunderR op.info.2) = some none
  t1 : ∃ fo, PySem.W.findIn K (.type T) (PySem.dunder op.info.2) = some fo
  t2 : ∃ ro, PySem.W.findIn K (.type T) (dunderR op.info.2) = some ro
  sub : PySem.W.subIn K (.type T) (.ref C) = some false
section
variable {prog : Program} {w : World} {A : Around} {E : Value → Shared → Prop} {s : Shared} {K : PySem.W.Frag} {x C L g : Addr} {h0 : Heap} {m : Str → Option Value} {ox : Obj} {od : Option Obj} {T : String}
theorem bin_any {op : Operator} {b : Value} {Q : Value → Shared → Prop} (F : PyProof.Rows.Fr h0 L s.heap m) (X0 : K.In h0) (I : PySem.W.InstAt s.heap x ox C od) (lb : PySem.W.Looks (model prog w) s.heap (typeOf b) (.type T)) (B : BinF K C g op T)
    (go : wpAny (model prog w) A (call (.ref g) [.ref x, b]) (PySem.W.CmpBack Q) E s) : wpAny (model prog w) A (binaryOp op (.ref x) b) Q E s := by
  have Xs := X0.keeps F.keep
  obtain ⟨B1, B2, B3, B4, ⟨fo, B5⟩, ⟨ro, B6⟩, B7⟩ := B
  obtain ⟨cd, rest, hcd, hm⟩ := PySem.W.ksp_first B1
  obtain ⟨sym, n2, hi⟩ : ∃ sym n2, op.info = (sym, n2) := ⟨_, _, rfl⟩
  simp only [hi] at B2 B4 B5 B6
  have run := PySem.W.ksp_try Xs I B2 B3 go
  have l1 := I.type (M := model prog w)
  have l3 := PySem.W.fills_K (M := model prog w) Xs hcd hm B2
  have l4 := PySem.W.ksp_fillsT (M := model prog w) Xs B5 B6
  have l5 := PySem.W.looks_subIn (M := model prog w) Xs B7
  have l6 := PySem.W.ksp_inPy (M := model prog w) Xs B2 B4 (.inl rfl)
  have l7 : PySem.W.Looks (model prog w) s.heap (numberSlotInPython (.type T) n2) false := .of_pure rfl
  have l8 := PySem.W.looks_findIn (M := model prog w) Xs B6
  generalize ((fo.isSome && !isSeqSlot fo) || (ro.isSome && !isSeqSlot ro)) = rgt at l4
  have ne : (Value.ref C == Value.type T) = false := rfl
  cases s
  simp only [binaryOp, hi]
  refine wpAny_holding (wpAny_bind ?_)
  unfold binaryOp1
  refine wpAny_bind (l1.at (wpAny_bind (lb.at (wpAny_bind (l3.at ?_)))))
  simp only [ne, Bool.false_eq_true, if_false]
  cases rgt <;>
  · ksp_lk
    refine wpAny_mono run (fun r s' z => ?_) fun _ _ e => e
    obtain ⟨v, rfl, q⟩ := z
    ksp_lk
    exact q
end
theorem looks_tuple {M : Model} {h : Heap} {p : Addr} {o : Obj} (e : h.get? p = some o) (c : o.cls = .type "tuple") : PySem.W.Looks M h (typeOf (.ref p)) (.type "tuple") :=
  fun _ _ _ _ k q => wpAny_typeOf ⟨o, k _ _ e, c⟩ q
/-! x op y by an own method, y a text or a tuple; what it raises is wished for at the slots -/
def tBinI (K : PySem.W.Frag) (C : Addr) (sp : Sp) (E : L2.St → XK) (ta tb : TE) : TE := fun σ H Q => ta σ H fun x H1 => tb σ H1 fun y H2 => ∃ a dx fs, x = .ref a ∧ H2 a = some (.ins C dx fs) ∧ ((∃ z, y = .str z) ∨ ∃ p xs, y = .ref p ∧ SqT K H2 p xs) ∧ sp [x, y] H2 Q (E σ)
section
variable {X : Cx} {CX : CXT} {k : Nat} {g C : Addr} {fd : FuncData} {ps : List Str} {sp : Sp} {E : L2.St → XK} {pos : Pos} {e f : Expr} {ta tb : TE} {op : Operator}
theorem pe_binI (B1 : BinF X.K C g op "str") (B2 : BinF X.K C g op "tuple") (F : FnOk X.prog X.w X.K X.mg X.base CX k g fd ps sp) (hr : Room k X.A) (hb : Binds X.K fd ps []) (hx : ∀ σ, PassesAt CX X σ (E σ)) (he : PE X e ta) (hf : PE X f tb) :
    PE X (.BinOp e op f pos) (tBinI X.K C sp E ta tb) := by
  refine ⟨fun pins s σ H Q I h => ?_⟩
  refine wpAny_BinOp (binT he hf (R := fun x y H2 => ∃ a dx fs, x = .ref a ∧ H2 a = some (.ins C dx fs) ∧ ((∃ z, y = .str z) ∨ ∃ p xs, y = .ref p ∧ SqT X.K H2 p xs) ∧ sp [x, y] H2 Q (E σ)) I h fun v u s2 x y H2 I2 rx ry q => ?_)
  obtain ⟨a, dx, fs, rfl, ha, hy, q⟩ := q
  cases (show v = Value.ref a from rx)
  obtain ⟨mA, O, _⟩ := ins_get I2.hok ha
  obtain ⟨od, J, _⟩ := O.look
  obtain ⟨m, hF⟩ := I2.fr
  have run : wpAny (model X.prog X.w) X.A (call (.ref g) [.ref a, u]) (PySem.W.CmpBack (EP X pins σ Q)) X.xe s2 := by
    refine wpAny_mono (run_fnS (us := [.ref a, u]) (vs := [.ref a, y]) F hr hb (hx σ) I2 (.cons rfl (.cons ry .nil)) q) (fun w s1 z => ?_) fun _ _ z => z
    obtain ⟨z1, H1, I1, rz, qz⟩ := z
    exact SlX.cmpback rz ⟨z1, H1, I1, rz, qz⟩
  rcases hy with ⟨z, rfl⟩ | ⟨p, xs, rfl, hp⟩
  · obtain ⟨t, rfl⟩ := ry
    exact bin_any hF I2.ok.mod.kin J (.of_pure rfl) B1 run
  · cases (show u = Value.ref p from ry)
    obtain ⟨its, _, ⟨o, ho, hc, _⟩, _⟩ := I2.tuple hp
    exact bin_any hF I2.ok.mod.kin J (looks_tuple ho hc) B2 run
/-! y in x by an own __contains__ that never raises -/
def rInI (C : Addr) (sp : Sp) (E : XK) : R2 := fun y x H Q => ∃ a dx fs, x = .ref a ∧ H a = some (.ins C dx fs) ∧ sp [x, y] H (fun z H' => ∃ b, z = .bl b ∧ Q (.bl b) H') E
theorem op_inI {E : XK} (hs : PySem.W.findIn X.K (.ref C) "__contains__" = some (some (.ref g))) (hf : PySem.W.isFn X.K (.ref g) = true) (F : FnOk X.prog X.w X.K X.mg X.base CX k g fd ps sp) (hr : Room k X.A) (hb : Binds X.K fd ps []) (hx : Passes CX X E) :
    OpR X (compareOp .In) (rInI C sp E) := by
  intro pins s σ H y x u v Q I ry rx h
  obtain ⟨a, dx, fs, rfl, ha, q⟩ := h
  cases (show v = Value.ref a from rx)
  obtain ⟨mA, O, _⟩ := ins_get I.hok ha
  obtain ⟨od, J, _⟩ := O.look
  obtain ⟨m, hF⟩ := I.fr
  refine PySem.W.in_K hF I.ok.mod.kin J hs hf ?_
  refine wpAny_mono (run_fn (us := [.ref a, u]) (vs := [.ref a, y]) F hr hb .nil hx I (.cons rfl (.cons ry .nil)) (by rw [List.append_nil]; exact q)) (fun w s1 z => ?_) fun _ _ z => z
  obtain ⟨z1, H1, I1, rz, b, rfl, qz⟩ := z
  cases (show w = Value.bool b from rz)
  exact wpAny_truthy_bool ⟨.bl b, H1, I1, rfl, qz⟩
/-! x[y] by an own __getitem__ that may raise, in a try -/
def tIxI (C : Addr) (sp : Sp) (E : L2.St → XK) (ta tb : TE) : TE := fun σ H Q => ta σ H fun x H1 => tb σ H1 fun y H2 => ∃ a dx fs, x = .ref a ∧ H2 a = some (.ins C dx fs) ∧ sp [x, y] H2 Q (E σ)
theorem pe_ixI (hs : PySem.W.findIn X.K (.ref C) "__getitem__" = some (some (.ref g))) (hn : PySem.W.fnIn X.K g = true) (hi : PySem.W.isFn X.K (.ref g) = true) (F : FnR X.prog X.w X.K X.mg X.base CX k g sp) (hr : Room (k + 1) X.A) (hx : ∀ σ, PassesAt CX X σ (E σ)) (he : PE X e ta) (hf : PE X f tb)
    (hsl : ∀ o i, subscripted f true o i = runValue (.builtin "lifetime.subscript" ⟨[o, i], []⟩)) : PE X (.Subscript e f pos) (tIxI C sp E ta tb) := by
  refine ⟨fun pins s σ H Q I h => ?_⟩
  refine Subscript_ (binT he hf (R := fun x y H2 => ∃ a dx fs, x = .ref a ∧ H2 a = some (.ins C dx fs) ∧ sp [x, y] H2 Q (E σ)) I h fun v u s2 x y H2 I2 rx ry q => ?_)
  obtain ⟨a, dx, fs, rfl, ha, q⟩ := q
  cases (show v = Value.ref a from rx)
  obtain ⟨mA, O, _⟩ := ins_get I2.hok ha
  obtain ⟨od, J, _⟩ := O.look
  obtain ⟨m, hF⟩ := I2.fr
  have hr1 : Room k X.A.in1 := Room.in1 hr
  refine PySem.W.sub_K hF I2.ok.mod.kin J hs hn hi (wpAny_call (codeAny_mono (F X.A.in1 X.stack s2 H2 [.ref a, u] [.ref a, y] Q (E σ) hr1 I2.env0.in1 (.cons rfl (.cons ry .nil)) q) fun r s' z => ?_)) (hsl _ _)
  match r, z with
  | .error e, z => exact hx σ pins H2 s2 e s' I2 z
  | .ok (.ret u), z => exact I2.after z
  | .ok .next, z => exact z.elim
  | .ok .brk, z => exact z.elim
  | .ok .cont, z => exact z.elim
end
end Vk
set_option Elab.async false
set_option linter.all false
set_option maxRecDepth 100000
set_option maxHeartbeats 4000000
namespace NSet
open PySem PySem.Spec PyProof.Rows L2
/-! X28: sets of tuples of whole numbers and texts -/
/-- a cell of a tuple: a number or a text -/
abbrev Cell := Int ⊕ Str
def cell : Cell → NestedKey
  | .inl i => .num i
  | .inr x => .text x
def nk (k : List Cell) : NestedKey := .tup (k.map cell)
theorem cell_inj {a b : Cell} (h : cell a = cell b) : a = b := by
  cases a <;> cases b <;> simp only [cell, NestedKey.num.injEq, NestedKey.text.injEq, reduceCtorEq] at h <;> rw [h]
theorem nk_inj {a b : List Cell} (h : nk a = nk b) : a = b := by
  unfold nk at h
  exact List.map_inj_right (fun _ _ e => cell_inj e) |>.mp (NestedKey.tup.inj h)
theorem depth_cells : ∀ k : List Cell, NestedKey.depthAll (k.map cell) = 0
  | [] => rfl
  | .inl _ :: k => by
    show max 0 (NestedKey.depthAll (k.map cell)) = 0
    rw [depth_cells k]
    rfl
  | .inr _ :: k => by
    show max 0 (NestedKey.depthAll (k.map cell)) = 0
    rw [depth_cells k]
    rfl
theorem depth_nk (k : List Cell) : (nk k).depth ≤ 1 := by
  unfold nk
  simp only [NestedKey.depth, depth_cells]
  omega
/-- the tuple at a has the cells k -/
def At (h : Heap) (k : List Cell) (a : Addr) : Prop := NestedIs h (nk k) (.ref a)
theorem At.obj {h : Heap} {k : List Cell} {a : Addr} (x : At h k a) : ∃ (o : Obj) (vs : Array Value) (n : Nat), h.get? a = some o ∧ o.cls = .type "tuple" ∧ o.data = .seq vs n ∧ NestedAll h (k.map cell) vs.toList := by
  unfold At nk at x
  cases x with
  | tup h1 h2 h3 h4 => exact ⟨_, _, _, h1, h2, h3, h4⟩
theorem At.one {h : Heap} {k k' : List Cell} {a : Addr} (x : At h k a) (y : At h k' a) : k = k' := nk_inj (NestedIs.inj _ _ _ x y)
theorem At.on {h h' : Heap} {k : List Cell} {a : Addr} (x : At h k a) (hk : ∀ b o vs n, h.get? b = some o → o.data = .seq vs n → h'.get? b = some o) : At h' k a := NestedIs.at hk _ _ x
theorem At.wide {h h' : Heap} {k : List Cell} {a : Addr} (x : At h k a) (hk : ∀ b o, h.get? b = some o → h'.get? b = some o) : At h' k a := x.on fun b o _ _ e _ => hk b o e
theorem At.past {h h' : Heap} {k : List Cell} {a d : Addr} {o : Obj} {es : Array (Int × Value)} {ep : Nat} {t : SetTable} (x : At h k a) (ho : h.get? d = some o) (hd : o.data = .set es ep t) (hs : Heap.SameBut d h h') : At h' k a :=
  x.on fun b u vs n e c => (hs.2 b fun z => by
    rw [z, ho] at e
    rw [← Option.some.inj e, hd] at c
    cases c).trans e
/-- what is asked of the cells -/
theorem cells_told {h : Heap} : ∀ {k : List Cell} {vs : List Value}, NestedAll h (k.map cell) vs → ∀ v ∈ vs, (∀ n, ofAClassStatement n v = pure false) ∧ ∃ b, ∀ n, hashByValue n v = pure b
  | [], _, .nil, v, hv => by cases hv
  | c :: k, _, .cons x xs, v, hv => by
    rcases List.mem_cons.mp hv with e | hv
    · subst e
      cases c with
      | inl i =>
        change NestedIs h (.num i) v at x
        cases x with
        | bool _ => exact ⟨fun n => by cases n <;> rfl, true, fun n => by cases n <;> rfl⟩
        | int _ t => exact ⟨fun n => by cases n <;> rfl, true, fun n => by cases n <;> rfl⟩
      | inr y =>
        change NestedIs h (.text y) v at x
        cases x with
        | text _ t => exact ⟨fun n => by cases n <;> rfl, false, fun n => by cases n <;> rfl⟩
    · exact cells_told xs v hv
section
variable {P : Program} {w : World} {A : Around} {E : Value → Shared → Prop} {s : Shared}
theorem At.noClass {k : List Cell} {a : Addr} {Q : Bool → Shared → Prop} (x : At s.heap k a) (h : Q false s) : wpAny (model P w) A (ofAClassStatement 8 (.ref a)) Q E s := by
  obtain ⟨o, vs, n, ho, hc, hd, hv⟩ := x.obj
  have told := cells_told hv
  have hT : s.TypeIs (.ref a) "tuple" := ⟨o, ho, hc⟩
  unfold ofAClassStatement
  refine wpAny_bind (wpAny_typeOf hT ?_)
  have et : (("tuple" : String) == "tuple") = true := by decide
  simp only [et, if_true]
  refine wpAny_bind (wpAny_pure ?_)
  refine wp_if_neg (by decide) ?_
  try refine wpAny_bind (wpAny_pure ?_)
  refine wpAny_bind (wpAny_seqItems ho hd ?_)
  refine wpAny_bind ?_
  show wpAny _ _ (forIn vs _ _) _ _ s
  rw [← Array.forIn_toList]
  refine wpAny_forIn_list _ (fun rest r s' => r.1 = none ∧ s' = s ∧ ∀ v ∈ rest, v ∈ vs.toList) _ ?_ ?_ _ _ ⟨rfl, rfl, fun _ h => h⟩
  · rintro v rest r s' ⟨hr, rfl, hall⟩
    rw [(told v (hall v List.mem_cons_self)).1]
    refine wpAny_bind (wpAny_pure ?_)
    refine wp_if_neg (by decide) ?_
    exact wpAny_pure ⟨rfl, rfl, fun u hu => hall u (List.mem_cons_of_mem _ hu)⟩
  · rintro ⟨r1, r2⟩ s' ⟨hr, rfl, _⟩
    simp only at hr
    subst hr
    exact wpAny_pure h
/-- whether the hash is by value: either answer will do -/
theorem At.byVal {k : List Cell} {a : Addr} {Q : Bool → Shared → Prop} (x : At s.heap k a) (h : ∀ b, Q b s) : wpAny (model P w) A (hashByValue 8 (.ref a)) Q E s := by
  obtain ⟨o, vs, n, ho, hc, hd, hv⟩ := x.obj
  have told := cells_told hv
  have hT : s.TypeIs (.ref a) "tuple" := ⟨o, ho, hc⟩
  unfold hashByValue
  refine wpAny_bind (wpAny_specialOf hT F.slot_tuple_hash.lookup ?_)
  show wpAny _ _ (seqItems? (.ref a) >>= _) _ _ s
  refine wpAny_bind (wpAny_seqItems ho hd ?_)
  refine wpAny_bind ?_
  show wpAny _ _ (forIn vs _ _) _ _ s
  rw [← Array.forIn_toList]
  refine wpAny_forIn_list _ (fun rest r s' => r.1 = none ∧ s' = s ∧ ∀ v ∈ rest, v ∈ vs.toList) _ ?_ ?_ _ _ ⟨rfl, rfl, fun _ h => h⟩
  · rintro v rest r s' ⟨hr, rfl, hall⟩
    obtain ⟨b, hb⟩ := (told v (hall v List.mem_cons_self)).2
    rw [hb]
    refine wpAny_bind (wpAny_pure ?_)
    cases b with
    | true =>
      refine wp_if_neg (by decide) ?_
      exact wpAny_pure ⟨rfl, rfl, fun u hu => hall u (List.mem_cons_of_mem _ hu)⟩
    | false =>
      refine wp_if_pos (by decide) ?_
      exact wpAny_pure (wpAny_pure (h false))
  · rintro ⟨r1, r2⟩ s' ⟨hr, rfl, _⟩
    simp only at hr
    subst hr
    exact wpAny_pure (h true)
theorem At.depth8 {h : Heap} {k : List Cell} {a : Addr} (x : At h k a) : (nestedKind P w).is h (nk k) a := ⟨x, Nat.le_trans (depth_nk k) (by decide)⟩
abbrev hsh (w : World) (k : List Cell) : Int := (nk k).hash w
theorem At.hashed {k : List Cell} {a : Addr} {Q : Int → Shared → Prop} (hu : A.units + 8 < cLine) (x : At s.heap k a) (h : ∀ n, Q (hsh w k) { s with toks := s.toks + n }) : wpAny (model P w) A (PySem.pyHash (.ref a)) Q E s :=
  (nestedKind P w).pyHash hu x.depth8 (h _)
theorem At.equal {k k' : List Cell} {a b : Addr} {Q : Bool → Shared → Prop} (hu : A.units + 8 < cLine) (x : At s.heap k a) (y : At s.heap k' b) (h : Q (decide (k = k')) s) : wpAny (model P w) A (PySem.eqBool (.ref a) (.ref b)) Q E s := by
  refine (nestedKind P w).eqBool hu x.depth8 y.depth8 ?_
  have e : decide (nk k = nk k') = decide (k = k') := by
    by_cases z : k = k'
    · rw [z, decide_eq_true rfl, decide_eq_true rfl]
    · rw [decide_eq_false z, decide_eq_false fun q => z (nk_inj q)]
  rw [e]
  exact h
theorem At.still {k : List Cell} {a : Addr} {Q : Bool → Shared → Prop} (x : At s.heap k a) (h : Q true s) : wpAny (model P w) A (eqIsQuiet 8 (.ref a)) Q E s := (nestedKind P w).quiet x.depth8 h
/-- the search shows nothing -/
theorem unseen {k : List Cell} {a : Addr} {Q : Bool → Shared → Prop} (x : At s.heap k a) {ys : List Value} (hy : ∀ y ∈ ys, ∃ k' c, y = Value.ref c ∧ At s.heap k' c) (h : Q false s) : wpAny (model P w) A (searchCouldBeSeen (.ref a) ys) Q E s := by
  unfold searchCouldBeSeen
  refine wpAny_bind (wpAny_forIn_list _ (fun rest r s' => r.1 = none ∧ s' = s ∧ ∀ y ∈ rest, y ∈ ys) _ (fun v rest r s' hI => ?_) (fun r s' hI => ?_) _ _ ⟨rfl, rfl, fun _ h => h⟩)
  · obtain ⟨hr, rfl, hall⟩ := hI
    obtain ⟨k', c, rfl, hc⟩ := hy v (hall v List.mem_cons_self)
    have rest' : ∀ y ∈ rest, y ∈ ys := fun u hu => hall u (List.mem_cons_of_mem _ hu)
    dsimp only
    by_cases hv : (a == c || (carriedByValue (.ref a) && carriedByValue (.ref c))) = true
    · exact wp_if_pos hv (wpAny_pure ⟨rfl, rfl, rest'⟩)
    refine wp_if_neg hv (wpAny_bind (x.still ?_))
    refine wp_if_neg (by decide) (wpAny_bind (hc.still ?_))
    refine wp_if_neg (by decide) (wpAny_bind (x.noClass ?_))
    refine wp_if_neg (by decide) (wpAny_bind (hc.noClass ?_))
    exact wp_if_neg (by decide) (wpAny_pure ⟨rfl, rfl, rest'⟩)
  · obtain ⟨r1, r2⟩ := r
    obtain ⟨hr, rfl, _⟩ := hI
    simp only at hr
    subst hr
    exact wpAny_pure h
end
end NSet
set_option Elab.async false
set_option linter.all false
set_option maxRecDepth 100000
set_option maxHeartbeats 4000000
namespace NSet
open PySem PySem.Spec PyProof.Rows L2
/-! X29: the search of a set of such tuples -/
/-- where a search stands after c steps -/
abbrev St (t : SetTable) (h : Int) (c : Nat) : SetTable.Probe := nth t.mask (runAt t.mask (SetTable.bits h % (t.mask + 1)) (SetTable.bits h)) c
theorem nth_dummy (m : Nat) : ∀ (n : Nat) (p : SetTable.Probe), p.dummy = none → (nth m p n).dummy = none
  | 0, _, h => h
  | n + 1, p, h => nth_dummy m n _ (by
    unfold adv
    split <;> exact h)
/-- what a probe from the c-th step on tells, by the way's own count -/
theorem probe_from {t : SetTable} {hs : List Int} (T : TabOk t hs) (h : Int) (hat : Nat → Int) {K c : Nat} (hf : K < 10 * SetTable.turns t.mask) (hK : way t.mask h K ∉ t.place.toList) (hb : ∀ e, e < K → way t.mask h e ∈ t.place.toList) (hc : c ≤ K) :
    (∃ e i, c ≤ e ∧ e < K ∧ t.place.toList[i]? = some (way t.mask h e) ∧ hat i = h ∧ (∀ e' i', c ≤ e' → e' < e → t.place.toList[i']? = some (way t.mask h e') → hat i' ≠ h) ∧
      t.probe hat h (St t h c) = some (.candidate (way t.mask h e) i (St t h (e + 1)))) ∨
    ((∀ e' i', c ≤ e' → e' < K → t.place.toList[i']? = some (way t.mask h e') → hat i' ≠ h) ∧ t.probe hat h (St t h c) = some (.empty (way t.mask h K) none)) := by
  have go : ∀ q, nth t.mask (St t h c) q = St t h (c + q) := fun q => (nth_add t.mask c _ q).symm
  have goj : ∀ q, (nth t.mask (St t h c) q).j = way t.mask h (c + q) := fun q => congrArg SetTable.Probe.j (go q)
  have back : c + (K - c) = K := by omega
  rcases go_spec t T.ris T.dm hat h (10 * SetTable.turns t.mask) (K - c) (St t h c) (nth_dummy _ _ _ rfl) (by omega) (fun q hq => goj q ▸ hb _ (by omega)) (by rw [goj, back]; exact hK) with ⟨q, i, h1, h2, h3, h4, h5⟩ | ⟨h4, h5⟩
  · rw [goj] at h2
    refine .inl ⟨c + q, i, by omega, by omega, h2, h3, fun e' i' a1 a2 a3 => h4 (e' - c) i' (by omega) (by rw [goj, show c + (e' - c) = e' by omega]; exact a3), ?_⟩
    rw [goj, go, ← Nat.add_assoc] at h5
    exact h5
  · refine .inr ⟨fun e' i' a1 a2 a3 => h4 (e' - c) i' (by omega) (by rw [goj, show c + (e' - c) = e' by omega]; exact a3), ?_⟩
    rw [goj, back] at h5
    exact h5
/-- the set at a holds the tuples L -/
structure Tups (w : World) (h : Heap) (a : Addr) (L : List (Addr × List Cell)) (es : Array (Int × Value)) (ep : Nat) (t : SetTable) : Prop where
  obj : ∃ o, h.get? a = some o ∧ o.ExactSet ∧ o.data = .set es ep t
  row : es.toList = L.map fun p => (hsh w p.2, Value.ref p.1)
  tab : TabOk t (L.map fun p => hsh w p.2)
  dif : (L.map (·.2)).Nodup
  tup : ∀ p ∈ L, At h p.2 p.1
  led : w.params.followText "set-order" = true ∨ t.led = true
  gap : L.length * 5 < t.mask * 3
  few : L.length < 64
section
variable {P : Program} {w : World} {A : Around} {E : Value → Shared → Prop} {s : Shared} {a : Addr} {L : List (Addr × List Cell)} {es : Array (Int × Value)} {ep : Nat} {t : SetTable}
theorem Tups.count {h : Heap} (R : Tups w h a L es ep t) : es.size = L.length := by rw [← Array.length_toList, R.row, List.length_map]
theorem Tups.places {h : Heap} (R : Tups w h a L es ep t) : t.place.size = L.length := by rw [R.tab.sz, List.length_map]
theorem Tups.fit {h : Heap} (R : Tups w h a L es ep t) : t.fits es.size = true := by
  have h1 := R.places
  have h2 := R.count
  have h3 := R.gap
  unfold SetTable.fits SetTable.fill
  rw [R.tab.dm, Bool.and_eq_true, beq_iff_eq, decide_eq_true_eq]
  show t.place.size = es.size ∧ t.place.size + 0 ≤ t.mask
  omega
theorem Tups.cell {h : Heap} (R : Tups w h a L es ep t) {i : Nat} {p : Addr × List Cell} (hp : L[i]? = some p) : es[i]? = some (hsh w p.2, Value.ref p.1) := by
  rw [← Array.getElem?_toList, R.row, List.getElem?_map, hp]
  rfl
theorem Tups.kept {h : Heap} (R : Tups w h a L es ep t) : ¬ t.gaveWay = true := by
  unfold SetTable.gaveWay
  rw [mask_odd R.tab.mok]
  decide
theorem seek (R : Tups w s.heap a L es ep t) {x : Addr} {k : List Cell} (hx : At s.heap k x) (hu : A.units + 8 < cLine) {K : Nat} (hf : K < 10 * SetTable.turns t.mask) (hK : way t.mask (hsh w k) K ∉ t.place.toList) (hb : ∀ c, c < K → way t.mask (hsh w k) c ∈ t.place.toList)
    {Q : SetFound → Shared → Prop} (yes : k ∈ L.map (·.2) → Q (.there none) s) (no : k ∉ L.map (·.2) → Q (.free (way t.mask (hsh w k) K) false) s) :
    ∀ (f c : Nat) (stand : Option SetTable.Probe), stand.getD (t.probeStart (hsh w k)) = St t (hsh w k) c → c ≤ K → K - c < f →
      (∀ (i : Nat) p, L[i]? = some p → p.2 = k → ∃ e, c ≤ e ∧ e < K ∧ t.place.toList[i]? = some (way t.mask (hsh w k) e)) → wpAny (model P w) A (setSearchFrom a (.ref x) (hsh w k) true f stand) Q E s := by
  intro f
  induction f with
  | zero => intro c stand _ _ hlt; exact absurd hlt (Nat.not_lt_zero _)
  | succ f ih =>
    intro c stand hst hc hlt hre
    obtain ⟨o, ho, hex, hd⟩ := R.obj
    have hat : ∀ (i : Nat) p, L[i]? = some p → (fun i => (es[i]?.map (·.1)).getD 0) i = hsh w p.2 := fun i p hp => by
      show (es[i]?.map (·.1)).getD 0 = _
      rw [R.cell hp]
      rfl
    rw [setSearchFrom_succ]
    refine wpAny_bind (wpAny_setState_of ho hd R.fit ?_)
    dsimp only
    refine wp_if_neg R.kept ?_
    try refine wpAny_bind (wpAny_pure ?_)
    rw [hst]
    rcases probe_from R.tab (hsh w k) (fun i => (es[i]?.map (·.1)).getD 0) hf hK hb hc with ⟨e, i, h1, h2, h3, h4, h5, h6⟩ | ⟨h5, h6⟩
    · rw [h6]
      dsimp only
      have hi : i < L.length := by
        have := (List.getElem?_eq_some_iff.mp h3).1
        rw [Array.length_toList, R.places] at this
        exact this
      obtain ⟨p, hp⟩ : ∃ p, L[i]? = some p := ⟨_, List.getElem?_eq_getElem hi⟩
      have hm := List.mem_of_getElem? hp
      have live : t.slot (way t.mask (hsh w k) e) = .live i := slot_live R.tab.ris h3
      have on : wpAny (model P w) A (searchRest a (.ref x) (hsh w k) true f es t (way t.mask (hsh w k) e) i (St t (hsh w k) (e + 1))) Q E s := by
        unfold searchRest
        rw [R.cell hp]
        dsimp only
        refine wpAny_bind (wpAny_holding ((R.tup p hm).equal hu hx ?_))
        refine wpAny_bind (wpAny_setState_of ho hd R.fit ?_)
        dsimp only
        by_cases same : p.2 = k
        · exact wp_if_pos (by simp [same]) (wpAny_pure (yes (List.mem_map.mpr ⟨p, hm, same⟩)))
        · refine wp_if_neg (by simp [same]) ?_
          try refine wpAny_bind (wpAny_pure ?_)
          rw [sameMem]
          dsimp only
          simp only [if_true, live, R.cell hp]
          refine wpAny_bind (wpAny_isSame_ref_self (wpAny_bind (wpAny_pure ?_)))
          simp only [if_true]
          refine wp_if_neg (by simp [same]) (ih (e + 1) _ rfl (by omega) (by omega) fun i0 p0 g0 gk => ?_)
          obtain ⟨e0, a1, a2, a3⟩ := hre i0 p0 g0 gk
          refine ⟨e0, Nat.lt_of_le_of_ne (Nat.le_of_not_lt fun z => h5 e0 i0 a1 z a3 ((hat i0 p0 g0).trans (congrArg (hsh w) gk))) (fun z => ?_), a2, a3⟩
          rw [← z] at a3
          have l2 := slot_live R.tab.ris a3
          rw [live] at l2
          injection l2 with l2
          rw [← l2, hp] at g0
          exact same ((congrArg Prod.snd (Option.some.inj g0)).trans gk)
      by_cases hl : t.led = true
      · refine wp_if_neg (by simp [hl]) ?_
        try refine wpAny_bind (wpAny_pure ?_)
        exact on
      · refine wp_if_pos (by simp [hl]) (wpAny_bind (unseen hx (fun y hy => ?_) ?_))
        · obtain ⟨u, hu1, rfl⟩ := List.mem_map.mp hy
          have hu2 : u ∈ es.toList := by
            have : u ∈ es ∧ u.1 = hsh w k := by simpa using hu1
            simpa using this.1
          rw [R.row] at hu2
          obtain ⟨q, hq, rfl⟩ := List.mem_map.mp hu2
          exact ⟨q.2, q.1, rfl, R.tup q hq⟩
        · refine wp_if_neg (by decide) ?_
          try refine wpAny_bind (wpAny_pure ?_)
          exact on
    · rw [h6]
      dsimp only
      refine wpAny_pure (no fun hm => ?_)
      obtain ⟨p0, g0, gk⟩ := List.mem_map.mp hm
      obtain ⟨i0, hi0, ei⟩ := List.getElem_of_mem g0
      have g1 : L[i0]? = some p0 := by rw [List.getElem?_eq_getElem hi0, ei]
      obtain ⟨e0, a1, a2, a3⟩ := hre i0 p0 g1 gk
      exact h5 e0 i0 a1 a2 a3 ((hat i0 p0 g1).trans (congrArg (hsh w) gk))
end
end NSet
set_option Elab.async false
set_option linter.all false
set_option maxRecDepth 100000
set_option maxHeartbeats 4000000
namespace NSet
open PySem PySem.Spec PyProof.Rows L2
/-! X30: laying anew, adding -/
theorem all_of {α : Type} : ∀ L : List α, (List.range L.length).filterMap (fun i => L[i]?) = L
  | [] => rfl
  | x :: L => by
    rw [List.length_cons, List.range_succ_eq_map, List.filterMap_cons]
    show x :: _ = _
    rw [List.filterMap_map]
    exact congrArg (x :: ·) (all_of L)
theorem drawn_map {α β : Type} (L : List α) (f : α → β) (d : β) : ∀ l : List Nat, (∀ i ∈ l, i < L.length) → (l.filterMap fun i => L[i]?).map f = l.map fun i => ((L.map f)[i]?).getD d
  | [], _ => rfl
  | i :: l, h => by
    have hi := h i List.mem_cons_self
    have e : L[i]? = some L[i] := List.getElem?_eq_getElem hi
    rw [List.filterMap_cons, e]
    show f L[i] :: _ = _
    rw [List.map_cons, List.getElem?_map, e, drawn_map L f d l fun j hj => h j (List.mem_cons_of_mem _ hj)]
    rfl
theorem ordered {w : World} {L : List (Addr × List Cell)} {es : Array (Int × Value)} {order : Array Nat} (row : es.toList = L.map fun p => (hsh w p.2, Value.ref p.1)) (hp : order.toList.Perm (List.range L.length)) :
    ∃ L2 : List (Addr × List Cell), (order.filterMap (es[·]?)).toList = L2.map (fun p => (hsh w p.2, Value.ref p.1)) ∧ L2.Perm L ∧ L2.map (fun p => hsh w p.2) = order.toList.map fun i => (es.map (·.1)).getD i 0 := by
  have hb : ∀ i ∈ order.toList, i < L.length := fun i hi => List.mem_range.mp (hp.mem_iff.mp hi)
  refine ⟨order.toList.filterMap fun i => L[i]?, ?_, ?_, ?_⟩
  · rw [Array.toList_filterMap, List.map_filterMap]
    refine congrArg (fun g => List.filterMap g order.toList) (funext fun i => ?_)
    rw [← Array.getElem?_toList, row, List.getElem?_map]
  · have := hp.filterMap fun i => L[i]?
    rwa [all_of] at this
  · rw [drawn_map L (fun p => hsh w p.2) 0 _ hb]
    refine List.map_congr_left fun i hi => ?_
    have hl := hb i hi
    have e : L[i]? = some L[i] := List.getElem?_eq_getElem hl
    have e2 : (es.map (·.1))[i]? = some (hsh w L[i].2) := by
      rw [← Array.getElem?_toList, Array.toList_map, row, List.map_map, List.getElem?_map, e]
      rfl
    rw [List.getElem?_map, e, Array.getD_eq_getD_getElem?, e2]
    rfl
section
variable {P : Program} {w : World} {A : Around} {E : Value → Shared → Prop} {s : Shared} {a : Addr} {L : List (Addr × List Cell)} {es : Array (Int × Value)} {ep : Nat} {t : SetTable}
theorem relay {o : Obj} (ho : s.heap.get? a = some o) (hex : o.ExactSet) (hd : o.data = .set es ep t) (row : es.toList = L.map fun p => (hsh w p.2, Value.ref p.1)) (pl : t.place.size = es.size) (dm : t.dummies = #[]) (le : es.size ≤ t.mask)
    (dif : (L.map (·.2)).Nodup) (tup : ∀ p ∈ L, At s.heap p.2 p.1) (led : w.params.followText "set-order" = true ∨ t.led = true) (few : L.length < 64) {wanted M : Nat} (hw : SetTable.sizeAbove wanted - 1 = M) (hM : MaskOk M) (hw2 : SetTable.sizeAbove wanted ≤ 128)
    (hn : L.length * 5 < M * 3) {Q : Unit → Shared → Prop} (hQ : ∀ h' L' es' ep' t', Heap.SameBut a s.heap h' → Tups w h' a L' es' ep' t' → L'.Perm L → Q () { s with heap := h' }) : wpAny (model P w) A (setRelay a wanted) Q E s := by
  have cnt : es.size = L.length := by rw [← Array.length_toList, row, List.length_map]
  have fit : t.fits es.size = true := by
    unfold SetTable.fits SetTable.fill
    rw [dm, Bool.and_eq_true, beq_iff_eq, decide_eq_true_eq]
    show t.place.size = es.size ∧ t.place.size + 0 ≤ t.mask
    omega
  obtain ⟨t', order, re, hp, T, em, el, _, _⟩ := relaid_ok t (hs := es.map (·.1)) (wanted := wanted) hw hM (by rw [Array.size_map]; omega)
  rw [Array.size_map, cnt] at hp
  obtain ⟨L2, r1, r2, r3⟩ := ordered row hp
  rw [← r3] at T
  have cnt2 : (order.filterMap (es[·]?)).size = L.length := by rw [← Array.length_toList, r1, List.length_map, r2.length_eq]
  have sb : Heap.SameBut a s.heap (s.heap.update a (Obj.putSet (order.filterMap (es[·]?)) t')) := Heap.SameBut.update ..
  rw [setRelay_eq]
  refine wpAny_bind (wpAny_setState_of ho hd fit ?_)
  dsimp only
  refine wp_if_neg (by rw [sizeLine_eq]; omega) ?_
  try refine wpAny_bind (wpAny_pure ?_)
  rw [re]
  dsimp only
  refine wpAny_bind (wp_if_neg (by rw [cnt2, cnt]; simp) ?_)
  try refine wpAny_bind (wpAny_pure ?_)
  refine wpAny_pure ?_
  dsimp only
  refine wpAny_storeSet_of ho hd (hQ _ L2 (order.filterMap (es[·]?)) (ep + 1) t' sb ?_ r2) (by rw [cnt2, sizeLine_eq]; omega)
  exact { obj := ⟨_, store_at ho hd, ⟨hex.1, hex.2.1, hex.2.2⟩, rfl⟩, row := r1, tab := T, dif := (r2.map (·.2)).nodup_iff.mpr dif, tup := fun p hm => (tup p (r2.mem_iff.mp hm)).past ho hd sb, led := by rw [el]; exact led, gap := by rw [r2.length_eq, em]; exact hn, few := by rw [r2.length_eq]; exact few }
theorem asked {t : SetTable} {k : List Cell} {x : Addr} (hx : At s.heap k x) {F : Bool → Sem Bool} {Q : Bool → Shared → Prop} (h : ∀ b, wpAny (model P w) A (F b) Q E s) : wpAny (model P w) A (if t.plain = true then hashByValue 8 (.ref x) >>= F else pure true >>= F) Q E s := by
  by_cases hp : t.plain = true
  · exact wp_if_pos hp (wpAny_bind (hx.byVal h))
  · exact wp_if_neg hp (wpAny_bind (wpAny_pure (h true)))
theorem put_in (R : Tups w s.heap a L es ep t) {x : Addr} {k : List Cell} (hx : At s.heap k x) (hu : A.units + 8 < cLine) (more : L.length + 1 < 64) {Q : Bool → Shared → Prop}
    (hQ : ∀ b h' L' es' ep' t', Heap.SameBut a s.heap h' → Tups w h' a L' es' ep' t' → (k ∈ L.map (·.2) → L' = L) → (k ∉ L.map (·.2) → L'.Perm ((x, k) :: L)) → Q b { s with heap := h' }) :
    wpAny (model P w) A (setAddHashed a (.ref x) (hsh w k)) Q E s := by
  obtain ⟨o, ho, hex, hd⟩ := R.obj
  have cnt := R.count
  have gap := R.gap
  obtain ⟨K, hf, hK, hb⟩ := R.tab.first (by rw [List.length_map]; omega) (hsh w k)
  have big : K < 100000 := by
    have : 10 * SetTable.turns t.mask ≤ 1420 := by
      unfold SetTable.turns
      rcases R.tab.mok with e | e | e <;> omega
    omega
  have pass : ∀ (i : Nat) p, L[i]? = some p → p.2 = k → ∃ e, 0 ≤ e ∧ e < K ∧ t.place.toList[i]? = some (way t.mask (hsh w k) e) := fun i p hp hk => by
    have h1 : (L.map fun p => hsh w p.2)[i]? = some (hsh w k) := by rw [List.getElem?_map, hp, ← hk]; rfl
    have h2 : i < t.place.toList.length := by
      rw [Array.length_toList, R.places]
      exact (List.getElem?_eq_some_iff.mp hp).1
    obtain ⟨e, he, ee⟩ := R.tab.before hK h1 (List.getElem?_eq_getElem h2)
    exact ⟨e, Nat.zero_le _, he, by rw [List.getElem?_eq_getElem h2, ee]⟩
  unfold setAddHashed
  refine wpAny_holding ?_
  rw [show (100000 : Nat) = 99999 + 1 from rfl, setAddHashedIn_succ]
  refine wpAny_bind (wpAny_setState_of ho hd R.fit ?_)
  dsimp only
  refine wp_if_neg (by simp [byScan, Value.scannable]) ?_
  try refine wpAny_bind (wpAny_pure ?_)
  refine wpAny_bind ?_
  unfold setSearch
  refine seek R hx hu hf hK hb (fun hm => ?_) (fun hm => ?_) 100000 0 none rfl (Nat.zero_le _) (by omega) pass
  · dsimp only
    exact wpAny_pure (hQ false s.heap L es ep t (Heap.SameBut.refl a s.heap) R (fun _ => rfl) fun z => absurd hm z)
  dsimp only
  refine wpAny_bind (wpAny_setState_of ho hd R.fit ?_)
  dsimp only
  obtain ⟨q1, q2, q3, q4, q5, _, _, _, q9⟩ := R.tab.put hK hb
  generalize hpt : t.put (way t.mask (hsh w k) K) = pt at q1 q3 q4 q5 q9 ⊢
  obtain ⟨t1, p⟩ := pt
  dsimp only at q1 q3 q4 q5 q9 ⊢
  refine asked (t := t1) hx fun bv => ?_
  have two : (if bv = true then t1 else { t1 with plain := false }) = t1 ∨ (if bv = true then t1 else { t1 with plain := false }) = { t1 with plain := false } := by
    cases bv
    · exact .inr rfl
    · exact .inl rfl
  generalize (if bv = true then t1 else { t1 with plain := false }) = t2 at two ⊢
  have T2 : TabOk t2 ((L.map fun p => hsh w p.2).take (SetTable.below t.place (way t.mask (hsh w k) K)) ++ hsh w k :: (L.map fun p => hsh w p.2).drop (SetTable.below t.place (way t.mask (hsh w k) K))) := by
    rcases two with e | e
    · rw [e]; exact q3
    · rw [e]; exact ⟨q3.ris, q3.dm, q3.sz, q3.mok, q3.bd, q3.reach⟩
  have m2 : t2.mask = t.mask := by rcases two with e | e <;> rw [e] <;> exact q4
  have l2 : t2.led = t.led := by rcases two with e | e <;> rw [e] <;> exact q5
  have f2 : t2.fill = (L.map fun p => hsh w p.2).length + 1 := by rcases two with e | e <;> rw [e] <;> exact q9
  clear two q3 q4 q5 q9 hpt
  subst q1
  generalize SetTable.below t.place (way t.mask (hsh w k) K) = p at q2 T2 ⊢
  rw [List.length_map] at q2 f2
  have row1 : (SetTable.insertAt es p (hsh w k, Value.ref x)).toList = (L.take p ++ (x, k) :: L.drop p).map fun p => (hsh w p.2, Value.ref p.1) := by
    rw [SetTable.toList_insertAt, R.row, List.map_append, List.map_cons, List.map_take, List.map_drop]
  have eT : (L.take p ++ (x, k) :: L.drop p).map (fun p => hsh w p.2) = (L.map fun p => hsh w p.2).take p ++ hsh w k :: (L.map fun p => hsh w p.2).drop p := by
    rw [List.map_append, List.map_cons, List.map_take, List.map_drop]
  rw [← eT] at T2
  have pm : (L.take p ++ (x, k) :: L.drop p).Perm ((x, k) :: L) := put_perm L p (x, k)
  have cnt1 : (SetTable.insertAt es p (hsh w k, Value.ref x)).size = L.length + 1 := by rw [← Array.length_toList, row1, List.length_map, pm.length_eq, List.length_cons]
  generalize SetTable.insertAt es p (hsh w k, Value.ref x) = es1 at row1 cnt1 ⊢
  generalize L.take p ++ (x, k) :: L.drop p = L1 at pm T2 row1
  have len1 : L1.length = L.length + 1 := pm.length_eq
  have sb : Heap.SameBut a s.heap (s.heap.update a (Obj.putSet es1 t2)) := Heap.SameBut.update ..
  have ho1 := store_at (es' := es1) (t' := t2) ho hd
  refine wpAny_bind (wpAny_storeSet_of ho hd ?_ (by rw [cnt1, sizeLine_eq]; omega))
  generalize s.heap.update a (Obj.putSet es1 t2) = h1 at sb ho1 ⊢
  have dif1 : (L1.map (·.2)).Nodup := (pm.map (·.2)).nodup_iff.mpr (List.nodup_cons.mpr ⟨hm, R.dif⟩)
  have tup1 : ∀ q ∈ L1, At h1 q.2 q.1 := fun q hq => by
    rcases List.mem_cons.mp (pm.mem_iff.mp hq) with e | hq
    · rw [e]; exact hx.past ho hd sb
    · exact (R.tup q hq).past ho hd sb
  have led1 : w.params.followText "set-order" = true ∨ t2.led = true := by rw [l2]; exact R.led
  have pl1 : t2.place.size = es1.size := by rw [T2.sz, List.length_map, len1, cnt1]
  by_cases full : t2.tooFull = true
  · refine wp_if_pos (by simp [full]) (wpAny_bind ?_)
    have lim : (L.length + 1) * 5 ≥ t.mask * 3 := by
      unfold SetTable.tooFull at full
      rw [decide_eq_true_eq, f2, m2] at full
      exact full
    have go : ∀ M, SetTable.sizeAbove (SetTable.grown (L.length + 1)) - 1 = M → MaskOk M → SetTable.sizeAbove (SetTable.grown (L.length + 1)) ≤ 128 → (L.length + 1) * 5 < M * 3 →
        wpAny (model P w) A (setRelay a (SetTable.grown (es.size + 1))) (fun _ s' => wpAny (model P w) A (pure true) Q E s') E { s with heap := h1 } := fun M g1 g2 g3 g4 => by
      rw [cnt]
      exact relay (s := { s with heap := h1 }) ho1 ⟨hex.1, hex.2.1, hex.2.2⟩ rfl row1 pl1 T2.dm (by rw [cnt1, m2]; omega) dif1 tup1 led1 (by rw [len1]; exact more) g1 g2 g3 (by rw [len1]; exact g4)
        fun h2 L2 es2 ep2 t3 sb2 R2 pm2 => wpAny_pure (hQ true h2 L2 es2 ep2 t3 (sb.trans sb2) R2 (fun z => absurd z hm) fun _ => pm2.trans pm)
    rcases R.tab.mok with e | e | e
    · have l4 : L.length = 4 := by omega
      exact go 31 (by rw [l4, size_20]) (.inr (.inl rfl)) (by rw [l4, size_20]; decide) (by omega)
    · have l18 : L.length = 18 := by omega
      exact go 127 (by rw [l18, size_76]) (.inr (.inr rfl)) (by rw [l18, size_76]; decide) (by omega)
    · omega
  · refine wp_if_neg (by simp [full]) (wpAny_pure (hQ true h1 L1 es1 (ep + 1) t2 sb ?_ (fun z => absurd z hm) fun _ => pm))
    have lim : ¬ (L.length + 1) * 5 ≥ t.mask * 3 := fun z => full (by
      unfold SetTable.tooFull
      rw [decide_eq_true_eq, f2, m2]
      exact z)
    exact { obj := ⟨_, ho1, ⟨hex.1, hex.2.1, hex.2.2⟩, rfl⟩, row := row1, tab := T2, dif := dif1, tup := tup1, led := led1, gap := by rw [len1, m2]; omega, few := by rw [len1]; exact more }
end
end NSet
set_option Elab.async false
set_option linter.all false
set_option maxRecDepth 100000
set_option maxHeartbeats 4000000
namespace NSet
open PySem PySem.Spec PyProof.Rows L2
/-! X31: a set filled from a walk -/
/-- L is what a set has of the first i of ks -/
structure Part (ks : List (Addr × List Cell)) (i : Nat) (L : List (Addr × List Cell)) : Prop where
  inn : ∀ p ∈ L, p ∈ ks.take i
  cov : ∀ p ∈ ks.take i, p.2 ∈ L.map (·.2)
  len : L.length ≤ i
theorem Part.next {ks L L' : List (Addr × List Cell)} {i : Nat} {x : Addr × List Cell} (g : Part ks i L) (hx : ks[i]? = some x) (c1 : x.2 ∈ L.map (·.2) → L' = L) (c2 : x.2 ∉ L.map (·.2) → L'.Perm (x :: L)) : Part ks (i + 1) L' := by
  have e : ks.take (i + 1) = ks.take i ++ [x] := take_next hx
  by_cases c : x.2 ∈ L.map (·.2)
  · rw [c1 c]
    refine ⟨fun p hp => by rw [e]; exact List.mem_append_left _ (g.inn p hp), fun p hp => ?_, Nat.le_succ_of_le g.len⟩
    rw [e] at hp
    rcases List.mem_append.mp hp with z | z
    · exact g.cov p z
    · rw [List.mem_singleton.mp z]; exact c
  · have pm := c2 c
    refine ⟨fun p hp => ?_, fun p hp => ?_, by rw [pm.length_eq, List.length_cons]; exact Nat.succ_le_succ g.len⟩
    · rw [e]
      rcases List.mem_cons.mp (pm.mem_iff.mp hp) with z | z
      · rw [z]; exact List.mem_append_right _ List.mem_cons_self
      · exact List.mem_append_left _ (g.inn p z)
    · rw [(pm.map (·.2)).mem_iff, List.map_cons]
      rw [e] at hp
      rcases List.mem_append.mp hp with z | z
      · exact List.mem_cons_of_mem _ (g.cov p z)
      · rw [List.mem_singleton.mp z]; exact List.mem_cons_self
section
variable {P : Program} {w : World} {A : Around} {E : Value → Shared → Prop} {s : Shared}
theorem Tups.later {h h' : Heap} {a : Addr} {L : List (Addr × List Cell)} {es : Array (Int × Value)} {ep : Nat} {t : SetTable} (R : Tups w h a L es ep t) (ha : ∀ o, h.get? a = some o → h'.get? a = some o) (ht : ∀ p ∈ L, At h' p.2 p.1) : Tups w h' a L es ep t := by
  obtain ⟨o, ho, r⟩ := R.obj
  exact { R with obj := ⟨o, ha o ho, r⟩, tup := ht }
theorem Tups.new {h : Heap} {a : Addr} (ho : h.get? a = some { cls := .type "set", dict := none, data := .set #[] 0 (.fresh 0 0 (!w.params.followText "set-order")) }) : Tups w h a [] #[] 0 (.fresh 0 0 (!w.params.followText "set-order")) where
  obj := ⟨_, ho, ⟨rfl, rfl, rfl⟩, rfl⟩
  row := rfl
  tab := ⟨List.Pairwise.nil, rfl, rfl, .inl rfl, (fun x hx => by cases hx), fun i h j hi => by simp at hi⟩
  dif := List.nodup_nil
  tup := fun p hp => nomatch hp
  led := by
    show _ ∨ (!w.params.followText "set-order") = true
    cases w.params.followText "set-order"
    · exact .inr rfl
    · exact .inl rfl
  gap := by show 0 * 5 < 7 * 3; decide
  few := by show 0 < 64; decide
theorem fill {I : Addr} {fp wr : List Addr} {G : Array GenState → Array GenState → Prop} {n : Nat} {Pv : Nat → Value → Prop} {St : Nat → Shared → Prop} {R : Result → Shared → Prop} (W : WalksS P w A.in1 I fp wr G n Pv St) (S : Addr) (nS : S ∉ fp)
    (ks : List (Addr × List Cell)) (hn : n = ks.length) (bd : ∀ L : List (Addr × List Cell), (L.map (·.2)).Nodup → (∀ p ∈ L, p ∈ ks) → L.length < 63) (hval : ∀ i v, Pv i v → ∃ p, ks[i]? = some p ∧ v = .ref p.1) (h0 : Heap) (hk : ∀ p ∈ ks, At h0 p.2 p.1) (hS0 : h0.get? S = none) (hw0 : ∀ b ∈ wr, h0.get? b = none)
    (hu : A.in1.units + 8 < cLine) : ∀ (j i : Nat) (s : Shared), n - i = j → i ≤ n → St i s → (∀ b o, h0.get? b = some o → s.heap.get? b = some o) → (∃ L es ep t, Tups w s.heap S L es ep t ∧ Part ks i L) →
      (∀ s' L es ep t, Moved (S :: wr) G s s' → Tups w s'.heap S L es ep t → Part ks n L → (∀ b o, h0.get? b = some o → s'.heap.get? b = some o) → R (.ok (.ret .none)) s') → codeAny (model P w) A (.builtin "set.update.loop" ⟨[.ref S, .ref I], []⟩) R s := by
  have nw : S ∉ wr := fun z => nS (W.sub _ z)
  have wide : ∀ b ∈ wr, b ∈ S :: wr := fun b hb => List.mem_cons_of_mem _ hb
  have old : ∀ {s s' : Shared}, Moved wr G s s' → (∀ b o, h0.get? b = some o → s.heap.get? b = some o) → ∀ b o, h0.get? b = some o → s'.heap.get? b = some o := fun m k b o e => m.heap b o (fun z => by rw [hw0 b z] at e; cases e) (k b o e)
  have carry : ∀ {s s' : Shared} {i : Nat} {L es ep t}, Moved wr G s s' → (∀ b o, h0.get? b = some o → s'.heap.get? b = some o) → Part ks i L → Tups w s.heap S L es ep t → Tups w s'.heap S L es ep t := fun m k g R => R.later (fun o e => m.heap S o nw e) fun p hp => (hk p (List.mem_of_mem_take (g.inn p hp))).wide k
  intro j
  induction j with
  | zero =>
    intro i s hj hi hst hkp ⟨L, es, ep, t, hS, g⟩ hR
    obtain rfl : i = n := by omega
    refine codeAny_builtin F.entry_set_update_loop ?_
    rw [Around.under_plainId F.plain_set_update_loop _]
    show wpAny _ A.in1 (pyNext (.ref I) >>= _) _ _ s
    refine wpAny_bind (W.done s _ _ hst fun s' m => ?_)
    have k' := old m hkp
    show wpAny _ A.in1 (ret Value.none) _ _ s'
    exact wpAny_pure (hR s' L es ep t (m.mono wide) (carry m k' g hS) g k')
  | succ j ih =>
    intro i s hj hi hst hkp ⟨L, es, ep, t, hS, g⟩ hR
    have lt : i < n := by omega
    refine codeAny_builtin F.entry_set_update_loop ?_
    rw [Around.under_plainId F.plain_set_update_loop _]
    show wpAny _ A.in1 (pyNext (.ref I) >>= _) _ _ s
    refine wpAny_bind (W.item i s _ _ lt hst fun v s' hP hst' m => ?_)
    obtain ⟨p, hp, rfl⟩ := hval i v hP
    have k' := old m hkp
    have hx : At s'.heap p.2 p.1 := (hk p (List.mem_of_getElem? hp)).wide k'
    have hS' := carry m k' g hS
    show wpAny _ A.in1 (holding [Value.ref p.1] (setAdd S (.ref p.1)) >>= _) _ _ s'
    refine wpAny_bind (wpAny_holding ?_)
    unfold setAdd
    refine wpAny_holding (wpAny_bind (hx.hashed hu fun dn => ?_))
    refine put_in (s := { s' with toks := s'.toks + dn }) hS' hx hu (Nat.succ_lt_succ (bd L hS'.dif fun p hp => List.mem_of_mem_take (g.inn p hp))) fun b h2 L2 es2 ep2 t2 sb R2 c1 c2 => ?_
    have k2 : ∀ b o, h0.get? b = some o → h2.get? b = some o := fun b o e => (sb.2 b fun z => by rw [z, hS0] at e; cases e).trans (k' b o e)
    refine wpAny_pure ⟨plainId_quiet F.plain_set_update_loop _, ih (i + 1) _ (by omega) lt (W.frame _ s' _ _ hst' (Nat.le_add_right _ _) fun b hb o e => ?_) k2 ⟨L2, es2, ep2, t2, R2, g.next hp c1 c2⟩ fun s3 L3 es3 ep3 t3 m3 R3 g3 k3 => ?_⟩
    · rw [sb.2 b fun z : b = S => nS (z ▸ hb)]
      exact e
    · refine hR s3 L3 es3 ep3 t3 (Moved.trans W.gtrans ((m.mono wide).then_heap (Nat.le_add_right _ _) fun b o hb e => ?_) m3) R3 g3 k3
      rw [sb.2 b fun z : b = S => hb (z ▸ List.mem_cons_self)]
      exact e
end
end NSet
set_option Elab.async false
set_option linter.all false
set_option maxRecDepth 100000
set_option maxHeartbeats 4000000
namespace NSet
open PySem PySem.Spec PyProof.Rows L2
/-! X32: set(list of such tuples) -/
section
variable {P : Program} {w : World} {A : Around} {E : Value → Shared → Prop} {s : Shared}
/-- a set just made -/
abbrev blank (w : World) : Obj := { cls := .type "set", dict := none, data := .set #[] 0 (.fresh 0 0 (!w.params.followText "set-order")) }
theorem beyond {h : Heap} {b : Addr} (hb : h.objs.size ≤ b) : h.get? b = none := by
  cases e : h.get? b with
  | none => rfl
  | some o => exact absurd (Heap.lt_size e) (Nat.not_lt.mpr hb)
theorem set_of {l : Addr} {items : Array Value} (ks : List (Addr × List Cell)) {Q : Value → Shared → Prop} (hh : A.handled = none) (hl : s.heap.IsList l items) (hit : items.toList = ks.map fun p => Value.ref p.1) (hk : ∀ p ∈ ks, At s.heap p.2 p.1)
    (bd : ∀ L : List (Addr × List Cell), (L.map (·.2)).Nodup → (∀ p ∈ L, p ∈ ks) → L.length < 63) (hu : A.units + 3 + 8 < cLine)
    (out : ∀ (h' : Heap) (tk : Nat) L es ep t, Tups w h' s.heap.objs.size L es ep t → Part ks ks.length L → (∀ b o, s.heap.get? b = some o → h'.get? b = some o) → Q (.ref s.heap.objs.size) { s with heap := h', toks := tk }) :
    wpAny (model P w) A (call (.type "set") [.ref l]) Q E s := by
  have cnt : items.size = ks.length := by rw [← Array.length_toList, hit, List.length_map]
  obtain ⟨c, tl, hmro⟩ := F.called_set.mro
  have hmade := F.called_set.made
  have hsub := F.called_set.sub
  refine wpAny_call (codeAny_of_tree ?_)
  show wpAny _ _ (callAny (.type "set") _) _ _ _
  refine wpAny_pure ⟨Code.quiet_builtin _ (by decide +kernel), codeAny_builtin F.entry_type_call ?_⟩
  rw [Around.under_plain (weight_type_call_type "set" [.ref l] []) rfl]
  have h1 := F.called_set.notType
  have h2 := F.called_set.canCreate
  have hct := F.typeCall_set_1 (.ref l)
  repeat (any_goals (first | assumption | wp_step))
  refine codeAny_mono (code_set_led1 (.ref l) (E := E) (Q₁ := fun ob s₁ => ob = .ref s.heap.objs.size ∧ s₁ = { s with heap := s.heap.push (blank w) }) ⟨rfl, rfl⟩) fun r s₁ hr => ?_
  match r, hr with
  | .error e, hr => exact hr
  | .ok (.ret ob), hr =>
    obtain ⟨rfl, rfl⟩ := hr
    have hS : (s.heap.push (blank w)).get? s.heap.objs.size = some (blank w) := Heap.get?_push_size _ rfl
    have hT : Shared.TypeIs { s with heap := s.heap.push (blank w) } (.ref s.heap.objs.size) "set" := ⟨_, hS, rfl⟩
    have hli := F.called_set.init.lookup
    have hbi := F.called_set.init.bind (.ref s.heap.objs.size)
    repeat (any_goals (first | assumption | wp_step))
    refine codeAny_mono (codeAny_call_builtin (R := wants (fun r s₂ => r = .none ∧ ∃ h' tk L es ep t, s₂ = { s with heap := h', toks := tk } ∧ Tups w h' s.heap.objs.size L es ep t ∧ Part ks ks.length L ∧ (∀ b o, s.heap.get? b = some o → h'.get? b = some o)) E) F.called_set.init.plain F.entry_set_init (check_set_init_1 hT ?_)) fun r₂ s₂ hr₂ => ?_
    · obtain ⟨ol, hol, hcl, nl, hdl⟩ := hl
      obtain ⟨ocls, odict, odata, oslots⟩ := ol
      simp only at hcl hdl
      subst hcl hdl
      have hol' : (s.heap.push (blank w)).get? l = some { cls := .type "list", dict := odict, data := .seq items nl, slots := oslots } := Heap.get?_push_of_some _ hol
      have hsls := F.sub_list_set
      have hslf := F.sub_list_frozenset
      have hne : (Value.type "list" == Value.type "dict") = false := by decide
      have hl1 : (s.heap.push (blank w)).IsList l items := ⟨_, hol', rfl, nl, rfl⟩
      have ll : l < s.heap.objs.size := Heap.lt_size hol
      have hz : (s.heap.push (blank w)).objs.size = s.heap.objs.size + 1 := Heap.size_push ..
      unfold Builtin.«set.__init__» noKeywords Builtin.Frozenset.updateFrom
      generalize hPI : pyIter = PI
      wp_walk
      subst hPI
      refine wpAny_pyIter_list hl1 (wpAny_bind (wpAny_runValue ?_))
      have hh3 : A.in1.in1.in1.handled = none := by simp [hh]
      refine fill ((Walks.list hh3 _ l (by rw [hz]; exact Nat.ne_of_lt (Nat.lt_succ_of_lt ll)) items).toS) s.heap.objs.size ?f1 ks cnt bd (fun i v hv => ?f2) s.heap hk (beyond (Nat.le_refl _)) (fun b hb => ?f3) hu (items.size - 0) 0 _ rfl (Nat.zero_le _) ⟨⟨_, Heap.get?_push_size _ rfl, rfl, rfl⟩, hl1.push _⟩
        (fun b o e => Heap.get?_push_of_some _ (Heap.get?_push_of_some _ e)) ⟨[], #[], 0, _, Tups.new (Heap.get?_push_of_some _ hS), ⟨(fun p hp => by cases hp), (fun p hp => by rw [List.take_zero] at hp; cases hp), Nat.le_refl _⟩⟩ fun s' L es ep t m R g k => ?f4
      case f1 =>
        rw [hz]
        simp only [List.mem_cons, List.mem_singleton, List.not_mem_nil, or_false, not_or]
        exact ⟨Nat.ne_of_lt (Nat.lt_succ_self _), Nat.ne_of_gt ll⟩
      case f2 =>
        have q : (ks.map fun p => Value.ref p.1)[i]? = some v := by rw [← hit, Array.getElem?_toList]; exact hv
        rw [List.getElem?_map] at q
        obtain ⟨p, hp, e⟩ := Option.map_eq_some_iff.mp q
        exact ⟨p, hp, e.symm⟩
      case f3 =>
        refine beyond ?_
        rw [List.mem_singleton.mp hb, hz]
        exact Nat.le_succ _
      case f4 =>
        obtain ⟨h', g2, d', tk', os'⟩ := s'
        obtain rfl : g2 = s.gens := m.gens
        obtain rfl : d' = s.drawn := m.drawn
        obtain rfl : os' = s.os := m.os
        rw [cnt] at g
        show wpAny _ _ _ _ _ _
        refine wpAny_pure ?_
        show wpAny _ _ (ret Value.none) _ _ _
        exact wpAny_pure ⟨rfl, h', tk', L, es, ep, t, rfl, R, g, k⟩
    · match r₂, hr₂ with
      | .error e, hr₂ => exact hr₂
      | .ok (.ret r), hr₂ =>
        obtain ⟨rfl, h', tk, L, es, ep, t, rfl, R, g, k⟩ := hr₂
        repeat (any_goals (first | assumption | wp_step))
        exact out _ _ _ _ _ _ R g k
end
end NSet
set_option Elab.async false
set_option linter.all false
set_option maxRecDepth 100000
set_option maxHeartbeats 4000000
namespace NSet
open PySem PySem.Spec PyProof.Rows L2
/-! X33: sorted of a set of such tuples -/
def vc : Cell → V
  | .inl i => .int i
  | .inr x => .str x
def kc : Cell → Int ⊕ List Nat
  | .inl i => .inl i
  | .inr x => .inr x.cps.toList
/-- what kind of cell stands where -/
def Shp (sh : Nat → Bool) : Nat → List Cell → Prop
  | _, [] => True
  | i, .inl _ :: r => sh i = false ∧ Shp sh (i + 1) r
  | i, .inr _ :: r => sh i = true ∧ Shp sh (i + 1) r
/-- the tuple itself, its cells as values -/
def Tup (h : Heap) (k : List Cell) (a : Addr) : Prop := ∃ (o : Obj) (its : Array Value) (n : Nat), h.get? a = some o ∧ o.cls = .type "tuple" ∧ o.data = .seq its n ∧ Vals (k.map vc) its.toList
theorem Tup.wide {h h' : Heap} {k : List Cell} {a : Addr} (x : Tup h k a) (hk : ∀ b o, h.get? b = some o → h'.get? b = some o) : Tup h' k a := by
  obtain ⟨o, its, n, ho, z⟩ := x
  exact ⟨o, its, n, hk _ _ ho, z⟩
theorem all_of_vals {h : Heap} : ∀ {k : List Cell} {us : List Value}, Vals (k.map vc) us → NestedAll h (k.map cell) us
  | [], _, .nil => .nil
  | .inl i :: k, _, .cons r t => by
    obtain ⟨tk, rfl⟩ := r
    exact .cons (.int i tk) (all_of_vals t)
  | .inr x :: k, _, .cons r t => by
    obtain ⟨tk, rfl⟩ := r
    exact .cons (.text x tk) (all_of_vals t)
theorem Tup.at {h : Heap} {k : List Cell} {a : Addr} (x : Tup h k a) : At h k a := by
  obtain ⟨o, its, n, ho, hc, hd, r⟩ := x
  exact .tup ho hc hd (all_of_vals r)
theorem items_vals {sh : Nat → Bool} : ∀ {k : List Cell} {i : Nat} {us : List Value}, Vals (k.map vc) us → Shp sh i k → tupItems sh i us = some (k.map kc)
  | [], _, _, .nil, _ => by simp [tupItems]
  | .inl n :: k, i, _, .cons r t, h => by
    obtain ⟨tk, rfl⟩ := r
    have e := items_vals t h.2
    rw [tupItems, if_neg (by rw [h.1]; exact Bool.false_ne_true), e]
    rfl
  | .inr x :: k, i, _, .cons r t, h => by
    obtain ⟨tk, rfl⟩ := r
    have e := items_vals t h.2
    rw [tupItems, if_pos h.1, e]
    rfl
theorem Tup.key {h : Heap} {sh : Nat → Bool} {k : List Cell} {a : Addr} (x : Tup h k a) (z : Shp sh 0 k) : G.tupKeyC h sh (.ref a) = some (k.map kc) := by
  obtain ⟨o, its, n, ho, hc, hd, r⟩ := x
  unfold G.tupKeyC
  have e1 : G.isTupObj h (.ref a) = true := by simp [G.isTupObj, ho, hc]
  rw [if_pos e1]
  simp only [tupKey, ho, hd]
  exact items_vals r z
theorem Tup.first {h : Heap} {sh : Nat → Bool} {k : List Cell} {a : Addr} (x : Tup h k a) (z : Shp sh 0 k) (ne : k ≠ []) : ∃ f, TupOf h sh (.ref a) f := by
  obtain ⟨o, its, n, ho, hc, hd, r⟩ := x
  obtain ⟨c, k, rfl⟩ := List.exists_cons_of_ne_nil ne
  have f0 : ∀ {u us}, its.toList = u :: us → its[0]? = some u := fun {u us} e => by
    rw [← Array.getElem?_toList, e]
    rfl
  generalize hits : its.toList = l at r f0
  cases c with
  | inl i =>
    cases r with
    | cons r1 rs =>
      obtain ⟨tk, rfl⟩ := r1
      exact ⟨_, a, o, its, n, rfl, ho, hc, hd, f0 rfl, fun _ => ⟨i, tk, rfl⟩, fun q => absurd (z.1.symm.trans q) Bool.false_ne_true⟩
  | inr y =>
    cases r with
    | cons r1 rs =>
      obtain ⟨tk, rfl⟩ := r1
      exact ⟨_, a, o, its, n, rfl, ho, hc, hd, f0 rfl, fun q => absurd (q.symm.trans z.1) Bool.false_ne_true, fun _ => ⟨y, tk, rfl⟩⟩
theorem firsts {h : Heap} {sh : Nat → Bool} : ∀ L : List (Addr × List Cell), (∀ p ∈ L, Tup h p.2 p.1 ∧ Shp sh 0 p.2 ∧ p.2 ≠ []) → ∃ fs, TupsOf h sh (L.map fun p => Value.ref p.1) fs
  | [], _ => ⟨[], .nil⟩
  | p :: L, hp => by
    obtain ⟨fs, hf⟩ := firsts L fun q hq => hp q (List.mem_cons_of_mem _ hq)
    obtain ⟨h1, h2, h3⟩ := hp p List.mem_cons_self
    obtain ⟨f, h4⟩ := h1.first h2 h3
    exact ⟨f :: fs, .cons h4 hf⟩
theorem unmap {α β : Type} (f : α → β) {l m : List β} (h : l.Perm m) : ∀ ps : List α, m = ps.map f → ∃ qs : List α, qs.Perm ps ∧ l = qs.map f := by
  induction h with
  | nil =>
    intro ps e
    cases ps with
    | nil => exact ⟨[], .refl _, rfl⟩
    | cons p r => cases e
  | cons x _ ih =>
    intro ps e
    cases ps with
    | nil => cases e
    | cons p r =>
      obtain ⟨e1, e2⟩ := List.cons.inj e
      obtain ⟨qs, h1, h2⟩ := ih r e2
      exact ⟨p :: qs, h1.cons p, by rw [List.map_cons, ← h2, e1]⟩
  | swap x y l =>
    intro ps e
    match ps, e with
    | a :: b :: r, e =>
      obtain ⟨e1, e2⟩ := List.cons.inj e
      obtain ⟨e3, e4⟩ := List.cons.inj e2
      exact ⟨b :: a :: r, .swap _ _ _, by rw [e1, e3, e4]; rfl⟩
  | trans _ _ ih1 ih2 =>
    intro ps e
    obtain ⟨q2, p2, e2⟩ := ih2 ps e
    obtain ⟨q1, p1, e1⟩ := ih1 q2 e2
    exact ⟨q1, p1.trans p2, e1⟩
/-- in the order of their keys -/
def InOrder (L : List (Addr × List Cell)) : Prop := L.Pairwise fun q r => lexLt itemOrd (r.2.map kc) (q.2.map kc) = false
theorem placed {h : Heap} {sh : Nat → Bool} {ps : List (Addr × List Cell)} (hp : ∀ q ∈ ps, G.tupKeyC h sh (.ref q.1) = some (q.2.map kc)) {arr : Array Keyed}
    (h1 : arr.Perm (pairsOf (ps.map fun q => Value.ref q.1))) (h2 : SortedToK (G.tupKindC h sh) arr (pairsOf (ps.map fun q => Value.ref q.1)).size) :
    ∃ qs : List (Addr × List Cell), qs.Perm ps ∧ InOrder qs ∧ (arr.map (·.2)).toList = qs.map fun q => Value.ref q.1 := by
  have e := Array.perm_iff_toList_perm.mp h1
  have ez : (pairsOf (ps.map fun q => Value.ref q.1)).toList = ps.map fun q => ((Value.ref q.1, Value.ref q.1) : Keyed) := by
    rw [pairsOf_toList]
    clear hp h1 h2 e
    induction ps with
    | nil => rfl
    | cons q r ih => rw [List.map_cons, List.zip_cons_cons, ih, List.map_cons]
  rw [ez] at e
  obtain ⟨qs, p1, e1⟩ := unmap _ e ps rfl
  refine ⟨qs, p1, ?_, ?_⟩
  · unfold InOrder
    rw [List.pairwise_iff_getElem]
    intro i j hi hj hij
    have hlen : (pairsOf (ps.map fun q => Value.ref q.1)).size = qs.length := by rw [pairsOf_size, List.length_map, p1.length_eq]
    have kk : ∀ (k : Nat) (hk : k < qs.length), KK (G.tupKindC h sh) arr k = qs[k].2.map kc := fun k hk => by
      have e2 : arr[k]? = some ((Value.ref qs[k].1, Value.ref qs[k].1) : Keyed) := by
        rw [← Array.getElem?_toList, e1, List.getElem?_map, List.getElem?_eq_getElem hk]
        rfl
      unfold KK
      rw [e2]
      show (G.tupKeyC h sh (.ref qs[k].1)).getD _ = _
      rw [hp _ (p1.mem_iff.mp (List.getElem_mem hk))]
      rfl
    have := h2 i j (Nat.le_of_lt hij) (by rw [hlen]; exact hj)
    rw [kk i hi, kk j hj] at this
    exact this
  · rw [Array.toList_map, e1, List.map_map]
    rfl
section
variable {P : Program} {w : World} {A : Around} {E : Value → Shared → Prop} {s : Shared} {a : Addr} {L : List (Addr × List Cell)} {es : Array (Int × Value)} {ep : Nat} {t : SetTable}
theorem sorted_set {Q : Value → Shared → Prop} (R : Tups w s.heap a L es ep t) (hh : A.handled = none) {sh : Nat → Bool} (hs : ∀ p ∈ L, Tup s.heap p.2 p.1 ∧ Shp sh 0 p.2 ∧ p.2 ≠ [])
    (res : ∀ s' p (out : Array Value) (c : Nat) L', (∀ b o, s.heap.get? b = some o → s'.heap.get? b = some o) → s'.gens = s.gens → s'.os = s.os → s.heap.objs.size ≤ p →
      s'.heap.get? p = some (seqObj "list" out c) → out.toList = L'.map (fun q => Value.ref q.1) → L'.Perm L → InOrder L' → Q (.ref p) s') :
    wpAny (model P w) A (call (.builtin "sorted") [.ref a]) Q E s := by
  obtain ⟨o, ho, hex, hd⟩ := R.obj
  have few := R.few
  have cnt := R.count
  refine Calls.call_function_entry kind_sorted plain_sorted entry_sorted (args_sorted1 _) ?_
  unfold Builtin.«sorted»
  refine wpAny_bind (m := checkCount "sorted" 1 1 _) (wpAny_pure ?_)
  refine wpAny_bind (collect_set (A := A.in1) hh ⟨o, ho, hex.1, hd⟩ R.fit (by unfold scanBound; omega) R.tab.ris R.led fun s1 vs k1 hz g1 o1 pm => ?_)
  have hes : es.toList.map (·.2) = L.map fun q => Value.ref q.1 := by
    rw [R.row, List.map_map]
    rfl
  rw [hes] at pm
  obtain ⟨L1, p1, rfl⟩ := unmap _ pm L rfl
  have n1 : L1.length < 64 := by rw [p1.length_eq]; exact few
  refine wpAny_bind (wpAny_newList ?_ (by rw [List.length_map, sizeLine_eq]; omega))
  have hoL : (s1.heap.push (seqObj "list" (L1.map fun q => Value.ref q.1).toArray 0)).get? s1.heap.objs.size = some (seqObj "list" (L1.map fun q => Value.ref q.1).toArray 0) := Heap.get?_push_size _ rfl
  have tp : ∀ q ∈ L1, Tup (s1.heap.push (seqObj "list" (L1.map fun q => Value.ref q.1).toArray 0)) q.2 q.1 ∧ Shp sh 0 q.2 ∧ q.2 ≠ [] := fun q hq => by
    obtain ⟨h1, h2⟩ := hs q (p1.mem_iff.mp hq)
    exact ⟨h1.wide fun b u e => Heap.get?_push_of_some _ (k1 b u e), h2⟩
  obtain ⟨fs, hf⟩ := firsts L1 tp
  have keys : ∀ q ∈ L1, G.tupKeyC (s1.heap.push (seqObj "list" (L1.map fun q => Value.ref q.1).toArray 0)) sh (.ref q.1) = some (q.2.map kc) := fun q hq => (tp q hq).1.key (tp q hq).2.1
  refine wpAny_bind (wpAny_holding (wpAny_call_entry slot_list_sort ⟨_, hoL, rfl⟩ entry_list_sort (G.list_sort_tups (s := { s1 with heap := s1.heap.push (seqObj "list" (L1.map fun q => Value.ref q.1).toArray 0) }) hoL hf (fun v hv => ?_) (by rw [List.length_map, sizeLine_eq]; omega) fun st' a1 a2 a3 => ⟨_, rfl, ?_⟩) (args_list_sort _)))
  · obtain ⟨q, hq, rfl⟩ := List.mem_map.mp hv
    exact ⟨_, keys q hq⟩
  · obtain ⟨L2, q1, q2, q3⟩ := placed keys a1 a2
    obtain ⟨c, hc⟩ := sortedHeap_at (vs := L1.map fun q => Value.ref q.1) (out := (arrOf st').map (·.2)) hoL
    refine wpAny_pure ⟨_, rfl, res _ s1.heap.objs.size _ c L2 (fun b u e => ?_) g1 o1 hz hc q3 (q1.trans p1) q2⟩
    have q := k1 b u e
    have hlt := Heap.lt_size q
    show (sortedHeap (s1.heap.push (seqObj "list" (L1.map fun q => Value.ref q.1).toArray 0)) s1.heap.objs.size _ _).get? b = some u
    rw [sortedHeap_old (Nat.ne_of_lt hlt) (by rw [size_push']; exact Nat.lt_succ_of_lt hlt)]
    exact Heap.get?_push_of_some _ q
end
end NSet
set_option Elab.async false
set_option linter.all false
set_option maxRecDepth 100000
set_option maxHeartbeats 4000000
namespace NSet
open PySem PySem.Spec PyProof.Rows L2
/-! X34: such sets as tracked objects, set(list), sorted(set) -/
/-- the set at a, but for the tuples themselves -/
structure Bare (w : World) (a : Addr) (L : List (Addr × List Cell)) (h : Heap) : Prop where
  ex : ∃ (es : Array (Int × Value)) (ep : Nat) (t : SetTable), (∃ o, h.get? a = some o ∧ o.ExactSet ∧ o.data = .set es ep t) ∧ es.toList = L.map (fun p => (hsh w p.2, Value.ref p.1)) ∧ TabOk t (L.map fun p => hsh w p.2) ∧ (L.map (·.2)).Nodup ∧
    (w.params.followText "set-order" = true ∨ t.led = true) ∧ L.length * 5 < t.mask * 3 ∧ L.length < 64
def SetN (w : World) (a : Addr) (L : List (Addr × List Cell)) : HO := .ext (Bare w a L)
theorem Tups.bare {w : World} {h : Heap} {a : Addr} {L : List (Addr × List Cell)} {es : Array (Int × Value)} {ep : Nat} {t : SetTable} (R : Tups w h a L es ep t) : Bare w a L h := ⟨es, ep, t, R.obj, R.row, R.tab, R.dif, R.led, R.gap, R.few⟩
theorem Bare.full {w : World} {h : Heap} {a : Addr} {L : List (Addr × List Cell)} (R : Bare w a L h) (ht : ∀ p ∈ L, At h p.2 p.1) : ∃ es ep t, Tups w h a L es ep t := by
  obtain ⟨es, ep, t, h1, h2, h3, h4, h5, h6, h7⟩ := R.ex
  exact ⟨es, ep, t, h1, h2, h3, h4, ht, h5, h6, h7⟩
theorem setN_ok {P : Program} {w : World} {H : Hp} {h : Heap} {a : Addr} {L : List (Addr × List Cell)} (R : Bare w a L h) : ObjOk P w H h a (SetN w a L) := by
  obtain ⟨es, ep, t, ⟨o, ho, r⟩, q⟩ := id R.ex
  refine ⟨R, ⟨o, ho⟩, fun h1 h2 p k => ?_⟩
  obtain ⟨es', ep', t', ⟨o', ho', r'⟩, q'⟩ := Bare.ex p
  exact ⟨es', ep', t', ⟨o', k o' ho', r'⟩, q'⟩
theorem refs_vals : ∀ {ks : List (Addr × List Cell)} {us : List Value}, Vals (ks.map fun p => V.ref p.1) us → us = ks.map fun p => Value.ref p.1
  | [], _, .nil => rfl
  | p :: ks, _, .cons r t => by
    cases r
    rw [refs_vals t]
    rfl
theorem vals_refs : ∀ (ks : List (Addr × List Cell)), Vals (ks.map fun p => V.ref p.1) (ks.map fun p => Value.ref p.1)
  | [] => .nil
  | p :: ks => .cons rfl (vals_refs ks)
section
variable {X : Cx}
theorem tup_of {pins : List (Addr × Obj)} {σ : L2.St} {H : Hp} {s : Shared} {b : Addr} {k : List Cell} (I : Inv X pins σ H s) (h : SqT X.K H b (k.map vc)) : Tup s.heap k b := by
  obtain ⟨its, r, ⟨o, ho, hc, n, hd⟩, _⟩ := I.tuple h
  exact ⟨o, its.toArray, n, ho, hc, hd, by simpa using r⟩
/-- set(xs), xs a list of such tuples -/
def rSetN (K : PySem.W.Frag) (w : World) : List V → Hp → VK → Prop := fun xs H Q => ∃ (l : Addr) (ks : List (Addr × List Cell)), xs = [V.ref l] ∧ SqL K H l (ks.map fun p => V.ref p.1) ∧ (∀ p ∈ ks, SqT K H p.1 (p.2.map vc)) ∧ (∀ L : List (Addr × List Cell), (L.map (·.2)).Nodup → (∀ p ∈ L, p ∈ ks) → L.length < 63) ∧
  ∀ a L, H a = none → (L.map (·.2)).Nodup → (∀ p ∈ L, p ∈ ks) → (∀ p ∈ ks, p.2 ∈ L.map (·.2)) → Q (.ref a) (upd H a (SetN w a L))
theorem cr_setN (hc : X.calm = true) (hu : X.A.units + 64 < cLine) : CallR X (.type "set") (rSetN X.K X.w) := by
  intro pins s σ H xs us Q I r h
  obtain ⟨l, ks, rfl, hl, hk, hf, q⟩ := h
  rw [Vals.ref1 r]
  obtain ⟨its, rv, pl, hz⟩ := I.list hl
  have hn : H s.heap.objs.size = none := I.hok.fresh (Nat.le_refl _)
  refine set_of (P := X.prog) (w := X.w) ks (I.ok.hd hc) pl.isList (by simpa using refs_vals rv) (fun p hp => (tup_of I (hk p hp)).at) hf (by omega) fun h' tk L es ep t R g k => ?_
  refine ⟨.ref s.heap.objs.size, upd H s.heap.objs.size (SetN X.w s.heap.objs.size L), I.laid (t' := tk) k (Nat.le_refl _) (setN_ok R.bare), rfl, q _ L hn R.dif (fun p hp => List.mem_of_mem_take (g.inn p hp)) fun p hp => g.cov p (by rw [List.take_length]; exact hp)⟩
/-- sorted(set) -/
def rSortN (K : PySem.W.Frag) (w : World) : List V → Hp → VK → Prop := fun vs H Q => ∃ (a : Addr) (L : List (Addr × List Cell)) (sh : Nat → Bool), vs = [V.ref a] ∧ H a = some (SetN w a L) ∧ (∀ p ∈ L, SqT K H p.1 (p.2.map vc) ∧ Shp sh 0 p.2 ∧ p.2 ≠ []) ∧
  ∀ (L' : List (Addr × List Cell)) (p : Addr), L'.Perm L → (L'.map (·.2)).Nodup → L'.length < 64 → InOrder L' → H p = none → Q (.ref p) (upd H p (.lst (L'.map fun q => V.ref q.1)))
theorem cr_sortN (hc : X.calm = true) : CallR X (.builtin "sorted") (rSortN X.K X.w) := by
  intro pins s σ H vs us Q I r h
  obtain ⟨a, L, sh, rfl, ha, hk, q⟩ := h
  have R0 : Bare X.w a L s.heap := (I.hok a _ ha).1
  obtain ⟨es, ep, t, R⟩ := R0.full fun p hp => (tup_of I (hk p hp).1).at
  rw [Vals.ref1 r]
  refine sorted_set R (I.ok.hd hc) (fun p hp => ⟨tup_of I (hk p hp).1, (hk p hp).2⟩) fun s' p out c L' k g o hp hg hout pm pw => ?_
  have hfew : L'.length < 64 := by rw [pm.length_eq]; exact R.few
  have hlen : (L'.map fun q => V.ref q.1).length ≤ sizeLine := by rw [List.length_map, sizeLine_eq]; omega
  have hn : H p = none := I.hok.fresh hp
  have hv : Vals (L'.map fun q => V.ref q.1) out.toList := by rw [hout]; exact vals_refs L'
  have J : Inv X pins σ (upd H p (.lst (L'.map fun q => V.ref q.1))) s' :=
    I.call' (ch := []) o (Un.laid k hp hn) (I.hok.laid k hp ⟨hlen, out.toList, c, hv, hg⟩) (by rw [g]; exact I.bare) (fun _ z => nomatch z)
  exact ⟨.ref p, _, J, rfl, q L' p pm ((pm.map (·.2)).nodup_iff.mpr R.dif) hfew pw hn⟩
end
end NSet
set_option Elab.async false
set_option linter.all false
set_option maxRecDepth 100000
set_option maxHeartbeats 4000000
namespace NSet
open PySem PySem.Spec PyProof.Rows L2
/-! X35: {a tuple of numbers and texts for .. in ..} -/
/-- the tuple y put into the set at D -/
def putN (K : PySem.W.Frag) (w : World) (D : Addr) (y : V) (H : Hp) (Nx : Hp → Prop) : Prop := ∃ (x : Addr) (k : List Cell) (L : List (Addr × List Cell)), y = .ref x ∧ SqT K H x (k.map vc) ∧ H D = some (SetN w D L) ∧ (∀ p ∈ L, SqT K H p.1 (p.2.map vc)) ∧ L.length + 1 < 64 ∧
  ∀ L', (k ∈ L.map (·.2) → L' = L) → (k ∉ L.map (·.2) → L'.Perm ((x, k) :: L)) → Nx (upd H D (SetN w D L'))
section
variable {X : Cx}
theorem put_ok {pins : List (Addr × Obj)} {σ : L2.St} {H : Hp} {s : Shared} {E : Value → Shared → Prop} {D : Addr} {y : V} {z : Value} {Nx : Hp → Prop} {Q : Value → Shared → Prop} (I : Inv X pins σ H s) (hu : X.A.units + 64 < cLine) (r : RelV y z) (p : putN X.K X.w D y H Nx)
    (out : ∀ H' s', Inv X pins σ H' s' → Nx H' → Q .none s') : wpAny (model X.prog X.w) X.A (call (.builtin "set.add") [.ref D, z]) Q E s := by
  obtain ⟨x, k, L, rfl, hx, hD, hL, room, nx⟩ := p
  cases r
  obtain ⟨es, ep, t, R⟩ := (show Bare X.w D L s.heap from (I.hok D _ hD).1).full fun q hq => (tup_of I (hL q hq)).at
  have ax : At s.heap k x := (tup_of I hx).at
  obtain ⟨o, ho, hex, hd⟩ := R.obj
  refine wpAny_call_entry F.slot_set_add (show s.TypeIs (.ref D) "set" from ⟨o, ho, hex.1⟩) F.entry_set_add ?_ (F.args_set_add_2 _ _)
  unfold Builtin.«set.add» Builtin.Frozenset.oneOther
  simp only [List.isEmpty_nil, bind_assoc]
  unfold Builtin.Frozenset.addrOf setAdd
  refine wpAny_bind (wpAny_pure ?_)
  try dsimp only
  refine wpAny_bind (wpAny_pure ?_)
  try dsimp only
  refine wpAny_bind (wpAny_holding (wpAny_bind (ax.hashed (by show X.A.in1.units + 8 < cLine; have : X.A.in1.units ≤ X.A.units + 1 := Nat.le_refl _; omega) fun dn => ?_)))
  refine put_in (s := { s with toks := s.toks + dn }) R ax (by show X.A.in1.units + 8 < cLine; have : X.A.in1.units ≤ X.A.units + 1 := Nat.le_refl _; omega) room fun b h' L' es' ep' t' sb R2 c1 c2 => ?_
  show wpAny _ _ (ret Value.none) _ _ _
  have he : ∃ u, h'.get? D = some u := by
    obtain ⟨o2, ho2, _⟩ := R2.obj
    exact ⟨o2, ho2⟩
  exact wpAny_pure ⟨_, rfl, out _ _ (I.write (e := D) (t' := s.toks + dn) (by rw [hD]; trivial) (.inl rfl) (fun c u hc e => (sb.2 c hc).trans e) he (setN_ok R2.bare)) (nx L' c1 c2)⟩
/-- what the comprehension owes: D the new set -/
def tScN (K : PySem.W.Frag) (w : World) (wi : TI) (g : TG) (tt : TT) (te : TE) (vs : List Nat) : TE := fun σ H Q => wi σ H fun J H1 => ∀ D, H1 D = none → ∃ W : Nat → Nat → Hp → Prop, (∃ m, W 0 m (upd H1 D (SetN w D []))) ∧ ∀ i m H, W i m H →
  (J.stop i H ∧ Q (.ref D) H) ∨ (J.go i H ∧ ∃ Nx : Hp → Prop, (∀ H', Nx H' → ∃ m', m' < m ∧ W (i + 1) m' H') ∧ ∀ x H', J.yld i H x H' → g x (wipe σ vs) H' fun σ2 H2 => wipe σ2 vs = wipe σ vs ∧ tt σ2 H2 fun b H3 =>
    if b = true then te σ2 H3 fun y H4 => putN K w D y H4 Nx else Nx H3)
section
variable {elt tg iter : Expr} {ifs : List Expr} {scope : Scope} {own : List (PySem.Str × Nat)} {pos : Pos} {wi : TI} {g : TG} {tt : TT} {te : TE}
/-- the comprehension as a value -/
theorem pe_scN (hc : X.calm = true) (hu : X.A.units + 64 < cLine) (hN : X.N.Nodup) (hi : PI X tg iter wi) (ok : BlkOk X.N X.env.scope scope own)
    (hg : ∀ (s : Shared) (H : Hp) (C : Addr) (cl : List (PySem.Str × Addr)) (fp : List Addr), PG (X.blk s H scope (compEnvC scope cl C X.env) fp) tg g)
    (ht : ∀ (s : Shared) (H : Hp) (C : Addr) (cl : List (PySem.Str × Addr)) (fp : List Addr), PTs (X.blk s H scope (compEnvC scope cl C X.env) fp) ifs tt)
    (he : ∀ (s : Shared) (H : Hp) (C : Addr) (cl : List (PySem.Str × Addr)) (fp : List Addr), PE (X.blk s H scope (compEnvC scope cl C X.env) fp) elt te)
    (hs : ∀ x, foldedSetIterable iter X.env x = pure x := by intro _; rfl) :
    PE X (.SetComp elt [⟨tg, iter, ifs, 0⟩] scope pos) (tScN X.K X.w wi g tt te (own.map (·.2))) := by
  refine ⟨fun pins s σ H Q I h => ?_⟩
  rw [PpSet.eval_SetComp]
  have clo : ∀ y ∈ scope.names, y.2 = .free → ∃ c, X.env.cells.lookup y.1 = some c := fun y hy e => I.ok.has _ (ok.free y hy e)
  refine wpAny_comprehension_free (use := none) rfl hs (closure_ok clo) ok.kind (fun y hy e => by rw [ok.uniq y hy, e]) (thn (hi.run pins s σ H _ I h) fun xv s1 hx => thn hx fun itv s2 h2 => ?_)
  obtain ⟨it, fp, tn, J, H2, rfl, I2, T, st2, f2, q⟩ := h2
  refine PpSet.newSet_ok (newEnv_comp ?_)
  generalize hD : s2.heap.objs.size = D
  have nD : H2 D = none := I2.hok.fresh (Nat.le_of_eq hD)
  obtain ⟨W, ⟨m0, w0⟩, turn⟩ := q D nD
  -- the empty set stands
  obtain ⟨s3, e3⟩ : ∃ s3 : Shared, s3 = { s2 with heap := s2.heap.push (blank X.w) } := ⟨_, rfl⟩
  have hp3 : s3.heap = s2.heap.push (blank X.w) := by rw [e3]
  obtain ⟨H3, eH⟩ : ∃ H3 : Hp, H3 = upd H2 D (SetN X.w D []) := ⟨_, rfl⟩
  have at3 : s3.heap.get? D = some (blank X.w) := by rw [hp3, ← hD]; exact Heap.get?_push_size _ rfl
  have I3 : Inv X pins σ H3 s3 := by
    rw [eH, e3]
    exact I2.laid (t' := s2.toks) (fun b o e => Heap.get?_push_of_some _ e) (Nat.le_of_eq hD) (setN_ok (Tups.new (by rw [hp3] at at3; exact at3)).bare)
  rw [← eH] at w0
  have under : ∀ b ∈ fp, b < s2.heap.objs.size := fun b hb => by
    obtain ⟨o, e, _⟩ := T.obj _ _ st2 b hb
    exact Heap.lt_size e
  have f3 : ∀ b ∈ fp, FpOk X pins H3 b ∧ b < s3.heap.objs.size := fun b hb => by
    have lt := under b hb
    refine ⟨⟨?_, (f2 b hb).2⟩, by rw [hp3, Heap.size_push]; exact Nat.lt_succ_of_lt lt⟩
    rw [eH, upd_ne (by rw [← hD]; exact Nat.ne_of_lt lt)]
    exact (f2 b hb).1
  have st3 : tn 0 s3.heap := T.keep _ _ _ st2 fun b _ o e => by rw [hp3]; exact Heap.get?_push_of_some _ e
  have I4 := block_start I3 ok hN f3
  have pg := hg s3 H3 s3.heap.objs.size (cellsFrom (s3.heap.objs.size + 1) scope.names (cloFrom X.env.cells scope.names [])) fp
  have pt := ht s3 H3 s3.heap.objs.size (cellsFrom (s3.heap.objs.size + 1) scope.names (cloFrom X.env.cells scope.names [])) fp
  have pe := he s3 H3 s3.heap.objs.size (cellsFrom (s3.heap.objs.size + 1) scope.names (cloFrom X.env.cells scope.names [])) fp
  subst e3
  show codeAny _ _ (.compStart _ 0 (.ref it) (.ref D) (compEnvC scope (cellsFrom ((s2.heap.push (blank X.w)).objs.size + 1) scope.names (cloFrom X.env.cells scope.names [])) (s2.heap.push (blank X.w)).objs.size X.env)) (compPost (model X.prog X.w) X.A X.xe none (EP X pins σ Q) (.ref D) (s2.heap.push (blank X.w)).objs.size) { s2 with heap := pushCells ((s2.heap.push (blank X.w)).push { cls := .type "dict", data := .dict #[] }) scope.names }
  generalize e3 : ({ s2 with heap := s2.heap.push (blank X.w) } : Shared) = s3 at *
  rw [← hp3]
  have none3 : ∀ b ∈ fp, H3 b = none := fun b hb => (f3 b hb).1.1
  generalize hce : compEnvC scope (cellsFrom (s3.heap.objs.size + 1) scope.names (cloFrom X.env.cells scope.names [])) s3.heap.objs.size X.env = ce at I4 pg pt pe ⊢
  have cL : ce.locals = s3.heap.objs.size := by rw [← hce]; rfl
  have es : ({ s2 with heap := pushCells (s3.heap.push { cls := .type "dict", data := .dict #[] }) scope.names } : Shared) = { s3 with heap := pushCells (s3.heap.push { cls := .type "dict", data := .dict #[] }) scope.names } := by rw [← e3]
  rw [es]
  generalize hs4 : ({ s3 with heap := pushCells (s3.heap.push { cls := .type "dict", data := .dict #[] }) scope.names } : Shared) = s4 at I4 ⊢
  have st4 : tn 0 s4.heap := T.keep _ _ _ st3 fun b _ o e => by rw [← hs4]; exact pushCells_keeps _ _ _ _ (Heap.get?_push_of_some _ e)
  have foot : ∀ {σ' : L2.St} {H' : Hp} {s' : Shared}, Inv (X.blk s3 H3 scope ce fp) [] σ' H' s' → (∀ b ∈ fp, H' b = none) → ∀ b ∈ fp, FpOk (X.blk s3 H3 scope ce fp) [] H' b := fun {σ' H' s'} I' hn b hb =>
    ⟨hn b hb, (I'.ok.exf b hb).1, I'.ok.exfs b hb, .inl hb, fun x c e => (I'.ok.exf b hb).2 x c e, fun p hp => nomatch (show p ∈ ([] : List (Addr × Obj)) from by simpa using hp)⟩
  have loop : codeAny (model X.prog X.w) X.A (.compLoop (.SetComp elt [⟨tg, iter, ifs, 0⟩] scope pos) 0 (.ref it) (.ref D) ce) (compPost (model X.prog X.w) X.A X.xe none (EP X pins σ Q) (.ref D) s3.heap.objs.size) s4 := by
    refine PpSet.compLoopS_any (fun n s' => ∃ i H', Inv (X.blk s3 H3 scope ce fp) [] (wipe σ (own.map (·.2))) H' s' ∧ tn i s'.heap ∧ (∀ b ∈ fp, H' b = none) ∧ W i n H') ?_ m0 ⟨0, H3, I4, st4, none3, w0⟩
    rintro n s5 ⟨i, H5, I5, st5, n5, w5⟩
    rcases turn i n H5 w5 with ⟨stop, qq⟩ | ⟨go, Nx, hNx, step⟩
    · refine thnF (T.done (X.blk s3 H3 scope ce fp) rfl rfl rfl hc i [] s5 _ H5 (fun _ _ => False) I5 (foot I5 n5) st5 stop) fun r s6 ⟨hr, I6⟩ => ?_
      subst hr
      have I7 : Inv X pins σ H5 s6 := I3.call' (ch := fp) I6.os I6.base I6.hok I6.bare fun b hb => ⟨(f3 b hb).1.2.2.2.1, (f3 b hb).1.2.1, (f3 b hb).1.2.2.2.2.1, (f3 b hb).1.2.2.2.2.2⟩
      have nC : H5 s3.heap.objs.size = none := by
        have z : H5 ce.locals = none := I6.free
        rwa [cL] at z
      obtain ⟨m, hn, _⟩ := I6.loc
      have hn2 : s6.heap.Ns ce.locals m := hn
      rw [cL] at hn2
      refine ⟨m, hn2, fun h'' sb => ?_⟩
      obtain ⟨g0, g1, g2, g3, g4, g5⟩ := I3.fpOk (Nat.le_refl _) nC
      exact ⟨.ref D, H5, I7.turned (t' := s6.toks) (fun b o hb e => (sb.2 b hb).trans e) g0 g1 g3 g4 g5, rfl, qq⟩
    · refine thnF (T.item (X.blk s3 H3 scope ce fp) rfl rfl rfl hc i [] s5 _ H5 (fun _ _ => False) I5 (foot I5 n5) st5 go) fun r s6 ⟨u, hr, h6⟩ => ?_
      subst hr
      refine thnF h6 fun _ s7 ⟨x, H7, I7, r7, y7, st7, n7⟩ => ?_
      refine thnF (pg.run _ s7 _ H7 x u _ (I7.pinned (foot I7 n7) (T.obj _ _ st7)) r7 (step x H7 y7)) fun _ s8 ⟨σ8, H8, I8, hw8, q8⟩ => ?_
      refine thnF (pt.run _ s8 σ8 H8 _ I8 q8) fun b s9 ⟨H9, I9, q9⟩ => ?_
      have next : ∀ {s' : Shared} {H' : Hp}, Inv (X.blk s3 H3 scope ce fp) ([] ++ pinsAt fp s7.heap) σ8 H' s' → Nx H' → ∃ m, m < n ∧ ∃ i H', Inv (X.blk s3 H3 scope ce fp) [] (wipe σ (own.map (·.2))) H' s' ∧ tn i s'.heap ∧ (∀ b ∈ fp, H' b = none) ∧ W i m H' := fun {s' H'} I' nx => by
        obtain ⟨m', hm, w'⟩ := hNx H' nx
        have fixed : ∀ b ∈ fp, ∀ o, s7.heap.get? b = some o → s'.heap.get? b = some o ∧ H' b = none := fun b hb o e =>
          let z := I'.pin (b, o) (List.mem_append_right _ (List.mem_append_right _ (mem_pinsAt hb e)))
          ⟨z.1, z.2.1⟩
        refine ⟨m', hm, i + 1, H', (I'.unpinned (pins := [])).weak (by rw [← hw8, wipe_length]) (fun j v e => ?_), T.keep _ _ _ st7 fun b hb o e => (fixed b hb o e).1, fun b hb => ?_, w'⟩
        · rw [← hw8] at e
          exact (wipe_some e).1
        · obtain ⟨o, e, _⟩ := T.obj _ _ st7 b hb
          exact (fixed b hb o e).2
      cases b with
      | false =>
        simp only [Bool.false_eq_true, if_false] at q9 ⊢
        exact next I9 q9
      | true =>
        simp only [if_true] at q9 ⊢
        refine thnF (pe.run _ s9 σ8 H9 _ I9 q9) fun z s10 ⟨yv, H10, I10, r10, pp⟩ => ?_
        exact put_ok (X := X.blk s3 H3 scope ce fp) I10 hu r10 pp fun H11 s11 I11 nx => next I11 nx
  exact PpSet.codeAny_compStart_set loop (T.self X.A 0 _ _ _ st4 loop)
end
end
end NSet
set_option Elab.async false
set_option linter.all false
set_option maxRecDepth 100000
set_option maxHeartbeats 4000000
namespace NSet
open PySem PySem.Spec PyProof.Rows L2
/-! X36: the set comprehension over a list that stays -/
theorem scN_list {w : World} {K : PySem.W.Frag} {a : Addr} {xs : List V} {g : TG} {tt : TT} {te : TE} {vs : List Nat} {σ : L2.St} {H1 : Hp} {D : Addr} {Fin : Hp → Prop} (Pv : Nat → Hp → Prop) (first : Pv 0 (upd H1 D (SetN w D []))) (here : ∀ i H, i ≤ xs.length → Pv i H → SqL K H a xs)
    (turn : ∀ i x H, xs[i]? = some x → Pv i H → g x (wipe σ vs) H fun σ2 H2 => wipe σ2 vs = wipe σ vs ∧ tt σ2 H2 fun b H3 => if b = true then te σ2 H3 fun y H4 => putN K w D y H4 (Pv (i + 1)) else Pv (i + 1) H3) (last : ∀ H, Pv xs.length H → Fin H) :
    ∃ W : Nat → Nat → Hp → Prop, (∃ m, W 0 m (upd H1 D (SetN w D []))) ∧ ∀ i m H, W i m H →
      ((Itl K a).stop i H ∧ Fin H) ∨ ((Itl K a).go i H ∧ ∃ Nx : Hp → Prop, (∀ H', Nx H' → ∃ m', m' < m ∧ W (i + 1) m' H') ∧ ∀ x H', (Itl K a).yld i H x H' → g x (wipe σ vs) H' fun σ2 H2 => wipe σ2 vs = wipe σ vs ∧ tt σ2 H2 fun b H3 =>
        if b = true then te σ2 H3 fun y H4 => putN K w D y H4 Nx else Nx H3) := by
  refine ⟨fun i m H => m + i = xs.length ∧ Pv i H, ⟨xs.length, rfl, first⟩, fun i m H ⟨hm, p⟩ => ?_⟩
  have q := here i H (by omega) p
  rcases Nat.lt_or_ge i xs.length with lt | ge
  · refine .inr ⟨⟨xs, xs[i], q, by simp [lt]⟩, Pv (i + 1), fun H' p' => ⟨m - 1, by omega, by omega, p'⟩, fun x H' y => ?_⟩
    obtain ⟨e, y⟩ := y
    subst e
    exact turn i x _ (y xs q) p
  · obtain rfl : i = xs.length := by omega
    exact .inl ⟨⟨xs, q, Nat.le_refl _⟩, last H p⟩
end NSet
set_option Elab.async false
set_option linter.all false
set_option maxRecDepth 100000
set_option maxHeartbeats 4000000
namespace Vk
open PySem PySem.Spec PyProof.Rows L2
/-! X37: x != y by an own __eq__ alone; ~x and x op y by own methods, y of the same class -/
section
variable {M : Model} {prog : Program} {w : World} {A : Around} {E : Value → Shared → Prop} {s : Shared} {K : PySem.W.Frag} {x C g : Addr} {ox : Obj} {od : Option Obj}
theorem bound_ne {args : List Value} {Q : Option Value → Shared → Prop} (X : K.In s.heap) (I : PySem.W.InstAt s.heap x ox C od) (hs : PySem.W.findIn K (.ref C) "__ne__" = some (some (.builtin "object.__ne__")))
    (h : wpAny M A (call (.builtin "object.__ne__") (.ref x :: args)) (fun v => Q (some v)) E s) : wpAny M A (callSpecialIfBound? (.ref x) "__ne__" args) Q E s := by
  simp only [callSpecialIfBound?, bindSpecialIfBound?]
  have last : wpAny M A (call (.builtin "object.__ne__") ([.ref x] ++ args) >>= fun v => pure (some v)) Q E s := wpAny_bind (wpAny_mono h (fun v s' z => wpAny_pure z) fun _ _ z => z)
  refine wpAny_holding (wpAny_bind (wpAny_bind (wpAny_bind (I.type.here ((PySem.W.looks_findIn X hs).here ?_)))))
  refine wpAny_bind (wpAny_askSetting (wpAny_ite ?_))
  split
  · exact wpAny_bind (wpAny_of_eq (F.cmp_object.ne.bind _) (wpAny_pure (by exact last)))
  · exact wpAny_tryCatch (wpAny_bind (wpAny_of_eq (F.cmp_object.ne.bind _) (wpAny_pure (by exact last))))
theorem turned_eq {b : Value} {Q : Fin → Shared → Prop} (hu : A.units < cLine) (X : K.In s.heap) (I : PySem.W.InstAt s.heap x ox C od) (hs : PySem.W.findIn K (.ref C) "__eq__" = some (some (.ref g))) (hf : PySem.W.isFn K (.ref g) = true)
    (h : wpAny (model prog w) A (call (.ref g) [.ref x, b]) (fun v s' => ∃ c, v = .bool c ∧ Q (.done (.ret (.bool (!c)))) s') E s) : wpAny (model prog w) A (Builtin.«object.__ne__» ⟨[.ref x, b], []⟩) Q E s := by
  unfold Builtin.«object.__ne__»
  repeat (first
    | with_reducible refine wpAny_cRoomFor hu ?_
    | (refine wpAny_bind (m := callSpecialIfBound? (.ref x) (Str.ofString "__eq__") [b]) (PySem.W.ifBound_K X I hs hf (wpAny_mono h (fun r s' hr => by
        obtain ⟨c, rfl, hq⟩ := hr
        repeat (first | exact hq | exact wpAny_pure hq | exact wpAny_truthy_bool hq | (refine wpAny_bind (m := truthy (.bool _)) (wpAny_truthy_bool ?_)) | wp_step)) fun _ _ z => z)))
    | wp_step)
end
def rNeI (K : PySem.W.Frag) (C : Addr) (sp : Sp) (E : XK) : R2 := fun x y H Q => ∃ a dx fs b C' dy gs, x = .ref a ∧ y = .ref b ∧ H a = some (.ins C dx fs) ∧ H b = some (.ins C' dy gs) ∧ PySem.W.notFirst K C (.ref C') = true ∧ sp [x, y] H (fun z H' => ∃ c, z = .bl c ∧ Q (.bl (!c)) H') E
section
variable {X : Cx} {CX : CXT} {k : Nat} {g C : Addr} {sp : Sp} {E : XK}
theorem op_neI (hne : PySem.W.findIn X.K (.ref C) "__ne__" = some (some (.builtin "object.__ne__"))) (hm : PySem.W.mroIn X.K C (.type "object") = some true) (hs : PySem.W.findIn X.K (.ref C) "__eq__" = some (some (.ref g))) (hf : PySem.W.isFn X.K (.ref g) = true)
    (G : FnR X.prog X.w X.K X.mg X.base CX k g sp) (hr : Room (k + 1) X.A) (hx : Passes CX X E) : OpR X (compareOp .NotEq) (rNeI X.K C sp E) := by
  intro pins s σ H x y v u Q I rx ry h
  obtain ⟨a, dx, fs, b, C', dy, gs, rfl, rfl, ha, hbb, hn, q⟩ := h
  cases (show v = Value.ref a from rx)
  cases (show u = Value.ref b from ry)
  obtain ⟨mA, O, _⟩ := ins_get I.hok ha
  obtain ⟨od, J, _⟩ := O.look
  obtain ⟨mB, O2, _⟩ := ins_get I.hok hbb
  obtain ⟨od2, J2, _⟩ := O2.look
  have hr1 : Room k X.A.in1 := Room.in1 hr
  have one : wpAny (model X.prog X.w) X.A (tryCompare (.ref a) "__ne__" (.ref b)) (fun r s' => ∃ v, r = some v ∧ EP X pins σ Q v s') X.xe s := by
    unfold tryCompare
    refine wpAny_bind (bound_ne I.kIn J hne (wpAny_call (codeAny_call_builtin F.cmp_object.ne.plain F.cmpEntry_ne (PySem.W.check_slot F.cmpKind_ne F.cmpSplit_ne (J.type.andThen (PySem.W.looks_mroIn I.kIn hm)) (F.cmpArgs_ne _ _) (turned_eq hr1.units0 I.kIn J hs hf ?_)))))
    refine wpAny_mono (wpAny_call (SlX.run_at (us := [.ref a, .ref b]) (ws := [.ref a, .ref b]) G hr1 I.env0.in1 hx I (.cons rfl (.cons rfl .nil)) q)) (fun w s' z => ?_) fun _ _ x => x
    obtain ⟨z', H', I', rz, c, ei, qz⟩ := z
    subst ei
    cases (show w = Value.bool c from rz)
    exact ⟨c, rfl, wpAny_pure ⟨_, rfl, .bl (!c), H', I', rfl, qz⟩⟩
  show wpAny _ _ (richCompare .NotEq (.ref a) (.ref b)) _ _ s
  unfold richCompare
  simp only [oneThing_ref]
  refine wpAny_holding (wpAny_bind (wpAny_cRoomFor hr.units0 ?_))
  rw [cmpInfo_NotEq]
  dsimp only
  refine wpAny_bind (J.type.here (wpAny_bind (J2.type.here ?_)))
  split
  · rename_i z
    have e : PySem.W.subIn X.K (.ref C') (.ref C) = some false := by
      rcases Bool.or_eq_true_iff.mp hn with e | e
      · rw [beq_iff_eq.mp e] at z; simp at z
      · exact beq_iff_eq.mp e
    refine wpAny_bind ((PySem.W.looks_subIn I.kIn e).here ?_)
    simp only [Bool.false_eq_true, if_false]
    refine wpAny_bind (wpAny_mono one (fun r s' z => ?_) fun _ _ e => e)
    obtain ⟨v, rfl, hq⟩ := z
    exact wpAny_pure hq
  · refine wpAny_bind (wpAny_pure ?_)
    simp only [Bool.false_eq_true, if_false]
    refine wpAny_bind (wpAny_mono one (fun r s' z => ?_) fun _ _ e => e)
    obtain ⟨v, rfl, hq⟩ := z
    exact wpAny_pure hq
/-- ~x -/
def rInvI (C : Addr) (sp : Sp) (E : XK) : V → Hp → VK → Prop := fun x H Q => ∃ a dx fs, x = .ref a ∧ H a = some (.ins C dx fs) ∧ sp [x] H Q E
theorem un_invI (hs : PySem.W.findIn X.K (.ref C) "__invert__" = some (some (.ref g))) (hf : PySem.W.isFn X.K (.ref g) = true) (G : FnR X.prog X.w X.K X.mg X.base CX k g sp) (hr : Room k X.A) (hx : Passes CX X E) : UnR X (unaryOp .Invert) (rInvI C sp E) := by
  intro pins s σ H x v Q I rx h
  obtain ⟨a, dx, fs, rfl, ha, q⟩ := h
  cases (show v = Value.ref a from rx)
  obtain ⟨mA, O, _⟩ := ins_get I.hok ha
  obtain ⟨od, J, _⟩ := O.look
  obtain ⟨m, hF⟩ := I.fr
  exact PySem.W.ksp_inv hF I.ok.mod.kin J hs hf (wpAny_call (SlX.run_at (us := [.ref a]) (ws := [.ref a]) G hr I.env0 hx I (.cons rfl .nil) q))
end
/-- x op y, y of the same class; what it raises is wished for at the slots -/
def tBinO (C : Addr) (sp : Sp) (E : L2.St → XK) (ta tb : TE) : TE := fun σ H Q => ta σ H fun x H1 => tb σ H1 fun y H2 => ∃ a dx fs b dy gs, x = .ref a ∧ y = .ref b ∧ H2 a = some (.ins C dx fs) ∧ H2 b = some (.ins C dy gs) ∧ sp [x, y] H2 Q (E σ)
section
variable {X : Cx} {CX : CXT} {k : Nat} {g C : Addr} {fd : FuncData} {ps : List Str} {sp : Sp} {E : L2.St → XK} {pos : Pos} {e f : Expr} {ta tb : TE} {op : Operator}
theorem pe_binO (hc : PySem.W.selfFirst X.K C = true) (hs : PySem.W.findIn X.K (.ref C) (PySem.dunder op.info.2) = some (some (.ref g))) (hf : PySem.W.isFn X.K (.ref g) = true) (G : FnOk X.prog X.w X.K X.mg X.base CX k g fd ps sp) (hr : Room k X.A) (hb : Binds X.K fd ps [])
    (hx : ∀ σ, PassesAt CX X σ (E σ)) (he : PE X e ta) (hg : PE X f tb) : PE X (.BinOp e op f pos) (tBinO C sp E ta tb) := by
  refine ⟨fun pins s σ H Q I h => ?_⟩
  refine wpAny_BinOp (binT he hg (R := fun x y H2 => ∃ a dx fs b dy gs, x = .ref a ∧ y = .ref b ∧ H2 a = some (.ins C dx fs) ∧ H2 b = some (.ins C dy gs) ∧ sp [x, y] H2 Q (E σ)) I h fun v u s2 x y H2 I2 rx ry q => ?_)
  obtain ⟨a, dx, fs, b, dy, gs, rfl, rfl, ha, hbb, q⟩ := q
  cases (show v = Value.ref a from rx)
  cases (show u = Value.ref b from ry)
  obtain ⟨mA, O, _⟩ := ins_get I2.hok ha
  obtain ⟨od, J, _⟩ := O.look
  obtain ⟨mB, O2, _⟩ := ins_get I2.hok hbb
  obtain ⟨od2, J2, _⟩ := O2.look
  obtain ⟨m, hF⟩ := I2.fr
  refine PySem.W.binop_K hF I2.ok.mod.kin J J2.type hc hs hf ?_
  refine wpAny_mono (run_fnS (us := [.ref a, .ref b]) (vs := [.ref a, .ref b]) G hr hb (hx σ) I2 (.cons rfl (.cons rfl .nil)) q) (fun w s1 z => ?_) fun _ _ z => z
  obtain ⟨z1, H1, I1, rz, qz⟩ := z
  exact SlX.cmpback rz ⟨z1, H1, I1, rz, qz⟩
end
end Vk
set_option Elab.async false
set_option linter.all false
set_option maxRecDepth 100000
set_option maxHeartbeats 4000000
namespace Vk
open PySem PySem.Spec PyProof.Rows L2
/-! X38: f(e, ..), where the name f holds an own class -/
def tMakeV (C : Addr) (sp : Sp) (dvs : List V) (E : XK) (tf : TE) (t : TA) : TE := fun σ H Q => tf σ H fun v H0 => v = .ref C ∧ tMake C sp dvs E t σ H0 Q
theorem pe_makeV {X : Cx} {CX : CXT} {k : Nat} {f C : Addr} {fd : FuncData} {ps : List Str} {sp : Sp} {dvs : List V} {ds : List Value} {E : XK} {x : Str} {p pos : Pos} {e : Expr} {es : List Expr} {t : TA} {tf : TE} (hn : PE X (.Name x p) tf) (M : Mk X.K C f) (F : FnOk X.prog X.w X.K X.mg X.base CX k f fd ps sp) (hr : Room (k + 1) X.A) (hb : Binds X.K fd ps ds) (hd : Vals dvs ds) (hx : Passes CX X E)
    (ha : PA X (e :: es) t) (he : starEach (e :: es) X.env = (false, eval e X.env) :: starEach es X.env := by rfl) (hpl : (backTo pos (starEach es X.env)).any (·.1) = false := by rfl) :
    PE X (.Call (.Name x p) (e :: es) [] pos) (tMakeV C sp dvs E tf t) := by
  refine ⟨fun pins s σ H Q I h => ?_⟩
  refine wpAny_Call_Name_kw (thn (hn.run pins s σ H _ I h) fun u s0 hh => ?_)
  obtain ⟨v, H0, I0, rv, rfl, q0⟩ := hh
  obtain rfl : u = Value.ref C := rv
  refine PySem.W.callWith_K (h₀ := X.base) I0.ok.mod.kin M.kp (thn (ha.run pos pins s0 σ H0 _ I0 q0) fun us s1 ⟨vs, H1, I1, r, q⟩ => ⟨I1.kIn, ?_⟩) he hpl
  exact run_make M F hr hb hd hx I1 r q
end Vk
set_option Elab.async false
set_option linter.all false
set_option maxRecDepth 100000
set_option maxHeartbeats 4000000
namespace Vk
open PySem PySem.Spec PyProof.Rows L2
/-! X39: an own error without arguments -/
theorem pmk_bare {X : Cx} {C : Addr} {bmB : List Value} {B newId initId : String} {x : Str} {p pos : Pos} (F : ExcBaseFacts B newId initId bmB) (q : PySem.W.excIn X.K C bmB newId = true) (gC : X.mg x = some (.ref C)) (kC : PySem.W.keepIn X.K (.ref C) = true) (r : Raises X (.ref C)) (hg : Gl X x)
    (hdb : (x == ("__debug__" : Str)) = false := by decide) : PMk X (.Call (.Name x p) [] [] pos) (fun _ H Q => Q (.ref C) none H) := by
  intro pins s σ H Q I h
  refine wpAny_Call_Name_kw (ld_glob I hg gC ?_ hdb)
  refine PySem.W.callWith_K0 I.kIn kC ?_
  obtain ⟨bm, N, nm, qn, bs, hdct, sn, sub, ab, col, dd, k0, k1, k2, k3, k5, mN, hC, hN, hni, T⟩ := exc_obj I.kIn q
  refine wpAny_call_exc_subT F T hC hN hni (fun h' e hm => ?_) (by show 0 ≤ sizeLine; exact Nat.zero_le _)
  exact mk_of I hm r h (I.hok.gone hm.new)
end Vk
set_option Elab.async false
set_option linter.all false
set_option maxRecDepth 100000
set_option maxHeartbeats 4000000
/-! sorted(text): the signs of a text in order; list(text) -/
namespace Vk
open PySem PySem.Spec PyProof.Rows L2
def signsOf (z : Str) : List Str := z.cps.toList.map fun c => (⟨#[c]⟩ : Str)
theorem signs_strs {z : Str} {acc : Array Value} (h : ItemsOf (SignAt z) acc z.cps.size) : StrsAre acc.toList (signsOf z) := by
  have hsz : acc.size = z.cps.size := h.1
  have hL : acc.toList.length = (signsOf z).length := by
    rw [Array.length_toList, hsz]
    unfold signsOf
    rw [List.length_map, Array.length_toList]
  refine strs_at hL fun j v e => ?_
  have e1 : acc[j]? = some v := by rw [← Array.getElem?_toList]; exact e
  obtain ⟨c, u, hc, ev⟩ := h.2 j v e1
  refine ⟨⟨#[c]⟩, u, ?_, ev⟩
  unfold signsOf
  rw [List.getElem?_map, Array.getElem?_toList, hc]
  rfl
section
variable {X : Cx}
def rSortT : List V → Hp → VK → Prop := fun vs H Q => ∃ z : Str, vs = [.str z] ∧ z.length < 64 ∧
  ∀ ys p, ys.Perm (signsOf z) → sortedS ys = true → H p = none → Q (.ref p) (upd H p (.lst (ys.map V.str)))
theorem cr_sortT (hcalm : X.calm = true) : CallR X (.builtin "sorted") rSortT := by
  intro pins s σ H xs us Q I r q
  obtain ⟨z, ex, h64, q⟩ := q
  subst ex
  obtain ⟨u, eu, rx⟩ := vals1 r
  subst eu
  obtain ⟨t, rfl⟩ := rx
  have hz2 : z.cps.size < 64 := h64
  refine Calls.call_function_entry PyProof.Rows.kind_sorted PyProof.Rows.plain_sorted PyProof.Rows.entry_sorted (PyProof.Rows.args_sorted1 _) ?_
  unfold Builtin.«sorted»
  refine wpAny_bind (m := checkCount "sorted" 1 1 _) (wpAny_pure ?_)
  refine wpAny_bind (wpAny_collect_str (A := X.A.in1) (I.ok.hd hcalm) z t (fun s1 acc hk hg hd ho hacc => ?_) (by rw [sizeLine_eq]; omega))
  obtain ⟨h1, g1, d1, tk1, os1⟩ := s1
  have eg : g1 = s.gens := hg
  have ed : d1 = s.drawn := hd
  have eo : os1 = s.os := ho
  subst eg; subst ed; subst eo
  have hS := signs_strs hacc
  have hal : acc.toList.length = z.cps.size := by rw [Array.length_toList]; exact hacc.1
  have I1 : Inv X pins σ H { s with heap := h1, toks := tk1 } := I.kept hk
  refine wpAny_bind (wpAny_newList ?_ (by rw [hal, sizeLine_eq]; omega))
  have hoL : (h1.push (seqObj "list" acc.toList.toArray 0)).get? h1.objs.size = some (seqObj "list" acc.toList.toArray 0) := Heap.get?_push_size _ rfl
  show wpAny _ _ _ _ _ { s with heap := h1.push (seqObj "list" acc.toList.toArray 0), toks := tk1 }
  refine wpAny_bind (wpAny_holding (wpAny_call_entry PyProof.Rows.slot_list_sort ⟨_, hoL, rfl⟩ PyProof.Rows.entry_list_sort
    (list_sort_treeK strKind_oneLt (s := { s with heap := h1.push (seqObj "list" acc.toList.toArray 0), toks := tk1 }) hoL hS.keysOf (fun v₁ v₂ more e => keyKind_strs (by rw [← e]; exact hS)) (by rw [hal]; exact hz2) fun st2 hp hs => ⟨_, rfl, ?_⟩)
    (PyProof.Rows.args_list_sort _)))
  obtain ⟨ys, g1, g2, g3⟩ := sorted_out_str hS hp hs
  obtain ⟨e', he'⟩ := PyProof.Rows.sortedHeap_at (vs := acc.toList) (out := (arrOf st2).map (·.2)) hoL
  have hlen : (ys.map V.str).length ≤ sizeLine := by
    rw [List.length_map, g2.length_eq]
    unfold signsOf
    rw [List.length_map, Array.length_toList, sizeLine_eq]
    omega
  refine wpAny_pure ⟨_, rfl, .ref h1.objs.size, upd H h1.objs.size (.lst (ys.map V.str)), I1.laid (t' := tk1) (fun b u e => ?_) (Nat.le_refl _)
    (show ObjOk X.prog X.w _ _ _ (.lst (ys.map V.str)) from ⟨hlen, ((arrOf st2).map (·.2)).toList, e', vals_of_strs g1, by rw [Array.toArray_toList]; exact he'⟩), rfl, q ys _ g2 g3 (I1.hok.fresh (Nat.le_refl _))⟩
  have hb : b < h1.objs.size := Heap.lt_size e
  rw [PyProof.Rows.sortedHeap_old (Nat.ne_of_lt hb) (by rw [size_push']; exact Nat.lt_succ_of_lt hb)]
  exact Heap.get?_push_of_some _ e
/-- list(x), x a text -/
def rListT : List V → Hp → VK → Prop := fun vs H Q => ∃ z : Str, vs = [.str z] ∧ z.length ≤ 4000 ∧ ∀ p, H p = none → Q (.ref p) (upd H p (.lst ((signsOf z).map V.str)))
end
/-! sorted texts: two arrangements of the same texts are one -/
theorem lt_irr (a : List Nat) : ltCps a a = false := by
  rw [ltCps_eq]
  exact decide_eq_false (List.lt_irrefl a)
end Vk
set_option Elab.async false
set_option linter.all false
set_option maxRecDepth 100000
set_option maxHeartbeats 1000000
/-! texts as lists of codes; comprehensions over a text -/
namespace Vk
open PySem PySem.Spec PyProof.Rows L2
/-- the text of these codes -/
def S (l : List Nat) : Str := ⟨l.toArray⟩
theorem S_of (z : Str) : z = S z.cps.toList := by
  obtain ⟨a⟩ := z
  simp [S]
theorem S_len (l : List Nat) : (S l).length = l.length := by
  show l.toArray.size = l.length
  simp
theorem S_cps (l : List Nat) : (S l).cps.toList = l := by simp [S]
theorem S_size (l : List Nat) : (S l).cps.size = l.length := S_len l
theorem S_inj {a b : List Nat} : S a = S b ↔ a = b := by
  constructor
  · intro h
    have := congrArg (fun z : Str => z.cps.toList) h
    simpa [S] using this
  · rintro rfl
    rfl
theorem S_one (c : Nat) : (⟨#[c]⟩ : Str) = S [c] := rfl
theorem S_app (a b : List Nat) : S a ++ S b = S (a ++ b) := by
  show (⟨a.toArray ++ b.toArray⟩ : Str) = ⟨(a ++ b).toArray⟩
  simp
theorem S_get {l : List Nat} {i c : Nat} : (S l).cps[i]? = some c ↔ l[i]? = some c := by
  show l.toArray[i]? = some c ↔ _
  simp
theorem signs_S (l : List Nat) : signsOf (S l) = l.map fun c => S [c] := by
  unfold signsOf
  rw [S_cps]
  rfl
theorem S_cut (l : List Nat) (lo hi : Option Int) : cutS (S l) lo hi = S ((l.drop (HT.sIx l.length 0 lo)).take (HT.sIx l.length l.length hi - HT.sIx l.length 0 lo)) := by
  unfold cutS
  rw [S_cps, S_len]
  rfl
theorem S_to (l : List Nat) (k : Nat) : cutS (S l) none (some (k : Int)) = S (l.take k) := by
  rw [S_cut, HT.sIx_none, HT.sIx_nat, List.drop_zero, Nat.sub_zero]
  congr 1
  rw [← List.take_take, List.take_length]
theorem S_from (l : List Nat) (k : Nat) : cutS (S l) (some (k : Int)) none = S (l.drop k) := by
  rw [S_cut, HT.sIx_none, HT.sIx_nat]
  congr 1
  by_cases h : k ≤ l.length
  · rw [Nat.min_eq_left h]
    exact List.take_of_length_le (by rw [List.length_drop]; exact Nat.le_refl _)
  · rw [Nat.min_eq_right (by omega), Nat.sub_self, List.take_zero, List.drop_eq_nil_of_le (by omega)]
/-- what join does of single signs -/
theorem join_signs : ∀ l : List Nat, Txt.join (S []) (l.map fun c => S [c]) = S l := by
  have key : ∀ l : List Nat, Str.join (S []) (l.map fun c => S [c]) = S l := by
    intro l
    induction l with
    | nil => rfl
    | cons c r ih =>
      cases r with
      | nil => rfl
      | cons d r =>
        show S [c] ++ S [] ++ Str.join (S []) ((d :: r).map fun c => S [c]) = _
        rw [ih, S_app, S_app]
        rfl
  intro l
  exact (PySem.StrLaws.glued_eq_join _ _).trans (key l)
/-! sorted -/
def srtL (l : List Nat) : List Nat := l.mergeSort fun a b => decide (a ≤ b)
theorem srtL_perm (l : List Nat) : (srtL l).Perm l := List.mergeSort_perm _ _
theorem srtL_le (l : List Nat) : (srtL l).Pairwise (· ≤ ·) := by
  have h := List.pairwise_mergeSort (le := fun a b : Nat => decide (a ≤ b)) (by simp; omega) (by simp; omega) l
  exact h.imp fun h => by simpa using h
theorem srtL_len (l : List Nat) : (srtL l).length = l.length := (srtL_perm l).length_eq
theorem srtL_mem {l : List Nat} {c : Nat} : c ∈ srtL l ↔ c ∈ l := (srtL_perm l).mem_iff
theorem srtL_nodup {l : List Nat} : (srtL l).Nodup ↔ l.Nodup := (srtL_perm l).nodup_iff
theorem srt_eq {a b : List Nat} (p : a.Perm b) (ha : a.Pairwise (· ≤ ·)) : a = srtL b :=
  List.Perm.eq_of_pairwise (le := (· ≤ ·)) (fun x y _ _ h1 h2 => Nat.le_antisymm h1 h2) ha (srtL_le b) (p.trans (srtL_perm b).symm)
theorem srtL_congr {a b : List Nat} : srtL a = srtL b ↔ a.Perm b := by
  constructor
  · intro h
    exact (srtL_perm a).symm.trans (h ▸ srtL_perm b)
  · intro p
    exact srt_eq ((srtL_perm a).trans p) (srtL_le a)
theorem rising_le : ∀ (c : Nat) (l : List Nat), risingS (S [c]) (l.map fun c => S [c]) = true → (c :: l).Pairwise (· ≤ ·)
  | c, [], _ => by simp
  | c, d :: l, h => by
    have h' : (!ltCps (S [d]).cps.toList (S [c]).cps.toList && risingS (S [d]) (l.map fun c => S [c])) = true := h
    obtain ⟨h1, h2⟩ := Bool.and_eq_true_iff.mp h'
    have ih := rising_le d l h2
    have hcd : c ≤ d := by
      rw [ltCps_eq] at h1
      simp [S] at h1
      exact Nat.le_of_not_lt fun z => of_decide_eq_false h1 (List.Lex.rel z)
    rw [List.pairwise_cons]
    refine ⟨fun x hx => ?_, ih⟩
    rcases List.mem_cons.mp hx with rfl | hx
    · exact hcd
    · exact Nat.le_trans hcd ((List.pairwise_cons.mp ih).1 x hx)
theorem sorted_signs {l : List Nat} {ys : List Str} (p : ys.Perm (l.map fun c => S [c])) (h : sortedS ys = true) : ys = (srtL l).map fun c => S [c] := by
  have hq : ∃ zs : List Nat, ys = zs.map fun c => S [c] := by
    refine ⟨ys.map fun z => z.cps.toList.headD 0, ?_⟩
    rw [List.map_map]
    refine (List.map_id ys).symm.trans (List.map_congr_left fun y hy => ?_)
    obtain ⟨c, _, rfl⟩ := List.mem_map.mp (p.mem_iff.mp hy)
    simp [S]
  obtain ⟨zs, rfl⟩ := hq
  have hp : zs.Perm l := by
    have q := p.map fun z : Str => z.cps.toList.headD 0
    rw [List.map_map, List.map_map] at q
    have e : ∀ l : List Nat, l.map ((fun z : Str => z.cps.toList.headD 0) ∘ fun c => S [c]) = l := fun l => (List.map_congr_left fun c _ => by simp [S]).trans (List.map_id l)
    rw [e, e] at q
    exact q
  have hs : zs.Pairwise (· ≤ ·) := by
    cases zs with
    | nil => exact .nil
    | cons c r => exact rising_le c r h
  rw [srt_eq hp hs]
/-! a comprehension over a text -/
theorem lc_text {l : List Nat} {j : Nat} {tt : TT} {te : TE} {vs : List Nat} {σ : L2.St} {H1 : Hp} {D : Addr} {Qd : Hp → Prop} (p : Nat → Bool) (v : Nat → V) (hl : l.length ≤ 4000)
    (hw : ∀ x, wipe ((wipe σ vs).set j (some x)) vs = wipe σ vs)
    (ht : ∀ c ∈ l, ∀ (H2 : Hp) (Q : Bool → Hp → Prop), (∀ b, b ≠ D → H2 b = H1 b) → Q (p c) H2 → tt ((wipe σ vs).set j (some (.str (S [c])))) H2 Q)
    (he : ∀ c ∈ l, p c = true → ∀ (H2 : Hp) (Q : VK), (∀ b, b ≠ D → H2 b = H1 b) → Q (v c) H2 → te ((wipe σ vs).set j (some (.str (S [c])))) H2 Q)
    (hq : Qd (upd H1 D (.lst ((l.filter p).map v)))) :
    ∃ W : Nat → Nat → Hp → Prop, (∃ m, W 0 m (upd H1 D (.lst []))) ∧ ∀ i m H, W i m H →
      ((Its (S l)).stop i H ∧ Qd H) ∨ ((Its (S l)).go i H ∧ ∃ Nx : Hp → Prop, (∀ H', Nx H' → ∃ m', m' < m ∧ W (i + 1) m' H') ∧ ∀ x H', (Its (S l)).yld i H x H' → gName j x (wipe σ vs) H' fun σ2 H2 => wipe σ2 vs = wipe σ vs ∧ tt σ2 H2 fun b H3 =>
        if b = true then te σ2 H3 fun y H4 => ∃ acc, H4 D = some (.lst acc) ∧ acc.length < sizeLine ∧ Nx (upd H4 D (.lst (acc ++ [y]))) else Nx H3) := by
  have hz : (S l).cps.size = l.length := S_size l
  refine lc_it walk_str (fun i H => H = upd H1 D (.lst (((l.take i).filter p).map v))) rfl (fun _ _ _ _ => trivial) ?_ ?_
  · rintro i x H H' hi hP ⟨rfl, c, hc, rfl⟩
    subst hP
    have hc2 : l[i]? = some c := S_get.mp hc
    have hm : c ∈ l := List.mem_of_getElem? hc2
    have off : ∀ b, b ≠ D → (upd H1 D (.lst (((l.take i).filter p).map v))) b = H1 b := fun b hb => upd_ne hb
    have e1 : l.take (i + 1) = l.take i ++ [c] := by
      rw [List.take_add_one, hc2]
      rfl
    refine ⟨hw _, ht c hm _ _ off ?_⟩
    by_cases hp : p c = true
    · rw [if_pos hp]
      refine he c hm hp _ _ off ⟨_, upd_same, ?_, ?_⟩
      · rw [List.length_map, sizeLine_eq]
        have h1 := List.length_filter_le p (l.take i)
        rw [List.length_take] at h1
        omega
      · rw [upd_upd, e1, List.filter_append, List.filter_cons_of_pos hp, List.filter_nil, List.map_append]
        rfl
    · rw [if_neg hp, e1, List.filter_append, List.filter_cons_of_neg hp, List.filter_nil, List.append_nil]
  · rintro H rfl
    rw [hz, List.take_length]
    exact hq
end Vk
set_option Elab.async false
set_option linter.all false
set_option maxRecDepth 100000
set_option maxHeartbeats 4000000
namespace Vk
open PySem PySem.Spec PyProof.Rows L2
/-! V0: the readings, one step each, said the way a walk uses them -/
section
variable {D : Ends} {σ : L2.St} {H : Hp} {t u : TS} {te ta tb : TE} {c : TT} {Q : VK} {K : PySem.W.Frag}
theorem iSeq (h : t { nx := u D, rt := D.rt, bk := D.bk, ct := D.ct } σ H) : tSeq t u D σ H := h
theorem iNext (h : D.nx σ H) : tNext D σ H := h
theorem iBreak (h : D.bk σ H) : tBreak D σ H := h
theorem iCont (h : D.ct σ H) : tCont D σ H := h
theorem iDrop (h : te σ H fun _ H1 => D.nx σ H1) : tDrop te D σ H := h
theorem iRet (h : te σ H D.rt) : tRet te D σ H := h
theorem iRetN (h : D.rt .non H) : tRetN D σ H := h
theorem iIfS (h : c σ H fun b H1 => if b = true then t D σ H1 else u D σ H1) : tIfS c t u D σ H := h
theorem iAsg {g : TG} (h : te σ H fun x H1 => g x σ H1 D.nx) : tAsg te g D σ H := h
theorem iName {i : Nat} {v : V} {Q : L2.St → Hp → Prop} (h : Q (σ.set i (some v)) H) : gName i v σ H Q := h
theorem iSub {to ti : TE} {tt : TSet} {v : V} {Q : L2.St → Hp → Prop} (h : to σ H fun o H1 => ti σ H1 fun i H2 => tt o i v H2 fun H3 => Q σ H3) : gSub to ti tt v σ H Q := h
theorem iVar {i : Nat} {v : V} (e : σ[i]? = some (some v)) (h : Q v H) : tVar i σ H Q := ⟨v, e, h⟩
theorem iC {v : V} (h : Q v H) : tC v σ H Q := h
theorem iOp {r : R2} (h : ta σ H fun x H1 => tb σ H1 fun y H2 => r x y H2 Q) : tOp r ta tb σ H Q := h
theorem iUn {r : V → Hp → VK → Prop} (h : ta σ H fun x H1 => r x H1 Q) : tUn r ta σ H Q := h
theorem iI0 {g : Int → Int → V} {i j : Int} (h : Q (g i j) H) : rI0 g (.int i) (.int j) H Q := ⟨i, j, rfl, rfl, h⟩
theorem iI {C : Int → Int → Prop} {g : Int → Int → V} {i j : Int} (hc : C i j) (h : Q (g i j) H) : rI C g (.int i) (.int j) H Q := ⟨i, j, rfl, rfl, hc, h⟩
theorem iU {g : Int → V} {i : Int} (h : Q (g i) H) : rU g (.int i) H Q := ⟨i, rfl, h⟩
theorem iEq {x y : V} (hs : scal x y = true) (h : Q (.bl (decide (x = y))) H) : rEq x y H Q := ⟨hs, h⟩
theorem iNe {x y : V} (hs : scal x y = true) (h : Q (.bl (!decide (x = y))) H) : rNe x y H Q := ⟨hs, h⟩
theorem iB {Q : Bool → Hp → Prop} (h : te σ H fun x H1 => ∃ c, x = .bl c ∧ Q c H1) : tB te σ H Q := h
theorem iTest {Q : Bool → Hp → Prop} (h : te σ H fun x H1 => ∃ c, x = .bl c ∧ Q c H1) : tTest te σ H Q := h
theorem iAnd {t u : TT} {Q : Bool → Hp → Prop} (h : t σ H fun c H1 => if c = true then u σ H1 Q else Q false H1) : tAnd t u σ H Q := h
theorem iOr {t u : TT} {Q : Bool → Hp → Prop} (h : t σ H fun c H1 => if c = true then Q true H1 else u σ H1 Q) : tOr t u σ H Q := h
theorem iNot {t : TT} {Q : Bool → Hp → Prop} (h : t σ H fun c H1 => Q (!c) H1) : tNot t σ H Q := h
theorem iAndV (h : ta σ H fun x H1 => ∃ c, x = .bl c ∧ if c = true then tb σ H1 Q else Q (.bl false) H1) : tAndV ta tb σ H Q := h
theorem iOrV (h : ta σ H fun x H1 => ∃ c, x = .bl c ∧ if c = true then Q (.bl true) H1 else tb σ H1 Q) : tOrV ta tb σ H Q := h
theorem iNotV (h : ta σ H fun x H1 => ∃ c, x = .bl c ∧ Q (.bl (!c)) H1) : tNotV ta σ H Q := h
theorem iIfE (h : c σ H fun b H1 => if b = true then ta σ H1 Q else tb σ H1 Q) : tIf c ta tb σ H Q := h
theorem iNil {Q : List V → Hp → Prop} (h : Q [] H) : tNil σ H Q := h
theorem iCons {tr : TA} {Q : List V → Hp → Prop} (h : ta σ H fun x H1 => tr σ H1 fun xs H2 => Q (x :: xs) H2) : tCons ta tr σ H Q := h
theorem iTup {ts : TA} (h : ts σ H fun xs H1 => xs.length ≤ sizeLine ∧ ∀ p, H1 p = none → Q (.ref p) (upd H1 p (.tup xs))) : tTup ts σ H Q := h
theorem iLst {ts : TA} (h : ts σ H fun xs H1 => xs.length ≤ sizeLine ∧ ∀ p, H1 p = none → Q (.ref p) (upd H1 p (.lst xs))) : tLst ts σ H Q := h
theorem iCB {r : List V → Hp → VK → Prop} {ts : TA} (h : ts σ H fun vs H1 => r vs H1 Q) : tCB r ts σ H Q := h
theorem iCall {sp : Sp} {dvs : List V} {E : XK} {ts : TA} (h : ts σ H fun vs H1 => sp (vs ++ dvs) H1 Q E) : tCall sp dvs E ts σ H Q := h
theorem iFld {f : Str} (h : ta σ H fun x H1 => ∃ a C dx fs v, x = .ref a ∧ H1 a = some (.ins C dx fs) ∧ Cls K C ∧ NoAttr K C f ∧ fs.lookup f = some v ∧ Q v H1) : tFld K ta f σ H Q := h
theorem iM1 {r : V → List V → Hp → VK → Prop} {to : TE} (h : to σ H fun x H1 => (∃ a, x = .str a) ∧ te σ H1 fun y H2 => r x [y] H2 Q) : tM1 r to te σ H Q := h
theorem iBM {T : String} {r : V → List V → Hp → VK → Prop} {to : TE} {ts : TA} (h : to σ H fun x H1 => tyV K T x H1 ∧ ts σ H1 fun xs H2 => r x xs H2 Q) : tBM K T r to ts σ H Q := h
theorem iSl {r : V → Option Int → Option Int → Hp → VK → Prop} {tl th : TO} (h : te σ H fun x H1 => tl σ H1 fun l H2 => th σ H2 fun u H3 => r x l u H3 Q) : tSl r te tl th σ H Q := h
theorem iIxL {p : Addr} {xs : List V} {i : Int} {v : V} (hq : SqL K H p xs) (e : atI xs i = some v) (h : Q v H) : rIxL K (.ref p) (.int i) H Q := ⟨p, xs, i, v, rfl, rfl, hq, e, h⟩
theorem iIxT {p : Addr} {xs : List V} {i : Int} {v : V} (hq : SqT K H p xs) (e : atI xs i = some v) (h : Q v H) : rIxT K (.ref p) (.int i) H Q := ⟨p, xs, i, v, rfl, rfl, hq, e, h⟩
theorem iIxS {l : List Nat} {i : Int} {c : Nat} (hz : l.length ≤ 100000) (e : atI l i = some c) (h : Q (.str (S [c])) H) : rIxS (.str (S l)) (.int i) H Q :=
  ⟨S l, i, c, rfl, rfl, (by rw [S_len, sizeLine_eq]; omega), (by rw [S_cps]; exact e), h⟩
theorem iSlS {l : List Nat} {lo hi : Option Int} (hz : l.length ≤ 100000) (h : Q (.str (cutS (S l) lo hi)) H) : rSlS (.str (S l)) lo hi H Q :=
  ⟨S l, rfl, (by rw [S_len, sizeLine_eq]; omega), h⟩
theorem iBd {P : Prop} [Decidable P] {A B : Prop} (h1 : P → A) (h2 : ¬ P → B) : if decide P = true then A else B := ite2 (fun h => h1 (of_decide_eq_true h)) fun h => h2 fun p => h (decide_eq_true p)
theorem iBnd {P : Prop} [Decidable P] {A B : Prop} (h1 : ¬ P → A) (h2 : P → B) : if (!decide P) = true then A else B := ite2 (fun h => h1 (by simpa using h)) fun h => h2 (by simpa using h)
theorem iBb {b : Bool} {A B : Prop} (h1 : b = true → A) (h2 : b = false → B) : if b = true then A else B := ite2 h1 fun h => h2 (by simpa using h)
theorem iBbn {b : Bool} {A B : Prop} (h1 : b = false → A) (h2 : b = true → B) : if (!b) = true then A else B := ite2 (fun h => h1 (by simpa using h)) fun h => h2 (by simpa using h)
theorem iTT {A B : Prop} (h : A) : if true = true then A else B := iteT h
theorem iFF {A B : Prop} (h : B) : if false = true then A else B := iteF h
theorem iNTT {A B : Prop} (h : B) : if (!true) = true then A else B := iteF h
theorem iNFF {A B : Prop} (h : A) : if (!false) = true then A else B := iteT h
theorem iEx {α : Sort _} {p : α → Prop} (w : α) (h : p w) : ∃ x, p x := ⟨w, h⟩
theorem iSetL {p : Addr} {xs ys : List V} {i : Int} {j : Nat} {v : V} {Q : Hp → Prop} (h : H p = some (.lst xs)) (hj : ixN xs.length i = some j) (e : xs.set j v = ys) (k : Q (upd H p (.lst ys))) : rSetL (.ref p) (.int i) v H Q :=
  ⟨p, xs, i, j, rfl, rfl, h, hj, (by rw [e]; exact k)⟩
theorem iNoPart {Q : Option Int → Hp → Prop} (h : Q none H) : tNoPart σ H Q := h
theorem iPart {Q : Option Int → Hp → Prop} (h : te σ H fun x H1 => ∃ i, x = .int i ∧ Q (some i) H1) : tPart te σ H Q := h
theorem pe_strS {X : Cx} {x : Str} {l : List Nat} {j : Nat} {pos : Pos} (h : x = S l) : PE X (.Constant (.str x) j pos) (tC (.str (S l))) := h ▸ pe_str
theorem iSFld {tv : TE} {f : Str} (h : tv σ H fun y H1 => ta σ H1 fun x H2 => ∃ a C dx fs, x = .ref a ∧ H2 a = some (.ins C dx fs) ∧ Cls K C ∧ NoAttr K C f ∧ fs.length < 1000 ∧ D.nx σ (upd H2 a (.ins C dx (putF f y fs)))) : sFld K ta tv f D σ H := h
theorem eSFld {a C dx : Addr} {fs fs' : List (Str × V)} {f : Str} {y : V} (e1 : H a = some (.ins C dx fs)) (c : Cls K C) (n : NoAttr K C f) (hl : fs.length < 1000) (ep : putF f y fs = fs') (h : D.nx σ (upd H a (.ins C dx fs'))) :
    ∃ (b C dx : Addr) (gs : List (Str × V)), V.ref a = .ref b ∧ H b = some (.ins C dx gs) ∧ Cls K C ∧ NoAttr K C f ∧ gs.length < 1000 ∧ D.nx σ (upd H b (.ins C dx (putF f y gs))) := ⟨a, C, dx, fs, rfl, e1, c, n, hl, by rw [ep]; exact h⟩
theorem iCon {f : Str} (h : ta σ H fun x H1 => ∃ a C dx fs v u, x = .ref a ∧ H1 a = some (.ins C dx fs) ∧ Cls K C ∧ Con K C f v u ∧ fs.lookup f = none ∧ Q v H1) : tCon K ta f σ H Q := h
theorem iProp {C : Addr} {sp : Sp} {dvs : List V} {E : XK} (h : ta σ H fun x H1 => ∃ a dx fs, x = .ref a ∧ H1 a = some (.ins C dx fs) ∧ sp (.ref a :: dvs) H1 Q E) : tProp C sp dvs E ta σ H Q := h
theorem iMeth {C : Addr} {m : Str} {sp : Sp} {dvs : List V} {E : XK} {t : TA} (h : ta σ H fun x H1 => ∃ a dx fs, x = .ref a ∧ H1 a = some (.ins C dx fs) ∧ fs.lookup m = none ∧ t σ H1 fun vs H2 => sp (x :: (vs ++ dvs)) H2 Q E) : tMeth C m sp dvs E ta t σ H Q := h
theorem iCall0 {sp : Sp} {E : XK} {ts : TA} (h : ts σ H fun vs H1 => sp vs H1 Q E) : tCall sp [] E ts σ H Q := by
  have e : (fun (vs : List V) (H1 : Hp) => sp (vs ++ []) H1 Q E) = fun vs H1 => sp vs H1 Q E := by
    funext vs H1
    rw [List.append_nil]
  show ts σ H fun vs H1 => sp (vs ++ []) H1 Q E
  rw [e]
  exact h
theorem iMeth0 {C : Addr} {m : Str} {sp : Sp} {E : XK} {t : TA} (h : ta σ H fun x H1 => ∃ a dx fs, x = .ref a ∧ H1 a = some (.ins C dx fs) ∧ fs.lookup m = none ∧ t σ H1 fun vs H2 => sp (x :: vs) H2 Q E) : tMeth C m sp [] E ta t σ H Q := by
  have e : (fun (x : V) (H1 : Hp) => ∃ a dx fs, x = .ref a ∧ H1 a = some (.ins C dx fs) ∧ fs.lookup m = none ∧ t σ H1 fun vs H2 => sp (x :: (vs ++ [])) H2 Q E) = fun x H1 => ∃ a dx fs, x = .ref a ∧ H1 a = some (.ins C dx fs) ∧ fs.lookup m = none ∧ t σ H1 fun vs H2 => sp (x :: vs) H2 Q E := by
    funext x H1
    simp only [List.append_nil]
  show ta σ H fun (x : V) (H1 : Hp) => ∃ a dx fs, x = .ref a ∧ H1 a = some (.ins C dx fs) ∧ fs.lookup m = none ∧ t σ H1 fun vs H2 => sp (x :: (vs ++ [])) H2 Q E
  rw [e]
  exact h
/-- here the walk stands still -/
def Stop (p : Prop) : Prop := p
/-! while, by an invariant -/
def Less (W : Nat → L2.St → Hp → Prop) (m : Nat) : L2.St → Hp → Prop := fun σ' H' => ∃ m', m' < m ∧ W m' σ' H'
def WB (W : Nat → L2.St → Hp → Prop) (m : Nat) (tb : TS) (D : Ends) (b : Bool) (σ : L2.St) (H1 : Hp) : Prop :=
  if b = true then ∃ N : L2.St → Hp → Prop, (∀ σ' H', N σ' H' → ∃ m', m' < m ∧ W m' σ' H') ∧ tb { D with nx := N, ct := N, bk := D.nx } σ H1 else D.nx σ H1
theorem iWT {W : Nat → L2.St → Hp → Prop} {m : Nat} {tb : TS} (h : tb { nx := Less W m, rt := D.rt, bk := D.nx, ct := Less W m } σ H) : WB W m tb D true σ H := iteT ⟨Less W m, fun _ _ z => z, h⟩
theorem iWF {W : Nat → L2.St → Hp → Prop} {m : Nat} {tb : TS} (h : D.nx σ H) : WB W m tb D false σ H := iteF h
theorem iWD {P : Prop} [Decidable P] {W : Nat → L2.St → Hp → Prop} {m : Nat} {tb : TS} (h1 : P → tb { nx := Less W m, rt := D.rt, bk := D.nx, ct := Less W m } σ H) (h2 : ¬ P → D.nx σ H) : WB W m tb D (decide P) σ H := by
  by_cases h : P
  · rw [decide_eq_true h]
    exact iWT (h1 h)
  · rw [decide_eq_false h]
    exact iWF (h2 h)
theorem iWDN {P : Prop} [Decidable P] {W : Nat → L2.St → Hp → Prop} {m : Nat} {tb : TS} (h1 : ¬ P → tb { nx := Less W m, rt := D.rt, bk := D.nx, ct := Less W m } σ H) (h2 : P → D.nx σ H) : WB W m tb D (!decide P) σ H := by
  by_cases h : P
  · rw [decide_eq_true h]
    exact iWF (h2 h)
  · rw [decide_eq_false h]
    exact iWT (h1 h)
theorem while_w {c : TT} {tb : TS} (W : Nat → L2.St → Hp → Prop) (h0 : ∃ m, W m σ H) (hs : ∀ m σ H, W m σ H → c σ H fun b H1 => WB W m tb D b σ H1) : tWhile c tb D σ H := ⟨W, h0, hs⟩
/-! heaps -/
theorem upd_old {p x : Addr} {o u : HO} (hp : H p = none) (h : H x = some u) : upd H p o x = some u := by
  rw [upd_ne (ne_of_none h hp)]
  exact h
theorem upd_oth {p x : Addr} {o u : HO} (hp : x ≠ p) (h : H x = some u) : upd H p o x = some u := by rw [upd_ne hp]; exact h
theorem Same.get {H' : Hp} {x : Addr} {u : HO} (s : Same H H') (h : H x = some u) : H' x = some u := s _ _ h
/-- all but the listed stand as they stood -/
def Fr (L : List Addr) (H H' : Hp) : Prop := ∀ x u, x ∉ L → H x = some u → H' x = some u
theorem Fr.get {H' : Hp} {L : List Addr} {x : Addr} {u : HO} (s : Fr L H H') (hx : x ∉ L) (h : H x = some u) : H' x = some u := s _ _ hx h
theorem Fr.refl (L : List Addr) (H : Hp) : Fr L H H := fun _ _ _ h => h
theorem Fr.trans {L : List Addr} {H H1 H2 : Hp} (a : Fr L H H1) (b : Fr L H1 H2) : Fr L H H2 := fun x u n h => b x u n (a x u n h)
theorem Fr.of_same {L : List Addr} {H H1 : Hp} (a : Same H H1) : Fr L H H1 := fun x u _ h => a x u h
theorem Fr.upd_in {L : List Addr} {H : Hp} {p : Addr} {o : HO} (hp : p ∈ L) : Fr L H (upd H p o) := fun x u n h => upd_oth (fun z => n (z ▸ hp)) h
theorem Fr.upd_new {L : List Addr} {H : Hp} {p : Addr} {o : HO} (hp : H p = none) : Fr L H (upd H p o) := fun x u _ h => upd_old hp h
theorem Fr.mono {L M : List Addr} {H H1 : Hp} (a : Fr L H H1) (h : ∀ x ∈ L, x ∈ M) : Fr M H H1 := fun x u n e => a x u (fun z => n (h x z)) e
theorem Fr.in0 {L : List Addr} {H : Hp} {p : Addr} {o : HO} : Fr (p :: L) H (upd H p o) := Fr.upd_in List.mem_cons_self
theorem Fr.in1 {L : List Addr} {H : Hp} {p q : Addr} {o : HO} : Fr (q :: p :: L) H (upd H p o) := Fr.upd_in (List.mem_cons_of_mem _ List.mem_cons_self)
theorem Fr.in2 {L : List Addr} {H : Hp} {p q r : Addr} {o : HO} : Fr (q :: r :: p :: L) H (upd H p o) := Fr.upd_in (List.mem_cons_of_mem _ (List.mem_cons_of_mem _ List.mem_cons_self))
theorem Fr.wk {L : List Addr} {H H1 : Hp} {p : Addr} (h : Fr L H H1) : Fr (p :: L) H H1 := h.mono fun _ hx => List.mem_cons_of_mem _ hx
theorem Fr.wk1 {H H1 : Hp} {p q : Addr} (h : Fr [p] H H1) : Fr [p, q] H H1 := h.mono fun x hx => by
  rw [List.mem_singleton] at hx
  subst hx
  exact List.mem_cons_self
theorem Same.upd_new {H : Hp} {p : Addr} {o : HO} (hp : H p = none) : Same H (upd H p o) := fun x u h => upd_old hp h
theorem Same.tr {H H1 H2 : Hp} (a : Same H H1) (b : Same H1 H2) : Same H H2 := fun x u h => b x u (a x u h)
theorem Fr.same {H H1 : Hp} (a : Fr [] H H1) : Same H H1 := fun x u h => a x u (List.not_mem_nil) h
theorem Fr.none {L : List Addr} {H H1 : Hp} {x : Addr} (a : Fr L H H1) (hx : x ∉ L) (h : H1 x = none) : H x = none := by
  cases e : H x with
  | none => rfl
  | some u => rw [a x u hx e] at h; cases h
end
end Vk
/-! the walk -/
section
open Vk L2
local macro_rules | `(tactic| walk_at "lk") => `(tactic| first
  | assumption
  | exact upd_same
  | (refine upd_old (by assumption) ?_; walk_at "lk")
  | (refine upd_oth (by first | assumption | (apply Ne.symm; assumption)) ?_; walk_at "lk")
  | (refine Same.get (by assumption) ?_; walk_at "lk"))
example {H : L2.Hp} {a p : PySem.Addr} {o u : L2.HO} (h : H a = some u) (hp : H p = none) : L2.upd H p o a = some u := by walk_at "lk"
end
set_option Elab.async false
set_option linter.all false
set_option maxRecDepth 100000
set_option maxHeartbeats 4000000
namespace Vk
open PySem PySem.Spec PyProof.Rows L2
/-! V1: texts as lists of signs -/
theorem S_le {l : List Nat} (h : l.length ≤ 100000) : (S l).length ≤ sizeLine := by rw [S_len, sizeLine_eq]; omega
def rAddS : R2 := fun x y H Q => ∃ a b : List Nat, x = .str (S a) ∧ y = .str (S b) ∧ a.length + b.length ≤ 100000 ∧ Q (.str (S (a ++ b))) H
theorem op_addS {X : Cx} : OpR X (binaryOp .Add) rAddS := by
  intro pins s σ H x y v u Q I rx ry h
  obtain ⟨a, b, rfl, rfl, hz, q⟩ := h
  refine op_add_str pins s σ H _ _ v u Q I rx ry ⟨S a, S b, rfl, rfl, ?_, ?_⟩
  · rw [S_len, S_len, sizeLine_eq]; omega
  · rw [S_app]; exact q
def rLenS1 : List V → Hp → VK → Prop := fun xs H Q => ∃ l : List Nat, xs = [.str (S l)] ∧ l.length ≤ 100000 ∧ Q (.int (l.length : Nat)) H
theorem call_lenS {X : Cx} : CallR X (.builtin "len") rLenS1 := by
  intro pins s σ H xs us Q I r h
  obtain ⟨l, rfl, hz, q⟩ := h
  refine call_len_str pins s σ H _ us Q I r ⟨S l, rfl, S_le hz, ?_⟩
  rw [S_len]
  exact q
def rInS (neg : Bool) : R2 := fun x y H Q => ∃ (c : Nat) (l : List Nat), x = .str (S [c]) ∧ y = .str (S l) ∧ Q (.bl (if neg then !decide (c ∈ l) else decide (c ∈ l))) H
theorem op_inS {X : Cx} : OpR X (compareOp .In) (rInS false) := by
  intro pins s σ H x y v u Q I rx ry h
  obtain ⟨c, l, rfl, rfl, q⟩ := h
  exact op_in_sign pins s σ H _ _ v u Q I rx ry ⟨c, S l, rfl, rfl, by simpa [S_cps] using q⟩
theorem op_notInS {X : Cx} : OpR X (compareOp .NotIn) (rInS true) := by
  intro pins s σ H x y v u Q I rx ry h
  obtain ⟨c, l, rfl, rfl, q⟩ := h
  exact op_notIn_sign pins s σ H _ _ v u Q I rx ry ⟨c, S l, rfl, rfl, by simpa [S_cps] using q⟩
/-! the place of a sign -/
def n1 (l : List Nat) (c : Nat) : Nat := (l.takeWhile (· != c)).length
theorem n1_le (l : List Nat) (c : Nat) : n1 l c ≤ l.length := (List.takeWhile_prefix _).length_le
theorem n1_nil (c : Nat) : n1 [] c = 0 := rfl
theorem n1_cons (x : Nat) (l : List Nat) (c : Nat) : n1 (x :: l) c = if x = c then 0 else n1 l c + 1 := by
  unfold n1
  rw [List.takeWhile_cons]
  by_cases h : x = c
  · rw [if_pos h]
    simp [h]
  · rw [if_neg h]
    simp [h]
theorem n1_mem {l : List Nat} {c : Nat} : c ∈ l ↔ n1 l c < l.length := by
  induction l with
  | nil => simp [n1]
  | cons x r ih =>
    rw [n1_cons, List.mem_cons, List.length_cons]
    by_cases h : x = c
    · rw [if_pos h]
      simp [h]
    · rw [if_neg h]
      have h2 : ¬ c = x := fun z => h z.symm
      simp only [h2, false_or, ih]
      omega
theorem n1_not {l : List Nat} {c : Nat} (h : c ∉ l) : n1 l c = l.length := by
  have h1 := n1_le l c
  have h2 : ¬ n1 l c < l.length := fun z => h (n1_mem.mpr z)
  omega
theorem n1_at {l : List Nat} {c : Nat} (h : c ∈ l) : l[n1 l c]? = some c := by
  induction l with
  | nil => cases h
  | cons x r ih =>
    rw [n1_cons]
    by_cases hx : x = c
    · rw [if_pos hx, hx]
      rfl
    · rw [if_neg hx, List.getElem?_cons_succ]
      refine ih ?_
      rcases List.mem_cons.mp h with h | h
      · exact absurd h.symm hx
      · exact h
theorem n1_before {l : List Nat} {c k : Nat} (h : k < n1 l c) : l[k]? ≠ some c := by
  induction l generalizing k with
  | nil => simp
  | cons x r ih =>
    rw [n1_cons] at h
    by_cases hx : x = c
    · rw [if_pos hx] at h
      omega
    · rw [if_neg hx] at h
      cases k with
      | zero => simpa using hx
      | succ k =>
        rw [List.getElem?_cons_succ]
        exact ih (by omega)
theorem n1_eq {l : List Nat} {c k : Nat} (h : l[k]? = some c) (hb : ∀ j, j < k → l[j]? ≠ some c) : n1 l c = k := by
  have hm : c ∈ l := List.mem_of_getElem? h
  have h1 := n1_at hm
  rcases Nat.lt_trichotomy (n1 l c) k with h2 | h2 | h2
  · exact absurd h1 (hb _ h2)
  · exact h2
  · exact absurd h (n1_before h2)
theorem at_one (l : List Nat) (c i : Nat) : StrLaws.At (S l) (S [c]) (S l).length i ↔ l[i]? = some c := by
  have h := StrLaws.subAt_one (S l) c i
  rw [show (⟨#[c]⟩ : Str) = S [c] from rfl] at h
  rw [S_cps] at h
  exact h
theorem findS (l : List Nat) (c : Nat) : Txt.find (S l) (S [c]) = if c ∈ l then (n1 l c : Int) else -1 := by
  unfold Txt.find
  rcases StrLaws.occ_head (S l) (S [c]) 1 (Nat.le_refl 1) with ⟨h0, hn⟩ | ⟨i, r, h0, hi, hn⟩
  · rw [h0]
    have hc : c ∉ l := fun hm => by
      obtain ⟨j, hj⟩ := List.getElem?_of_mem hm
      exact hn j ((at_one l c j).mpr hj)
    rw [if_neg hc]
  · rw [h0]
    have h1 := (at_one l c i).mp hi
    rw [if_pos (List.mem_of_getElem? h1), n1_eq h1 fun j hj e => hn j hj ((at_one l c j).mpr e)]
theorem startsS (l : List Nat) (c : Nat) : Txt.startswith (S l) (S [c]) = decide (l[0]? = some c) := by
  have h := at_one l c 0
  unfold StrLaws.At at h
  unfold Txt.startswith
  rw [Bool.eq_iff_iff, Bool.and_eq_true, decide_eq_true_eq, decide_eq_true_eq]
  exact h
theorem partS (l : List Nat) (c : Nat) : (Txt.partition (S l) (S [c])).1 = S (l.take (n1 l c)) := by
  have ey : TL.tl (S [c]) = c :: [] := by simp [TL.tl, S]
  by_cases h : c ∈ l
  · have h1 := n1_at h
    have hlt : n1 l c < l.length := n1_mem.mp h
    have e : S l = S (l.take (n1 l c)) ++ S [c] ++ S (l.drop (n1 l c + 1)) := by
      rw [S_app, S_app]
      congr 1
      have e2 : l.drop (n1 l c) = c :: l.drop (n1 l c + 1) := by
        rw [List.drop_eq_getElem_cons hlt]
        rw [List.getElem?_eq_getElem hlt] at h1
        rw [Option.some.inj h1]
      rw [List.append_assoc, List.singleton_append, ← e2, List.take_append_drop]
    have hno : c ∉ TL.tl (S (l.take (n1 l c))) := by
      have : TL.tl (S (l.take (n1 l c))) = l.take (n1 l c) := by simp [TL.tl, S]
      rw [this]
      intro hm
      obtain ⟨j, hj⟩ := List.getElem?_of_mem hm
      have hj2 : j < n1 l c := by
        have := (List.getElem?_eq_some_iff.mp hj).1
        rw [List.length_take] at this
        omega
      rw [List.getElem?_take_of_lt hj2] at hj
      exact n1_before hj2 hj
    have q := TL.partition_app (y := S [c]) ey (a := S (l.take (n1 l c))) (b := S (l.drop (n1 l c + 1))) hno
    rw [← e] at q
    rw [q]
  · have hno : c ∉ TL.tl (S l) := by
      have : TL.tl (S l) = l := by simp [TL.tl, S]
      rw [this]
      exact h
    rw [TL.partition_none ey hno, n1_not h, List.take_length]
/-! cuts -/
section
variable {H : Hp} {Q : VK} {l : List Nat} {i j : Int} {m n : Nat}
theorem iSlTo (hz : l.length ≤ 100000) (e : i = (n : Int)) (h : Q (.str (S (l.take n))) H) : rSlS (.str (S l)) none (some i) H Q := by
  subst e
  refine ⟨S l, rfl, S_le hz, ?_⟩
  rw [S_to]
  exact h
theorem iSlFrom (hz : l.length ≤ 100000) (e : i = (n : Int)) (h : Q (.str (S (l.drop n))) H) : rSlS (.str (S l)) (some i) none H Q := by
  subst e
  refine ⟨S l, rfl, S_le hz, ?_⟩
  rw [S_from]
  exact h
theorem S_mid (l : List Nat) (m n : Nat) : cutS (S l) (some (m : Int)) (some (n : Int)) = S ((l.take n).drop m) := by
  rw [S_cut]
  have e1 : HT.sIx l.length 0 (some (m : Int)) = min m l.length := by
    have q := S_from l m
    unfold HT.sIx
    simp only []
    split
    · omega
    · omega
  have e2 : HT.sIx l.length l.length (some (n : Int)) = min n l.length := by
    unfold HT.sIx
    simp only []
    split
    · omega
    · omega
  rw [e1, e2]
  congr 1
  rw [List.drop_take]
  by_cases h : m ≤ l.length
  · rw [Nat.min_eq_left h]
    by_cases h2 : n ≤ l.length
    · rw [Nat.min_eq_left h2]
    · rw [Nat.min_eq_right (Nat.le_of_not_le h2)]
      have h3 : (l.drop m).length = l.length - m := List.length_drop
      rw [List.take_of_length_le (Nat.le_of_eq h3), List.take_of_length_le (by omega)]
  · rw [Nat.min_eq_right (Nat.le_of_not_le h), List.drop_of_length_le (Nat.le_refl _), List.drop_of_length_le (Nat.le_of_not_le h)]
    simp
theorem iSlMid (hz : l.length ≤ 100000) (e1 : i = (m : Int)) (e2 : j = (n : Int)) (h : Q (.str (S ((l.take n).drop m))) H) : rSlS (.str (S l)) (some i) (some j) H Q := by
  subst e1 e2
  refine ⟨S l, rfl, S_le hz, ?_⟩
  rw [S_mid]
  exact h
end
theorem iAddS {a b : List Nat} {H : Hp} {Q : VK} (hz : a.length + b.length ≤ 100000) (h : Q (.str (S (a ++ b))) H) : rAddS (.str (S a)) (.str (S b)) H Q := ⟨a, b, rfl, rfl, hz, h⟩
theorem iLenS1 {l : List Nat} {H : Hp} {Q : VK} (hz : l.length ≤ 100000) (h : Q (.int (l.length : Nat)) H) : rLenS1 [.str (S l)] H Q := ⟨l, rfl, hz, h⟩
theorem iInS {c : Nat} {l : List Nat} {H : Hp} {Q : VK} (h : Q (.bl (decide (c ∈ l))) H) : rInS false (.str (S [c])) (.str (S l)) H Q := ⟨c, l, rfl, rfl, by simpa using h⟩
theorem iNotInS {c : Nat} {l : List Nat} {H : Hp} {Q : VK} (h : Q (.bl (!decide (c ∈ l))) H) : rInS true (.str (S [c])) (.str (S l)) H Q := ⟨c, l, rfl, rfl, by simpa using h⟩
def rFindS : V → List V → Hp → VK → Prop := fun x xs H Q => ∃ (l : List Nat) (c : Nat), x = .str (S l) ∧ xs = [.str (S [c])] ∧ Q (.int (if c ∈ l then (n1 l c : Int) else -1)) H
theorem mt_findS {X : Cx} : MtR X "str.find" rFindS := by
  intro pins s σ H x xs v us Q I rx rs h
  obtain ⟨l, c, rfl, rfl, q⟩ := h
  exact mt_find pins s σ H _ _ v us Q I rx rs ⟨_, _, rfl, rfl, by rw [findS]; exact q⟩
def rStartS : V → List V → Hp → VK → Prop := fun x xs H Q => ∃ (l : List Nat) (c : Nat), x = .str (S l) ∧ xs = [.str (S [c])] ∧ Q (.bl (decide (l[0]? = some c))) H
theorem mt_startS {X : Cx} : MtR X "str.startswith" rStartS := by
  intro pins s σ H x xs v us Q I rx rs h
  obtain ⟨l, c, rfl, rfl, q⟩ := h
  exact mt_startswith pins s σ H _ _ v us Q I rx rs ⟨_, _, rfl, rfl, by rw [startsS]; exact q⟩
def rPartS : V → List V → Hp → VK → Prop := fun x xs H Q => ∃ (l : List Nat) (c : Nat), x = .str (S l) ∧ xs = [.str (S [c])] ∧ l.length ≤ 100000 ∧ ∀ p, H p = none → ∀ y z : V, Q (.ref p) (upd H p (.tup [.str (S (l.take (n1 l c))), y, z]))
theorem mt_partS {X : Cx} : MtR X "str.partition" rPartS := by
  intro pins s σ H x xs v us Q I rx rs h
  obtain ⟨l, c, rfl, rfl, hz, q⟩ := h
  exact mt_partition pins s σ H _ _ v us Q I rx rs ⟨_, _, rfl, rfl, rfl, S_le hz, fun p hp => by rw [partS]; exact q p hp _ _⟩
theorem iFindS {c : Nat} {l : List Nat} {H : Hp} {Q : VK} (h : Q (.int (if c ∈ l then (n1 l c : Int) else -1)) H) : rFindS (.str (S l)) [.str (S [c])] H Q := ⟨l, c, rfl, rfl, h⟩
theorem iFindYes {c : Nat} {l : List Nat} {H : Hp} {Q : VK} (hc : c ∈ l) (h : Q (.int (n1 l c : Nat)) H) : rFindS (.str (S l)) [.str (S [c])] H Q := iFindS (by rw [if_pos hc]; exact h)
theorem iFindNo {c : Nat} {l : List Nat} {H : Hp} {Q : VK} (hc : ¬ c ∈ l) (h : Q (.int (-1)) H) : rFindS (.str (S l)) [.str (S [c])] H Q := iFindS (by rw [if_neg hc]; exact h)
theorem iStartS {c : Nat} {l : List Nat} {H : Hp} {Q : VK} (h : Q (.bl (decide (l[0]? = some c))) H) : rStartS (.str (S l)) [.str (S [c])] H Q := ⟨l, c, rfl, rfl, h⟩
theorem iPartS {c : Nat} {l : List Nat} {H : Hp} {Q : VK} (hz : l.length ≤ 100000) (h : ∀ p, H p = none → ∀ y z : V, Q (.ref p) (upd H p (.tup [.str (S (l.take (n1 l c))), y, z]))) : rPartS (.str (S l)) [.str (S [c])] H Q := ⟨l, c, rfl, rfl, hz, h⟩
theorem inV_S (t : List Nat) : ∀ us : List (List Nat), inV (.str (S t)) (us.map fun l => V.str (S l)) = decide (t ∈ us)
  | [] => rfl
  | u :: r => by
    have ih := inV_S t r
    unfold inV at ih ⊢
    rw [List.map_cons, List.any_cons, ih]
    have e : eqV (V.str (S u)) (V.str (S t)) = decide (t = u) := by
      show (S u == S t) = _
      by_cases h : t = u
      · subst h
        simp
      · have h2 : S u ≠ S t := fun e => h (S_inj.mp e).symm
        rw [beq_eq_false_iff_ne.mpr h2, decide_eq_false h]
    rw [e, Bool.eq_iff_iff]
    simp
/-- a text among written texts -/
theorem iInL {K : PySem.W.Frag} {p : Addr} {t : List Nat} {us : List (List Nat)} {xs : List V} {H : Hp} {Q : VK} (hq : SqL K H p xs ∨ SqT K H p xs) (hx : xs = us.map fun l => V.str (S l)) (h : Q (.bl (decide (t ∈ us))) H) : rIn K false (.str (S t)) (.ref p) H Q := by
  subst hx
  refine ⟨p, _, rfl, hq, rfl, ?_, ?_⟩
  · rw [List.all_map]
    simp [flatV]
  · rw [if_neg Bool.false_ne_true, inV_S]
    exact h
theorem iNInL {K : PySem.W.Frag} {p : Addr} {t : List Nat} {us : List (List Nat)} {xs : List V} {H : Hp} {Q : VK} (hq : SqL K H p xs ∨ SqT K H p xs) (hx : xs = us.map fun l => V.str (S l)) (h : Q (.bl (!decide (t ∈ us))) H) : rIn K true (.str (S t)) (.ref p) H Q := by
  subst hx
  refine ⟨p, _, rfl, hq, rfl, ?_, ?_⟩
  · rw [List.all_map]
    simp [flatV]
  · rw [if_pos rfl, inV_S]
    exact h
end Vk
set_option Elab.async false
set_option linter.all false
set_option maxRecDepth 100000
set_option maxHeartbeats 4000000
namespace Vk
open PySem PySem.Spec PyProof.Rows L2
/-! V2: isinstance -/
section
variable {K : PySem.W.Frag} {H : Hp} {Q : VK}
theorem isi_int_int {i : Int} (h : Q (.bl true) H) : rIsi K [.int i, .ty "int"] H Q := ⟨_, _, _, _, true, rfl, .ty "int", .base (.int i), rfl, h⟩
theorem isi_int_bool {i : Int} (h : Q (.bl false) H) : rIsi K [.int i, .ty "bool"] H Q := ⟨_, _, _, _, false, rfl, .ty "bool", .base (.int i), rfl, h⟩
theorem isi_int_str {i : Int} (h : Q (.bl false) H) : rIsi K [.int i, .ty "str"] H Q := ⟨_, _, _, _, false, rfl, .ty "str", .base (.int i), rfl, h⟩
theorem isi_str_str {z : Str} (h : Q (.bl true) H) : rIsi K [.str z, .ty "str"] H Q := ⟨_, _, _, _, true, rfl, .ty "str", .base (.str z), rfl, h⟩
theorem isi_str_int {z : Str} (h : Q (.bl false) H) : rIsi K [.str z, .ty "int"] H Q := ⟨_, _, _, _, false, rfl, .ty "int", .base (.str z), rfl, h⟩
theorem isi_str_bool {z : Str} (h : Q (.bl false) H) : rIsi K [.str z, .ty "bool"] H Q := ⟨_, _, _, _, false, rfl, .ty "bool", .base (.str z), rfl, h⟩
theorem isi_bl_bool {b : Bool} (h : Q (.bl true) H) : rIsi K [.bl b, .ty "bool"] H Q := ⟨_, _, _, _, true, rfl, .ty "bool", .base (.bl b), rfl, h⟩
theorem isi_bl_int {b : Bool} (h : Q (.bl true) H) : rIsi K [.bl b, .ty "int"] H Q := ⟨_, _, _, _, true, rfl, .ty "int", .base (.bl b), rfl, h⟩
theorem isi_bl_str {b : Bool} (h : Q (.bl false) H) : rIsi K [.bl b, .ty "str"] H Q := ⟨_, _, _, _, false, rfl, .ty "str", .base (.bl b), rfl, h⟩
end
end Vk
set_option Elab.async false
set_option linter.all false
set_option maxRecDepth 100000
set_option maxHeartbeats 4000000
namespace Vk
open PySem PySem.Spec PyProof.Rows L2
/-! V3: comprehensions, loops, texts joined -/
theorem SqL.off {K : PySem.W.Frag} {H1 H2 : Hp} {a D : Addr} {xs : List V} (h : SqL K H1 a xs) (hD : H1 D = none) (off : ∀ b, b ≠ D → H2 b = H1 b) : SqL K H2 a xs := by
  rcases h with h | h
  · refine .inl ?_
    rcases h with h | ⟨o, h⟩
    · exact .inl ((off a (ne_of_none h hD)).trans h)
    · exact .inr ⟨o, (off a (ne_of_none h hD)).trans h⟩
  · exact .inr h
theorem SqL.same {K : PySem.W.Frag} {H1 H2 : Hp} {a : Addr} {xs : List V} (h : SqL K H1 a xs) (s : Same H1 H2) : SqL K H2 a xs := by
  rcases h with h | h
  · refine .inl ?_
    rcases h with h | ⟨o, h⟩
    · exact .inl (s _ _ h)
    · exact .inr ⟨o, s _ _ h⟩
  · exact .inr h
section
variable {K : PySem.W.Frag} {σ : L2.St} {H H1 : Hp} {Q : VK} {te tl : TE} {tt : TT} {vs : List Nat} {g : TG} {ta : TA}
/-- the loop of a comprehension, for the walk to stop at -/
def LcG (J : It) (g : TG) (tt : TT) (te : TE) (vs : List Nat) (σ : L2.St) (H1 : Hp) (D : Addr) (Q : VK) : Prop := ∃ W : Nat → Nat → Hp → Prop, (∃ m, W 0 m (upd H1 D (.lst []))) ∧ ∀ i m H, W i m H →
  (J.stop i H ∧ Q (.ref D) H) ∨ (J.go i H ∧ ∃ Nx : Hp → Prop, (∀ H', Nx H' → ∃ m', m' < m ∧ W (i + 1) m' H') ∧ ∀ x H', J.yld i H x H' → g x (wipe σ vs) H' fun σ2 H2 => wipe σ2 vs = wipe σ vs ∧ tt σ2 H2 fun b H3 =>
    if b = true then te σ2 H3 fun y H4 => ∃ acc, H4 D = some (.lst acc) ∧ acc.length < sizeLine ∧ Nx (upd H4 D (.lst (acc ++ [y]))) else Nx H3)
theorem iLcL (h : tl σ H fun x H1 => ∃ a, x = .ref a ∧ (∃ xs, SqL K H1 a xs) ∧ ∀ D, H1 D = none → LcG (Itl K a) g tt te vs σ H1 D Q) : tLc (iList K tl) g tt te vs σ H Q := h
theorem iLcS (h : tl σ H fun x H1 => ∃ z, x = .str z ∧ ∀ D, H1 D = none → LcG (Its z) g tt te vs σ H1 D Q) : tLc (iStr tl) g tt te vs σ H Q := h
theorem iLcR1 (h : ta σ H fun ws H1 => ∃ j : Int, ws = [.int j] ∧ -(2 ^ 62) ≤ j ∧ j < 2 ^ 62 ∧ ∀ D, H1 D = none → LcG (Itr 0 j.toNat) g tt te vs σ H1 D Q) : tLc (iRng1 ta) g tt te vs σ H Q := h
/-- a comprehension over a list that stands still, nothing else done -/
theorem lcg_list {a D : Addr} {xs : List V} {j : Nat} (p : V → Bool) (v : V → V) (hl : xs.length ≤ 4000) (hx : SqL K H1 a xs) (hD : H1 D = none)
    (hw : ∀ x, wipe ((wipe σ vs).set j (some x)) vs = wipe σ vs)
    (ht : ∀ x ∈ xs, ∀ (H2 : Hp) (Q : Bool → Hp → Prop), (∀ b, b ≠ D → H2 b = H1 b) → Q (p x) H2 → tt ((wipe σ vs).set j (some x)) H2 Q)
    (he : ∀ x ∈ xs, p x = true → ∀ (H2 : Hp) (Q : VK), (∀ b, b ≠ D → H2 b = H1 b) → Q (v x) H2 → te ((wipe σ vs).set j (some x)) H2 Q)
    (hq : Q (.ref D) (upd H1 D (.lst ((xs.filter p).map v)))) : LcG (Itl K a) (gName j) tt te vs σ H1 D Q := by
  refine lc_it (walk_list (K := K) (a := a) (xs := xs)) (fun i H => H = upd H1 D (.lst (((xs.take i).filter p).map v))) rfl (fun i H hi e => ?_) ?_ ?_
  · subst e
    exact SqL.off hx hD fun b hb => upd_ne hb
  · rintro i x H H' hi hP ⟨rfl, hc⟩
    subst hP
    have hm : x ∈ xs := List.mem_of_getElem? hc
    have off : ∀ b, b ≠ D → (upd H1 D (.lst (((xs.take i).filter p).map v))) b = H1 b := fun b hb => upd_ne hb
    have e1 : xs.take (i + 1) = xs.take i ++ [x] := by
      rw [List.take_add_one, hc]
      rfl
    refine ⟨hw _, ht x hm _ _ off ?_⟩
    by_cases hp : p x = true
    · rw [if_pos hp]
      refine he x hm hp _ _ off ⟨_, upd_same, ?_, ?_⟩
      · rw [List.length_map, sizeLine_eq]
        have h1 := List.length_filter_le p (xs.take i)
        rw [List.length_take] at h1
        omega
      · rw [upd_upd, e1, List.filter_append, List.filter_cons_of_pos hp, List.filter_nil, List.map_append]
        rfl
    · rw [if_neg hp, e1, List.filter_append, List.filter_cons_of_neg hp, List.filter_nil, List.append_nil]
  · rintro H rfl
    rw [List.take_length]
    exact hq
/-! for -/
/-- the loop of a for, for the walk to stop at -/
def ForG (J : It) (g : TG) (tb : TS) (D : Ends) (σ : L2.St) (H1 : Hp) : Prop := ∃ W : Nat → Nat → L2.St → Hp → Prop, (∃ m, W 0 m σ H1) ∧ ∀ i m σ H, W i m σ H →
  (J.stop i H ∧ D.nx σ H) ∨ (J.go i H ∧ ∃ N : L2.St → Hp → Prop, (∀ σ' H', N σ' H' → ∃ m', m' < m ∧ W (i + 1) m' σ' H') ∧ ∀ x H', J.yld i H x H' → g x σ H' fun σ2 H2 => tb { D with nx := N, ct := N, bk := D.nx } σ2 H2)
theorem iForL {D : Ends} {tb : TS} (h : tl σ H fun x H1 => ∃ a, x = .ref a ∧ (∃ xs, SqL K H1 a xs) ∧ ForG (Itl K a) g tb D σ H1) : tFor (iList K tl) g tb D σ H := h
theorem iForS {D : Ends} {tb : TS} (h : tl σ H fun x H1 => ∃ z, x = .str z ∧ ForG (Its z) g tb D σ H1) : tFor (iStr tl) g tb D σ H := h
theorem iForR1 {D : Ends} {tb : TS} (h : ta σ H fun ws H1 => ∃ j : Int, ws = [.int j] ∧ -(2 ^ 62) ≤ j ∧ j < 2 ^ 62 ∧ ForG (Itr 0 j.toNat) g tb D σ H1) : tFor (iRng1 ta) g tb D σ H := h
theorem iForR2 {D : Ends} {tb : TS} (h : ta σ H fun ws H1 => ∃ i j : Int, ws = [.int i, .int j] ∧ (-(2 ^ 62) ≤ i ∧ i < 2 ^ 62 ∧ -(2 ^ 62) ≤ j ∧ j < 2 ^ 62) ∧ ForG (Itr i (j - i).toNat) g tb D σ H1) : tFor (iRng2 ta) g tb D σ H := h
/-- a loop over a text -/
theorem for_S {D : Ends} {tb : TS} {l : List Nat} (Pv : Nat → L2.St → Hp → Prop) (h0 : Pv 0 σ H)
    (hs : ∀ i c σ H, l[i]? = some c → Pv i σ H → g (.str (S [c])) σ H fun σ2 H2 => tb { nx := Pv (i + 1), rt := D.rt, bk := D.nx, ct := Pv (i + 1) } σ2 H2) (hd : ∀ σ H, Pv l.length σ H → D.nx σ H) : ForG (Its (S l)) g tb D σ H := by
  refine for_it walk_str Pv h0 (fun _ _ _ _ _ => trivial) ?_ ?_
  · rintro i x σ H H' hi hP ⟨rfl, c, hc, rfl⟩
    exact hs i c σ _ (S_get.mp hc) hP
  · intro σ H h
    rw [S_size] at h
    exact hd σ H h
/-- a loop over range(n) -/
theorem for_R {D : Ends} {tb : TS} {lo : Int} {n : Nat} (Pv : Nat → L2.St → Hp → Prop) (h0 : Pv 0 σ H)
    (hs : ∀ i σ H, i < n → Pv i σ H → g (.int (lo + (i : Int))) σ H fun σ2 H2 => tb { nx := Pv (i + 1), rt := D.rt, bk := D.nx, ct := Pv (i + 1) } σ2 H2) (hd : ∀ σ H, Pv n σ H → D.nx σ H) : ForG (Itr lo n) g tb D σ H :=
  for_range Pv h0 hs hd
/-- a loop over a list -/
theorem for_L {D : Ends} {tb : TS} {a : Addr} {xs : List V} (Pv : Nat → L2.St → Hp → Prop) (h0 : Pv 0 σ H) (hl : ∀ i σ H, i ≤ xs.length → Pv i σ H → SqL K H a xs)
    (hs : ∀ i x σ H, xs[i]? = some x → Pv i σ H → g x σ H fun σ2 H2 => tb { nx := Pv (i + 1), rt := D.rt, bk := D.nx, ct := Pv (i + 1) } σ2 H2) (hd : ∀ σ H, Pv xs.length σ H → D.nx σ H) : ForG (Itl K a) g tb D σ H :=
  for_list Pv h0 hl hs hd
/-- a comprehension over range(n), which may change the heap -/
theorem lcg_R {D : Addr} {n j : Nat} {lo : Int} (Pv : Nat → Hp → Prop) (h0 : Pv 0 (upd H1 D (.lst []))) (hw : ∀ x, wipe ((wipe σ vs).set j (some x)) vs = wipe σ vs)
    (hs : ∀ i H, i < n → Pv i H → tt ((wipe σ vs).set j (some (.int (lo + (i : Int))))) H fun b H3 => if b = true then te ((wipe σ vs).set j (some (.int (lo + (i : Int))))) H3 fun y H4 => ∃ acc, H4 D = some (.lst acc) ∧ acc.length < sizeLine ∧ Pv (i + 1) (upd H4 D (.lst (acc ++ [y]))) else Pv (i + 1) H3)
    (hd : ∀ H, Pv n H → Q (.ref D) H) : LcG (Itr lo n) (gName j) tt te vs σ H1 D Q := by
  refine lc_it walk_range Pv h0 (fun _ _ _ _ => trivial) ?_ hd
  rintro i x H H' hi hP ⟨rfl, rfl⟩
  exact ⟨hw _, hs i _ hi hP⟩
/-- .. over a text -/
theorem lcg_S {D : Addr} {j : Nat} {l : List Nat} (Pv : Nat → Hp → Prop) (h0 : Pv 0 (upd H1 D (.lst []))) (hw : ∀ x, wipe ((wipe σ vs).set j (some x)) vs = wipe σ vs)
    (hs : ∀ i c H, l[i]? = some c → Pv i H → tt ((wipe σ vs).set j (some (.str (S [c])))) H fun b H3 => if b = true then te ((wipe σ vs).set j (some (.str (S [c])))) H3 fun y H4 => ∃ acc, H4 D = some (.lst acc) ∧ acc.length < sizeLine ∧ Pv (i + 1) (upd H4 D (.lst (acc ++ [y]))) else Pv (i + 1) H3)
    (hd : ∀ H, Pv l.length H → Q (.ref D) H) : LcG (Its (S l)) (gName j) tt te vs σ H1 D Q := by
  refine lc_it walk_str Pv h0 (fun _ _ _ _ => trivial) ?_ ?_
  · rintro i x H H' hi hP ⟨rfl, c, hc, rfl⟩
    exact ⟨hw _, hs i c _ (S_get.mp hc) hP⟩
  · intro H h
    rw [S_size] at h
    exact hd H h
theorem iYes {Q : Bool → Hp → Prop} (h : Q true H) : tYes σ H Q := h
end
/-- what was new is forgotten -/
theorem Fr.forget {L M : List Addr} {H H' : Hp} (f : Fr M H H') (h : ∀ x ∈ M, x ∈ L ∨ H x = Option.none) : Fr L H H' := fun x u hx e => f x u (fun hm => by
  rcases h x hm with h | h
  · exact hx h
  · rw [e] at h
    cases h) e
theorem Fr.forget2 {b D : Addr} {H H' : Hp} (f : Fr [b, D] H H') (h : H D = Option.none) : Fr [b] H H' := f.forget fun x hx => by
  rcases List.mem_cons.mp hx with rfl | hx
  · exact .inl List.mem_cons_self
  · rw [List.mem_singleton] at hx
    subst hx
    exact .inr h
theorem Fr.forget1 {D : Addr} {H H' : Hp} (f : Fr [D] H H') (h : H D = Option.none) : Same H H' := (f.forget (L := []) fun x hx => by
    rw [List.mem_singleton] at hx
    subst hx
    exact .inr h).same
/-- '' joins signs -/
theorem join_S {l : List Nat} (hl : l.length ≤ 4000) : (((l.map fun c => S [c]).map (·.length)).sum + (l.map fun c => S [c]).length * (S []).length ≤ 16777216) ∧ Txt.join (S []) (l.map fun c => S [c]) = S l := by
  refine ⟨?_, join_signs _⟩
  rw [S_len, List.length_nil, Nat.mul_zero, Nat.add_zero, List.map_map]
  have e1 : l.map ((fun x : Str => x.length) ∘ fun c => S [c]) = l.map fun _ => 1 := List.map_congr_left fun c _ => S_len [c]
  rw [e1]
  have e2 : (l.map fun _ => 1).sum = l.length := by
    clear hl e1
    induction l with
    | nil => rfl
    | cons x xs ih => rw [List.map_cons, List.sum_cons, ih, List.length_cons, Nat.add_comm]
  rw [e2]
  omega
theorem iJoinS {K : PySem.W.Frag} {p : Addr} {l : List Nat} {H : Hp} {Q : VK} (hq : SqL K H p (l.map fun c => V.str (S [c]))) (hl : l.length ≤ 4000) (h : Q (.str (S l)) H) :
    ∃ (a : Str) (q : Addr) (ys : List Str), V.str (S []) = .str a ∧ [V.ref p] = [.ref q] ∧ (SqL K H q (ys.map V.str) ∨ SqT K H q (ys.map V.str)) ∧ (ys.map (·.length)).sum + ys.length * a.length ≤ 16777216 ∧ Q (.str (Txt.join a ys)) H := by
  obtain ⟨h1, h2⟩ := join_S hl
  refine ⟨S [], p, l.map fun c => S [c], rfl, rfl, .inl ?_, h1, ?_⟩
  · rw [List.map_map]
    exact hq
  · rw [h2]
    exact h
end Vk
set_option Elab.async false
set_option linter.all false
set_option maxRecDepth 100000
set_option maxHeartbeats 4000000
namespace Vk
open PySem PySem.Spec PyProof.Rows L2
section
variable {X : Cx}
/-- list(text): its signs -/
theorem call_listT (hc : X.calm = true) : CallR X (.type "list") rListT := by
  intro pins s σ H xs us Q I r q
  obtain ⟨z, ex, hz, q⟩ := q
  subst ex
  obtain ⟨u, eu, rx⟩ := vals1 r
  subst eu
  obtain ⟨t, rfl⟩ := rx
  have hz2 : z.cps.size ≤ 4000 := hz
  refine call_list_str (hn := by rw [sizeLine_eq]; omega) (I.ok.hd hc) z t fun h' tk acc c' hk he hacc => ?_
  have hS := signs_strs hacc
  have hlen : ((signsOf z).map V.str).length ≤ sizeLine := by
    rw [List.length_map]
    unfold signsOf
    rw [List.length_map, Array.length_toList, sizeLine_eq]
    omega
  refine ⟨.ref s.heap.objs.size, upd H s.heap.objs.size (.lst ((signsOf z).map V.str)), I.laid (t' := tk) hk (Nat.le_refl _)
    (show ObjOk X.prog X.w _ _ _ (.lst ((signsOf z).map V.str)) from ⟨hlen, acc.toList, c', vals_of_strs hS, by rw [Array.toArray_toList]; exact he⟩), rfl, q _ (I.hok.fresh (Nat.le_refl _))⟩
def repL (n : Nat) (l : List Nat) : List Nat := (List.replicate n l).flatten
theorem repL_len (n : Nat) (l : List Nat) : (repL n l).length = n * l.length := by
  unfold repL
  rw [List.length_flatten, List.map_replicate, List.sum_replicate_nat]
theorem fold_rep (a : Array Nat) : ∀ (n : Nat) (acc : Array Nat), ((List.replicate n a).foldl (· ++ ·) acc).toList = acc.toList ++ (List.replicate n a.toList).flatten
  | 0, acc => by simp
  | n + 1, acc => by
    rw [List.replicate_succ, List.foldl_cons, fold_rep a n, List.replicate_succ, List.flatten_cons, Array.toList_append, List.append_assoc]
/-- text * number -/
def rMulT : R2 := fun x y H Q => ∃ (l : List Nat) (n : Nat), x = .str (S l) ∧ y = .int (n : Int) ∧ l.length * n ≤ 4000 ∧ n ≤ 4000 ∧ Q (.str (S (repL n l))) H
theorem op_mulT : OpR X (binaryOp .Mult) rMulT := by
  intro pins s σ H x y v u Q I rx ry h
  obtain ⟨l, n, rfl, rfl, hln, hn, q⟩ := h
  obtain ⟨t, rfl⟩ := rx
  obtain ⟨t', rfl⟩ := ry
  have hl := S_len l
  refine PySem.P.mul_str ?_ (fun h1 h2 => ?_) (fun h1 h2 => ?_) ?_
  · rw [decide_eq_false (by omega), decide_eq_false (by omega)]
    rfl
  · rw [hl]
    have h3 : (l.length : Int) ≤ (2 ^ 63 - 1) / (n : Int) := by
      refine Int.le_ediv_of_mul_le (by omega) ?_
      have : ((l.length * n : Nat) : Int) ≤ 4000 := by omega
      rw [Int.natCast_mul] at this
      omega
    omega
  · unfold PySem.Builtin.Str.tooLong
    rw [hl, Int.toNat_natCast, sizeLine_eq]
    exact decide_eq_false (by omega)
  · by_cases h1 : (n : Int) < 1
    · rw [if_pos h1]
      have e : n = 0 := by omega
      subst e
      exact ⟨by decide, ⟨.str (S (repL 0 l)), H, I.tok _, ⟨_, rfl⟩, q⟩⟩
    · rw [if_neg h1]
      by_cases h2 : ((n : Int) == 1 || (S l).length == 0) = true
      · rw [if_pos h2]
        have e : repL n l = l := by
          rcases Bool.or_eq_true_iff.mp h2 with h | h
          · have : n = 1 := by
              have := beq_iff_eq.mp h
              omega
            subst this
            unfold repL
            simp
          · have h3 := beq_iff_eq.mp h
            rw [hl] at h3
            have : l = [] := List.length_eq_zero_iff.mp h3
            subst this
            unfold repL
            simp
        rw [e] at q
        exact ⟨.str (S l), H, I, ⟨_, rfl⟩, q⟩
      · rw [if_neg h2]
        have e : (⟨(List.replicate (n : Int).toNat (S l).cps).foldl (· ++ ·) #[]⟩ : Str) = S (repL n l) := by
          rw [Int.toNat_natCast, S_of (⟨_⟩ : Str)]
          congr 1
          show ((List.replicate n (S l).cps).foldl (· ++ ·) #[]).toList = _
          rw [fold_rep, S_cps]
          rfl
        rw [e]
        refine ⟨?_, ⟨.str (S (repL n l)), H, I.tok _, ⟨_, rfl⟩, q⟩⟩
        rw [S_len, repL_len, sizeLine_eq, Nat.mul_comm]
        omega
end
end Vk
set_option Elab.async false
set_option linter.all false
set_option maxRecDepth 100000
set_option maxHeartbeats 4000000
namespace Vk
open PySem PySem.Spec PyProof.Rows L2
section
variable {K : PySem.W.Frag} {H : Hp} {Q : VK} {a : Addr} {xs : List V}
theorem iSlL {lo hi : Option Int} (hq : SqL K H a xs) (h : ∀ p, H p = none → Q (.ref p) (upd H p (.lst (cutV xs lo hi)))) : rSlL K (.ref a) lo hi H Q := ⟨a, xs, rfl, hq, h⟩
theorem iCat {b : Addr} {ys : List V} (ha : H a = some (.lst xs)) (hb : H b = some (.lst ys)) (hz : xs.length + ys.length ≤ sizeLine) (h : ∀ p, H p = none → Q (.ref p) (upd H p (.lst (xs ++ ys)))) : rCat (.ref a) (.ref b) H Q := ⟨a, b, xs, ys, rfl, rfl, ha, hb, hz, h⟩
theorem iAppend {y : V} (ha : H a = some (.lst xs)) (hz : xs.length < sizeLine) (h : Q .non (upd H a (.lst (xs ++ [y])))) : rAppend (.ref a) [y] H Q := ⟨a, xs, y, rfl, rfl, ha, hz, h⟩
theorem iTruL {R : Bool → Prop} (hq : SqL K H a xs) (h : R (!xs.isEmpty)) : ∃ k, TruV K (.ref a) H k ∧ R k := ⟨_, .inl ⟨xs, hq, rfl⟩, h⟩
theorem iTruNil {R : Bool → Prop} (hq : SqL K H a []) (h : R false) : ∃ k, TruV K (.ref a) H k ∧ R k := ⟨_, .inl ⟨[], hq, rfl⟩, h⟩
theorem iTruCons {R : Bool → Prop} {x : V} (hq : SqL K H a (x :: xs)) (h : R true) : ∃ k, TruV K (.ref a) H k ∧ R k := ⟨_, .inl ⟨_, hq, rfl⟩, h⟩
theorem iListT {l : List Nat} (hl : l.length ≤ 4000) (h : ∀ p, H p = none → Q (.ref p) (upd H p (.lst (l.map fun c => V.str (S [c]))))) : rListT [.str (S l)] H Q := by
  refine ⟨S l, rfl, (by rw [S_len]; exact hl), fun p hp => ?_⟩
  have e : (signsOf (S l)).map V.str = l.map fun c => V.str (S [c]) := by
    rw [signs_S, List.map_map]
    rfl
  rw [e]
  exact h p hp
end
end Vk
set_option Elab.async false
set_option linter.all false
set_option maxRecDepth 100000
set_option maxHeartbeats 4000000
/-! set(text) and len(set(text)), whatever the text -/
namespace Vk
open PySem PySem.Spec PyProof.Rows L2

/-- the different codes, in the order in which they are met -/
def met : List Nat → List Nat
  | [] => []
  | c :: r => if (met r).contains c then met r else c :: met r
def metAt (l : List Nat) (i : Nat) : List Nat := met (l.take i).reverse
theorem metAt_succ {l : List Nat} {i c : Nat} (h : l[i]? = some c) : metAt l (i + 1) = if (metAt l i).contains c then metAt l i else c :: metAt l i := by
  unfold metAt
  have e : l.take (i + 1) = l.take i ++ [c] := by
    rw [List.take_add_one, h]
    rfl
  rw [e, List.reverse_append]
  rfl
theorem met_len : ∀ l : List Nat, (met l).length ≤ l.length
  | [] => Nat.le_refl _
  | c :: r => by
    have ih := met_len r
    unfold met
    split
    · exact Nat.le_succ_of_le ih
    · simp only [List.length_cons]
      omega
theorem mem_met : ∀ (l : List Nat) (c : Nat), c ∈ met l ↔ c ∈ l
  | [], c => Iff.rfl
  | a :: r, c => by
    have ih := mem_met r
    unfold met
    by_cases h : (met r).contains a = true
    · rw [if_pos h, ih]
      have ha : a ∈ r := (ih a).mp (by simpa using h)
      constructor
      · exact fun q => List.mem_cons_of_mem _ q
      · intro q
        rcases List.mem_cons.mp q with rfl | q
        · exact ha
        · exact q
    · rw [if_neg h]
      simp only [List.mem_cons, ih]
theorem met_full : ∀ l : List Nat, (met l).length = l.length ↔ l.Nodup
  | [] => by simp [met]
  | a :: r => by
    have ih := met_full r
    have hl := met_len r
    unfold met
    by_cases h : (met r).contains a = true
    · rw [if_pos h]
      have ha : a ∈ r := (mem_met r a).mp (by simpa using h)
      constructor
      · intro e
        simp only [List.length_cons] at e
        omega
      · intro q
        exact absurd ha (List.nodup_cons.mp q).1
    · rw [if_neg h]
      have ha : a ∉ r := fun q => h (by simpa using (mem_met r a).mpr q)
      simp only [List.length_cons, List.nodup_cons, ha, not_false_eq_true, true_and, Nat.add_right_cancel_iff]
      exact ih
theorem nodup_rev {l : List Nat} : l.reverse.Nodup ↔ l.Nodup := by
  refine (List.pairwise_reverse (R := fun a b : Nat => a ≠ b)).trans ?_
  exact ⟨fun h => h.imp Ne.symm, fun h => h.imp Ne.symm⟩
theorem metAt_end (l : List Nat) : (metAt l l.length).length = l.length ↔ l.Nodup := by
  unfold metAt
  rw [List.take_length]
  have h := met_full l.reverse
  rw [List.length_reverse] at h
  exact h.trans nodup_rev
/-- the set of the signs met -/
def metS (l : List Nat) (i : Nat) : Str → Bool := fun k => (metAt l i).any fun c => decide (k = (⟨#[c]⟩ : Str))
theorem metS_mem {l : List Nat} {i c : Nat} : metS l i ⟨#[c]⟩ = (metAt l i).contains c := by
  unfold metS
  rw [Bool.eq_iff_iff, List.any_eq_true]
  constructor
  · rintro ⟨d, hd, e⟩
    have e1 : [c] = [d] := congrArg (fun y : Str => y.cps.toList) (of_decide_eq_true e)
    have e2 : c = d := (List.cons.inj e1).1
    simpa [e2] using hd
  · intro h
    exact ⟨c, by simpa using h, by simp⟩
theorem metS_step {l : List Nat} {i c : Nat} (h : l[i]? = some c) (k : Str) : (metS l i k || decide (k = (⟨#[c]⟩ : Str))) = metS l (i + 1) k := by
  unfold metS
  rw [metAt_succ h]
  by_cases q : (metAt l i).contains c = true
  · rw [if_pos q]
    by_cases e : k = (⟨#[c]⟩ : Str)
    · subst e
      have := metS_mem (l := l) (i := i) (c := c)
      unfold metS at this
      rw [this, q]
      rfl
    · simp [e]
  · rw [if_neg q, List.any_cons, Bool.or_comm]
theorem metN_step {l : List Nat} {i c : Nat} (h : l[i]? = some c) : (if metS l i ⟨#[c]⟩ = true then (metAt l i).length else (metAt l i).length + 1) = (metAt l (i + 1)).length := by
  rw [metAt_succ h, metS_mem]
  split
  · rfl
  · rfl

section
variable {prog : Program} {w : World} {A : Around} {R : Result → Shared → Prop} {I : Addr} {fp wr : List Addr} {G : Array GenState → Array GenState → Prop} {P : Nat → Value → Prop} {St : Nat → Shared → Prop}
theorem upd_text {l : List Nat} (W : WalksS prog w A.in1 I fp wr G l.length P St) (S : Addr) (hSf : S ∉ fp)
    (hval : ∀ i v, P i v → ∃ c t, l[i]? = some c ∧ v = .str ⟨#[c]⟩ t) (hb : l.length + 1 < scanBound) :
    ∀ (k i : Nat) (s : Shared), l.length - i = k → i ≤ l.length → St i s → s.heap.SetOf (strKind prog w) S (metS l i) (metAt l i).length →
      (∀ s', Moved (S :: wr) G s s' → s'.heap.SetOf (strKind prog w) S (metS l l.length) (metAt l l.length).length → R (.ok (.ret .none)) s') → codeAny (model prog w) A (.builtin "set.update.loop" ⟨[.ref S, .ref I], []⟩) R s := by
  have hSw : S ∉ wr := fun h => hSf (W.sub _ h)
  have hsub : ∀ b ∈ wr, b ∈ S :: wr := fun b hb => List.mem_cons_of_mem _ hb
  intro k
  induction k with
  | zero =>
    intro i s hk hi hst hS hR
    obtain rfl : i = l.length := by omega
    refine codeAny_builtin PyProof.Rows.F.entry_set_update_loop ?_
    rw [Around.under_plainId PyProof.Rows.F.plain_set_update_loop _]
    show wpAny _ A.in1 (pyNext (.ref I) >>= _) _ _ s
    refine wpAny_bind (W.done s _ _ hst fun s1 hm => ?_)
    show wpAny _ A.in1 (ret Value.none) _ _ s1
    refine wpAny_pure (hR s1 (hm.mono hsub) ?_)
    obtain ⟨o, es, ep, t, ho, more⟩ := hS
    exact ⟨o, es, ep, t, hm.heap S _ hSw ho, more⟩
  | succ k ih =>
    intro i s hk hi hst hS hR
    have hlt : i < l.length := by omega
    refine codeAny_builtin PyProof.Rows.F.entry_set_update_loop ?_
    rw [Around.under_plainId PyProof.Rows.F.plain_set_update_loop _]
    show wpAny _ A.in1 (pyNext (.ref I) >>= _) _ _ s
    refine wpAny_bind (W.item i s _ _ hlt hst fun v s1 hP hst1 hm => ?_)
    obtain ⟨c, t, hc, rfl⟩ := hval i v hP
    have hS1 : s1.heap.SetOf (strKind prog w) S (metS l i) (metAt l i).length := by
      obtain ⟨o, es, ep, tb, ho, more⟩ := hS
      exact ⟨o, es, ep, tb, hm.heap S _ hSw ho, more⟩
    show wpAny _ A.in1 (holding [Value.str ⟨#[c]⟩ t] (setAdd S (.str ⟨#[c]⟩ t)) >>= _) _ _ s1
    refine wpAny_bind (wpAny_holding ?_)
    unfold setAdd
    refine wpAny_holding (wpAny_bind ((strKind prog w).pyHash (k := ⟨#[c]⟩) (strKind_is _ _ _ _) ?_))
    have hroom : (metAt l i).length + 1 < scanBound := by
      have h1 := met_len (l.take i).reverse
      rw [List.length_reverse, List.length_take] at h1
      have h2 : (metAt l i).length ≤ min i l.length := h1
      omega
    refine wpAny_setAddHashed_of (knd := strKind prog w) (s := { s1 with toks := s1.toks + 1 }) (strKind_is _ _ _ _) rfl hS1 hroom fun h2 hsb hS2 => ?_
    have hSi : h2.SetOf (strKind prog w) S (metS l (i + 1)) (metAt l (i + 1)).length := SetOf_congr hS2 (fun y => metS_step hc y) (metN_step hc)
    refine wpAny_pure ⟨plainId_quiet PyProof.Rows.F.plain_set_update_loop _, ih (i + 1) _ (by omega) hlt (W.frame _ s1 _ _ hst1 (Nat.le_succ _) fun b hb o e => ?_) hSi fun s3 hm3 hS3 => ?_⟩
    · rw [hsb.2 b (fun z : b = S => hSf (by rw [← z]; exact hb))]
      exact e
    · refine hR s3 (Moved.trans W.gtrans ((hm.mono hsub).then_heap (Nat.le_succ _) fun b o hb e => ?_) hm3) hS3
      rw [hsb.2 b (fun z : b = S => hb (by rw [z]; exact List.mem_cons_self))]
      exact e
end

section
variable {prog : Program} {w : World} {A : Around} {E : Value → Shared → Prop} {s : Shared}
theorem call_set_text {x : Str} {t : Tok} {Q : Value → Shared → Prop} (hh : A.handled = none) (hb : x.cps.size + 1 < scanBound)
    (h : ∀ (h2 : Heap) (tk : Nat), h2.SetOf (strKind prog w) s.heap.objs.size (metS x.cps.toList x.cps.size) (metAt x.cps.toList x.cps.size).length →
      (∀ b o, b < s.heap.objs.size → s.heap.get? b = some o → h2.get? b = some o) → Q (.ref s.heap.objs.size) { s with heap := h2, toks := tk }) :
    wpAny (model prog w) A (call (.type "set") [.str x t]) Q E s := by
  obtain ⟨c, tl, hmro⟩ := PySem.F.called_set.mro
  have hmade := PySem.F.called_set.made
  have hsub := PySem.F.called_set.sub
  refine wpAny_call (codeAny_of_tree ?_)
  show wpAny _ _ (callAny (.type "set") _) _ _ _
  refine wpAny_pure ⟨Code.quiet_builtin _ (by decide +kernel), codeAny_builtin PySem.F.entry_type_call ?_⟩
  rw [Around.under_plain (weight_type_call_type "set" [.str x t] []) rfl]
  have h1 := PySem.F.called_set.notType
  have h2 := PySem.F.called_set.canCreate
  have hct := PySem.F.typeCall_set_1 (.str x t)
  repeat (any_goals (first | assumption | wp_step))
  refine codeAny_mono (code_set_new_1 (.str x t) (E := E) (Q₁ := fun obj s₁ => ∃ led : Bool, obj = .ref s.heap.objs.size ∧ s₁ = { s with heap := s.heap.push { cls := .type "set", dict := none, data := .set #[] 0 (.fresh 0 0 led) } }) fun led => ⟨led, rfl, rfl⟩) fun r s₁ hr => ?_
  cases r with
  | error e => exact hr
  | ok fl =>
    cases fl with
    | ret obj =>
      obtain ⟨led, rfl, rfl⟩ := hr
      have hS : (s.heap.push { cls := .type "set", dict := none, data := .set #[] 0 (.fresh 0 0 led) }).get? s.heap.objs.size = some { cls := .type "set", dict := none, data := .set #[] 0 (.fresh 0 0 led) } := Heap.get?_push_size _ rfl
      have hT : Shared.TypeIs { s with heap := s.heap.push { cls := .type "set", dict := none, data := .set #[] 0 (.fresh 0 0 led) } } (.ref s.heap.objs.size) "set" := ⟨_, hS, rfl⟩
      have hli := PySem.F.called_set.init.lookup
      have hbi := PySem.F.called_set.init.bind (.ref s.heap.objs.size)
      repeat (any_goals (first | assumption | wp_step))
      refine codeAny_mono (codeAny_call_builtin (R := wants (fun r s₂ => r = .none ∧ ∃ h2 tk, s₂ = { s with heap := h2, toks := tk } ∧
          h2.SetOf (strKind prog w) s.heap.objs.size (metS x.cps.toList x.cps.size) (metAt x.cps.toList x.cps.size).length ∧
          (∀ b o, b < s.heap.objs.size → s.heap.get? b = some o → h2.get? b = some o)) E) PySem.F.called_set.init.plain PySem.F.entry_set_init (check_set_init_1 hT ?_)) fun r₂ s₂ hr₂ => ?_
      · unfold Builtin.«set.__init__» noKeywords Builtin.Frozenset.updateFrom
        generalize hPI : pyIter = PI
        have hTx : Shared.TypeIs { s with heap := s.heap.push { cls := .type "set", dict := none, data := .set #[] 0 (.fresh 0 0 led) } } (.str x t) "str" := rfl
        have hsS : isSubtype (.type "str") (.type "set") = pure false := by rw [isSubtype_type]; kernel_rfl
        have hsF : isSubtype (.type "str") (.type "frozenset") = pure false := by rw [isSubtype_type]; kernel_rfl
        have hne : (Value.type "str" == Value.type "dict") = false := by decide
        wp_walk
        subst hPI
        refine wpAny_pyIter_str fun o St W hst => wpAny_bind (wpAny_runValue ?_)
        generalize hH : s.heap.push { cls := .type "set", dict := none, data := .set #[] 0 (.fresh 0 0 led) } = Hq at W hst hS ⊢
        have hHs : Hq.objs.size = s.heap.objs.size + 1 := by rw [← hH, Heap.size_push]
        have hSf : s.heap.objs.size ∉ [Hq.objs.size] := fun hm => by
          rw [List.mem_singleton] at hm
          omega
        have hh3 : A.in1.in1.in1.handled = none := by simp [hh]
        refine upd_text (l := x.cps.toList) ((W A.in1.in1.in1 hh3).toS) s.heap.objs.size hSf (fun i v hv => ?_) hb (x.cps.toList.length - 0) 0 _ (by omega) (Nat.zero_le _) hst ?_ ?_
        · obtain ⟨c, u, hc, e⟩ := hv
          exact ⟨c, u, by rw [Array.getElem?_toList]; exact hc, e⟩
        · exact SetOf_congr ((PyProof.Rows.setObjOf_fresh (knd := strKind prog w) led).setOf (Heap.get?_push_of_some _ hS) (by unfold scanBound; omega)) (fun _ => rfl) rfl
        · intro s1 hm hS1
          obtain ⟨h2, g2, d2, tk2, os2⟩ := s1
          have eg : g2 = s.gens := hm.gens
          have ed : d2 = s.drawn := hm.drawn
          have eo : os2 = s.os := hm.os
          subst eg; subst ed; subst eo
          show wpAny _ _ _ _ _ _
          refine wpAny_pure ?_
          show wpAny _ _ (ret Value.none) _ _ _
          refine wpAny_pure ⟨rfl, h2, tk2, rfl, hS1, fun b o hb2 e => hm.heap b o (fun z => ?_) (Heap.get?_push_of_some _ (by rw [← hH]; exact Heap.get?_push_of_some _ e))⟩
          rcases List.mem_cons.mp z with z | z
          · rw [z] at hb2
            exact Nat.lt_irrefl _ hb2
          · rw [List.mem_singleton] at z
            rw [z, hHs] at hb2
            exact Nat.not_succ_lt_self hb2
      · cases r₂ with
        | error e => exact hr₂
        | ok fl₂ =>
          cases fl₂ with
          | ret r =>
            obtain ⟨rfl, h2, tk, rfl, hS', hk'⟩ := hr₂
            repeat (any_goals (first | assumption | wp_step))
            exact h _ _ hS' hk'
          | _ => exact hr₂.elim
    | _ => exact hr.elim
end

/-- len(set(x)), x a text -/
def tLenSetT (ta : TE) : TE := fun σ H Q => ta σ H fun x H1 => ∃ z : Str, x = .str z ∧ z.length ≤ 4000 ∧ Q (.int ((metAt z.cps.toList z.cps.toList.length).length : Nat)) H1
theorem pe_lenSetT {X : Cx} {a : Expr} {ta : TE} {p p2 q pos : Pos} (hg : Gl X "len") (hm : X.mg "len" = none) (hg2 : Gl X "set") (hm2 : X.mg "set" = none) (ha : PE X a ta) (hc : X.calm = true := by rfl)
    (na : starEach [a] X.env = (false, eval a X.env) :: starEach [] X.env := by rfl) : PE X (.Call (.Name "len" p) [.Call (.Name "set" p2) [a] [] q] [] pos) (tLenSetT ta) := by
  refine ⟨fun pins s σ H Q I h => ?_⟩
  refine Call_ (ld_blt I hg hm boot_len (PyProof.Rows.callWith_builtin1 (PyProof.Rows.args_cons ?_ rfl) rfl rfl))
  refine Call_ (ld_blt I hg2 hm2 boot_set ?_)
  refine PyProof.Rows.callWith_type1 (PyProof.Rows.args_cons (thn (ha.run pins s σ H _ I h) fun v s1 hh => PyProof.Rows.args_nil ?_) na) na rfl
  obtain ⟨x, H1, I1, r1, z, rfl, hz, q1⟩ := hh
  obtain ⟨t, rfl⟩ := r1
  have hz2 : z.cps.size ≤ 4000 := hz
  refine call_set_text (I1.ok.hd hc) (by unfold scanBound; omega) fun h2 tk hS hk => PyProof.Rows.args_nil ?_
  obtain ⟨o, es, ep, tb, ho, hex, hd, _, _, _, hf, hn⟩ := hS
  have I2 : Inv X pins σ H1 { s1 with heap := h2, toks := tk } := I1.kept fun b o e => hk b o (Heap.lt_size e) e
  have hle : (metAt z.cps.toList z.cps.size).length ≤ z.cps.size := by
    have h1 := met_len (z.cps.toList.take z.cps.size).reverse
    rw [List.length_reverse, List.length_take] at h1
    exact Nat.le_trans h1 (Nat.min_le_left _ _)
  exact call_len_set ho hex hd hf (by rw [hn]; omega) ⟨.int ((metAt z.cps.toList z.cps.toList.length).length : Nat), H1, I2.tok _, ⟨_, by rw [hn]; rfl⟩, q1⟩
end Vk
set_option Elab.async false
set_option linter.all false
set_option maxRecDepth 100000
set_option maxHeartbeats 4000000
namespace Vk
open PySem PySem.Spec PyProof.Rows L2
def top (i : Nat) : Stmt := PySem.Challenge.pw_talepost_k23_people.main.body.getD i (.Pass ⟨0, 0, 0, 0⟩)
abbrev sDiff : Stmt := top 12
/-- the built-in names stand for themselves -/
structure Zs (mg : Str → Option Value) : Prop where
  z_len : mg "len" = none
  z_set : mg "set" = none
  z_all : mg "all" = none
  z_abs : mg "abs" = none
  z_int : mg "int" = none
  z_range : mg "range" = none
  z_sorted : mg "sorted" = none
  z_isinstance : mg "isinstance" = none
  z_str : mg "str" = none
  z_bool : mg "bool" = none
  z_list : mg "list" = none
  z_tuple : mg "tuple" = none
  z_any : mg "any" = none
  z_enum : mg "enumerate" = none
  z_min : mg "min" = none
  z_max : mg "max" = none
  z_VE : mg "ValueError" = none
  z_zip : mg "zip" = none
  z_dict : mg "dict" = none
structure TxA (K : PySem.W.Frag) (mg : Str → Option Value) (aDiff : Addr) : Prop extends Zs mg where
  gDiff : mg "differ_within" = some (.ref aDiff)
theorem sz4 {n : Nat} (h : n ≤ 4000) : n ≤ sizeLine := by rw [sizeLine_eq]; omega
section
variable {P : Program} {w : World} {K : PySem.W.Frag} {mg : Str → Option Value} {base : Heap} {aDiff : Addr}
/-! differ_within -/
def Differ (t a : List Nat) : Prop := t.Nodup ∧ ∀ c ∈ t, c ∈ a
instance (t a : List Nat) : Decidable (Differ t a) := inferInstanceAs (Decidable (_ ∧ _))
def spDiff : Sp := fun vs H Q _ => ∃ t a : List Nat, vs = [.str (S t), .str (S a)] ∧ t.length ≤ 4000 ∧ ∀ H', Same H H' → Q (.bl (decide (Differ t a))) H'
theorem scDiff : FnScope ["text", "allowed", "letter"] ["text", "allowed"] (defScope sDiff) := ⟨rfl, rfl, rfl, by decide +kernel, rfl, by decide +kernel, by decide +kernel⟩
theorem ok_diff {f : Addr} {fd : FuncData} (F : Fun K "differ_within" "differ_within" sDiff f fd) (T : TxA K mg aDiff) : FnOk P w K mg base CX0 1 f fd ["text", "allowed"] spDiff := by
  refine F.ok scDiff (fun vs H Q E h => ?_) (fun cdv A outer s H vs Q E hr h => ?_)
  · obtain ⟨t, a, rfl, _⟩ := h
    rfl
  · obtain ⟨t, a, rfl, hl, k⟩ := h
    refine ⟨_, (pss_one (ps_ret (pe_and (pe_cmpR op_eq (pe_lenSetT (by rfl) T.z_len (by rfl) T.z_set (pv 0)) (pe_callB call_len_str (by rfl) T.z_len (by decide +kernel) (pa_cons (pv 0) pa_nil)) (nomark _)) (pe_one (pe_callB (cr_all rfl) (by rfl) T.z_all (by decide +kernel) (pa_cons (pe_lc (own := [("letter", 2)]) (g := gName 2) (by rfl) scDiff.nd (pi_str (pv 0)) (blkOk_by (own := [("letter", 2)]) (N := ["text", "allowed", "letter"]) (sc := defScope sDiff) (by decide +kernel)) (fun _ _ _ _ _ => pg_name (i := 2) scDiff.nd rfl (Or.inl rfl)) (fun _ _ _ _ _ => pts_nil) (fun _ _ _ _ _ => (pe_cmpR op_in_sign (pv 2) (pv 1) rfl))) pa_nil)))))), ?_⟩
    have e1 : ((metAt (S t).cps.toList (S t).cps.toList.length).length = t.length) ↔ t.Nodup := by
      rw [S_cps]
      exact metAt_end t
    refine ⟨_, rfl, _, rfl, by rw [S_len]; exact hl, _, rfl, _, rfl, sz4 (by rw [S_len]; exact hl), rfl, _, rfl, ?_⟩
    have e2 : ((V.int ((metAt (S t).cps.toList (S t).cps.toList.length).length : Nat)) = V.int ((S t).length : Nat)) ↔ t.Nodup := by
      rw [S_len, ← e1]
      constructor
      · intro h
        have h2 := V.int.inj h
        omega
      · intro h
        rw [h]
    refine ite2 (fun hn => ?_) (fun hn => ?_)
    · have hnd : t.Nodup := e2.mp (of_decide_eq_true hn)
      refine ⟨_, rfl, _, rfl, fun D hD => lc_text (fun _ => true) (fun c => V.bl (decide (c ∈ a))) hl (fun _ => rfl) (fun _ _ _ _ _ q => q) (fun c hc _ H2 Q2 _ q => ⟨_, rfl, _, rfl, c, S a, rfl, rfl, by rw [S_cps]; exact q⟩) ?_⟩
      refine ⟨D, t.map (fun c => decide (c ∈ a)), rfl, ?_, ?_⟩
      · rw [List.map_map]
        refine SqL.of ?_
        rw [upd_same, List.filter_eq_self.mpr (fun _ _ => rfl)]
        rfl
      · have e3 : (t.map fun c => decide (c ∈ a)).all id = decide (Differ t a) := by
          rw [Bool.eq_iff_iff]
          simp [Differ, hnd]
        rw [e3]
        exact k _ fun b o e => by rw [upd_ne (ne_of_none e hD)]; exact e
    · have hnd : ¬ t.Nodup := fun z => hn (decide_eq_true (e2.mpr z))
      have e3 : decide (Differ t a) = false := decide_eq_false fun z => hnd z.1
      have q := k H (Same.refl H)
      rw [e3] at q
      exact q
end
def Kp (b : Addr) (H H' : Hp) : Prop := ∀ c o, c ≠ b → H c = some o → H' c = some o
theorem Kp.refl (b : Addr) (H : Hp) : Kp b H H := fun _ _ _ h => h
theorem Kp.trans {b : Addr} {H H1 H2 : Hp} (a : Kp b H H1) (c : Kp b H1 H2) : Kp b H H2 := fun d o h e => c d o h (a d o h e)
theorem Kp.upd (b : Addr) (H : Hp) (o : HO) : Kp b H (upd H b o) := fun c u h e => by rw [upd_ne h]; exact e
def azL : List Nat := (PySem.Str.ofString "abcdefghijklmnopqrstuvwxyz").cps.toList
theorem az_S : PySem.Str.ofString "abcdefghijklmnopqrstuvwxyz" = S azL := S_of _
theorem az_len : azL.length = 26 := by decide +kernel
theorem az_nodup : azL.Nodup := by decide +kernel
theorem Differ.take {l a : List Nat} (h : Differ l a) (i : Nat) : Differ (l.take i) a := ⟨h.1.sublist (List.take_sublist i l), fun c hc => h.2 c (List.mem_of_mem_take hc)⟩
theorem differ_step {l a : List Nat} {i c : Nat} (hc : l[i]? = some c) : Differ (l.take (i + 1)) a ↔ (Differ (l.take i) a ∧ c ∈ a ∧ c ∉ l.take i) := by
  have hi : i < l.length := (List.getElem?_eq_some_iff.mp hc).1
  have e : l.take (i + 1) = l.take i ++ [c] := by
    rw [List.take_succ, hc]
    rfl
  unfold Differ
  rw [e, List.nodup_append]
  constructor
  · rintro ⟨⟨h1, _, h3⟩, h2⟩
    refine ⟨⟨h1, fun d hd => h2 d (List.mem_append_left _ hd)⟩, h2 c (List.mem_append_right _ (List.mem_singleton.mpr rfl)), fun z => h3 c z c (List.mem_singleton.mpr rfl) rfl⟩
  · rintro ⟨⟨h1, h2⟩, h3, h4⟩
    refine ⟨⟨h1, by simp, fun x hx y hy exy => ?_⟩, fun d hd => ?_⟩
    · rw [List.mem_singleton] at hy
      subst hy exy
      exact h4 hx
    · rcases List.mem_append.mp hd with h | h
      · exact h2 d h
      · rw [List.mem_singleton] at h
        subst h
        exact h3
def dueT (l v : List Nat) : Str := if l.length < 1 ∨ 4 < l.length ∨ ¬ Differ l azL then "letters" else if ¬ Differ v l then "vowels" else ""
abbrev sAlph : Stmt := top 11
abbrev sEq : Stmt := inClass (top 11) 3
def consL (l v : List Nat) : List Nat := (srtL l).filter fun c => !decide (c ∈ v)
/-- what an alphabet shows: letters, vowels, consonants, signs -/
def four (l v : List Nat) : List Str := [S (srtL l), S (srtL v), S (consL l v), S (45 :: srtL l)]
def alF (l v : List Nat) : List (Str × V) := [("letters", .str (S (srtL l))), ("vowels", .str (S (srtL v))), ("consonants", .str (S (consL l v))), ("signs", .str (S (45 :: srtL l)))]
def IsAl (C : Addr) (H : Hp) (a : Addr) (l v : List Nat) : Prop := ∃ dx, H a = some (.ins C dx (alF l v))
theorem IsAl.same {C a : Addr} {H H' : Hp} {l v : List Nat} (h : IsAl C H a l v) (s : Same H H') : IsAl C H' a l v := by
  obtain ⟨dx, e⟩ := h
  exact ⟨dx, s _ _ e⟩
structure AlF (K : PySem.W.Frag) (C : Addr) : Prop where
  cl : Cls K C
  nL : NoAttr K C "letters"
  nV : NoAttr K C "vowels"
  nC : NoAttr K C "consonants"
  nS : NoAttr K C "signs"
  ic : PySem.W.findIn K (.ref C) "__class__" = some (some (.builtin "object.__class__"))
  ig : PySem.W.specialIn K (.builtin "object.__class__") "__get__" = some (some (.builtin "getset_descriptor.__get__"))
  it : PySem.W.takesIn K (.builtin "object.__class__") = some true
  im : PySem.W.mroIn K C (.type "object") = some true
theorem joined {l : List Nat} {ys : List Str} (hl : l.length < 64) (hp : ys.Perm (signsOf (S l))) (hs : sortedS ys = true) :
    ((ys.map (·.length)).sum + ys.length * (PySem.Str.ofString "").length ≤ 16777216) ∧ Txt.join (PySem.Str.ofString "") ys = S (srtL l) := by
  rw [signs_S] at hp
  have e := sorted_signs hp hs
  subst e
  have e0 : PySem.Str.ofString "" = S [] := by decide +kernel
  rw [e0]
  refine ⟨?_, join_signs _⟩
  rw [S_len, List.length_nil, Nat.mul_zero, Nat.add_zero, List.map_map]
  have e1 : (srtL l).map ((fun x : Str => x.length) ∘ fun c => S [c]) = (srtL l).map fun _ => 1 := List.map_congr_left fun c _ => S_len [c]
  rw [e1]
  have e2 : ((srtL l).map fun _ => 1).sum = (srtL l).length := by
    induction srtL l with
    | nil => rfl
    | cons x xs ih => rw [List.map_cons, List.sum_cons, ih, List.length_cons, Nat.add_comm]
  rw [e2, srtL_len]
  omega
theorem joinedL {l : List Nat} (hl : l.length < 1000) : (((l.map fun c => S [c]).map (·.length)).sum + (l.map fun c => S [c]).length * (PySem.Str.ofString "").length ≤ 16777216) ∧ Txt.join (PySem.Str.ofString "") (l.map fun c => S [c]) = S l := by
  have e0 : PySem.Str.ofString "" = S [] := by decide +kernel
  rw [e0]
  refine ⟨?_, join_signs _⟩
  rw [S_len, List.length_nil, Nat.mul_zero, Nat.add_zero, List.map_map]
  have e1 : l.map ((fun x : Str => x.length) ∘ fun c => S [c]) = l.map fun _ => 1 := List.map_congr_left fun c _ => S_len [c]
  rw [e1]
  have e2 : (l.map fun _ => 1).sum = l.length := by
    clear hl e1
    induction l with
    | nil => rfl
    | cons x xs ih => rw [List.map_cons, List.sum_cons, ih, List.length_cons, Nat.add_comm]
  rw [e2]
  omega
theorem upd_laid {H : Hp} {p : Addr} {o : HO} (h : H p = none) : Same H (upd H p o) := fun b u e => by rw [upd_ne (ne_of_none e h)]; exact e
theorem Same.trans {A B C : Hp} (h : Same A B) (k : Same B C) : Same A C := fun b u e => k b u (h b u e)
section
variable {P : Program} {w : World} {K : PySem.W.Frag} {mg : Str → Option Value} {base : Heap} {aDiff : Addr}
end
theorem S_eq_iff {a b : List Nat} : decide ((V.str (S a)) = V.str (S b)) = decide (a = b) := by
  have e : ((V.str (S a)) = V.str (S b)) ↔ a = b := ⟨fun h => S_inj.mp (V.str.inj h), fun h => by rw [h]⟩
  rw [Bool.eq_iff_iff, decide_eq_true_iff, decide_eq_true_iff]
  exact e
def AlEq (l v l2 v2 : List Nat) : Bool := decide (srtL l = srtL l2) && decide (srtL v = srtL v2)
section
variable {P : Program} {w : World} {K : PySem.W.Frag} {mg : Str → Option Value} {base : Heap} {aDiff : Addr}
def spEq (C : Addr) : Sp := fun vs H Q _ => ∃ (a b : Addr) (l v l2 v2 : List Nat), vs = [.ref a, .ref b] ∧ IsAl C H a l v ∧ IsAl C H b l2 v2 ∧ Q (.bl (AlEq l v l2 v2)) H
theorem scEq : FnScope ["self", "other"] ["self", "other"] (defScope sEq) := ⟨rfl, rfl, rfl, by decide +kernel, rfl, by decide +kernel, by decide +kernel⟩
theorem ok_eq {f C : Addr} {fd : FuncData} (F : Fun K "__eq__" "Alphabet.__eq__" sEq f fd) (T : TxA K mg aDiff) (A : AlF K C) (hC : mg "Alphabet" = some (.ref C)) : FnOk P w K mg base CX0 1 f fd ["self", "other"] (spEq C) := by
  refine F.ok scEq (fun vs H Q E h => ?_) (fun cdv A0 outer s H vs Q E hr h => ?_)
  · obtain ⟨a, b, l, v, l2, v2, rfl, _⟩ := h
    rfl
  · obtain ⟨a, b, l, v, l2, v2, rfl, ⟨dx, ha⟩, ⟨dy, hb⟩, k⟩ := h
    refine ⟨_, pss_one (ps_ret (pe_and (pe_callB call_isi (by rfl) T.z_isinstance (by decide +kernel) (pa_cons (pv 1) (pa_cons (pe_glob (v := .ref C) (by rfl) hC rfl) pa_nil)))
      (pe_and (pe_cmpR op_eq (pe_fld (pv 0) rfl) (pe_fld (pv 1) rfl) (nomark _)) (pe_one (pe_cmpR op_eq (pe_fld (pv 0) rfl) (pe_fld (pv 1) rfl) (nomark _)))))), ?_⟩
    refine ⟨_, rfl, _, _, _, _, true, rfl, .own C, .base (.ins hb A.cl A.ic A.ig A.it A.im), ?_, true, rfl, iteT ?_⟩
    · show PySem.W.kitOne K (.ref C) (.ref C) = some true
      unfold PySem.W.kitOne
      rw [if_pos (beq_iff_eq.mpr rfl)]
    refine ⟨_, rfl, a, C, dx, _, _, rfl, ha, A.cl, A.nL, rfl, _, rfl, b, C, dy, _, _, rfl, hb, A.cl, A.nL, rfl, rfl, _, rfl, ?_⟩
    have q := k
    unfold AlEq at q
    rw [← S_eq_iff, ← S_eq_iff] at q
    refine ite2 (fun h => ?_) (fun h => ?_)
    · refine ⟨_, rfl, a, C, dx, _, _, rfl, ha, A.cl, A.nV, rfl, _, rfl, b, C, dy, _, _, rfl, hb, A.cl, A.nV, rfl, rfl, ?_⟩
      rw [h, Bool.true_and] at q
      exact q
    · rw [Bool.eq_false_iff.mpr h, Bool.false_and] at q
      exact q
end
abbrev sBA : Stmt := inClass (top 4) 0
def spBA (C : Addr) : Sp := fun vs H Q _ => ∃ (a : Addr) (z : Str), vs = [.ref a, .str z] ∧ z.length ≤ 100 ∧ H a = some (exo a C none) ∧
  ∀ dx, H dx = none → dx ≠ a → Q .non (upd (upd H dx (exd dx [("part", .str z)])) a (exo a C (some dx)))
theorem scBA : SScope ["self", "part"] (defScope sBA) := ⟨rfl, rfl, rfl, by decide +kernel, by decide +kernel, by decide +kernel, fun x h => (show ∀ y ∈ (defScope sBA).names, y.2 = .free → y.1 = "__class__" by decide +kernel) _ (PySem.mem_of_lookup h) rfl, by decide +kernel, by decide +kernel⟩
section
variable {P : Program} {w : World} {K : PySem.W.Frag} {mg : Str → Option Value} {base : Heap}
theorem ok_ba {f C cc cda : Addr} {dV kV doc pm ct oc : Value} {an od : Option Addr} {osl : Array (Option Value)} (T : SupC P K mg C cc cda) (hp : PySem.W.findIn K (.ref C) "part" = some none)
    (lk : K.lookup f = some ⟨oc, od, .func (PySem.W.ksFn "__init__" "BadAlphabet.__init__" (defArgs sBA) (defBody sBA) (defScope sBA) dV kV doc pm an (.ref cda) ct cc), osl⟩) (hcd : PySem.W.codeIn K (.ref cda) "BadAlphabet.__init__" = true) :
    FnOk P w K mg base CX0 1 f (PySem.W.ksFn "__init__" "BadAlphabet.__init__" (defArgs sBA) (defBody sBA) (defScope sBA) dV kV doc pm an (.ref cda) ct cc) ["self", "part"] (spBA C) := by
  refine fn_super (self := "self") (N' := ["part"]) T lk hcd scBA rfl rfl rfl rfl (fun _ => rfl) (fun _ => rfl) (fun vs H Q E h => ?_) (fun A outer s H vs Q E hr h => ?_)
  · obtain ⟨a, z, rfl, _⟩ := h
    rfl
  · obtain ⟨a, z, rfl, hz, ha, k⟩ := h
    refine ⟨_, _, pe_joined (.cons pe_str (.cons (pe_fmt (pv 1)) (.cons pe_str .nil))), pss_one (ps_ost (pv 0) (pv 1)), ⟨a, rfl, ha⟩, ?_⟩
    have e1 : (PySem.Str.ofString "not the ").length = 8 := by decide +kernel
    have e2 : (PySem.Str.ofString " of an alphabet").length = 15 := by decide +kernel
    have e3 : Str.empty.length = 0 := by decide +kernel
    have sl : ∀ {n : Nat}, n ≤ 1000 → n ≤ sizeLine := fun h => by rw [sizeLine_eq]; omega
    have al : ∀ a b : Str, (a ++ b).length = a.length + b.length := fun a b => by
      show (a.cps ++ b.cps).size = _
      rw [Array.size_append]
      rfl
    refine ⟨_, rfl, sl ?_, _, rfl, .inl ⟨z, rfl, sl (by omega), _, rfl, sl ?_, _, rfl, sl ?_, ⟨a, rfl, ha⟩, ?_⟩⟩
    · rw [al, e1, e3]
      decide
    · rw [al, al, e1, e3]
      omega
    · rw [al, al, al, e1, e2, e3]
      omega
    · exact ⟨_, rfl, _, rfl, a, C, rfl, T.oex, hp, .inl ⟨ha, fun dx hd hn => k dx hd hn⟩⟩
end
abbrev sAI : Stmt := inClass (top 11) 2
/-- BadAlphabet as the written part holds it -/
structure BaF (P : Program) (K : PySem.W.Frag) (mg : Str → Option Value) (B fB : Addr) : Prop where
  ox : OexC K B
  iC : PySem.W.findIn K (.ref B) "__init__" = some (some (.ref fB))
  tI : PySem.W.typeIn K (.ref fB) = some (.type "function")
  gB : mg "BadAlphabet" = some (.ref B)
/-- what else stands of Alphabet: its class values -/
structure AlV (K : PySem.W.Frag) (mg : Str → Option Value) (C : Addr) (mc : Value) (tm tj tl : Tok) : Prop where
  gC : mg "Alphabet" = some (.ref C)
  gL : mg "SMALL_LETTERS" = some (.str (S azL) tl)
  rd : ClX.CRead K C mc
  most : ClX.CVal K C mc "MOST" (.int 4) (.int 4 tm)
  joint : ClX.CVal K C mc "JOINT" (.str "-") (.str "-" tj)
def spAl (C B : Addr) : Sp := fun vs H Q E => ∃ (a dx : Addr) (l v : List Nat), vs = [.ref a, .str (S l), .str (S v)] ∧ H a = some (.ins C dx []) ∧ l.length ≤ 1000 ∧ v.length ≤ 1000 ∧
  (dueT l v = "" → ∀ H', IsAl C H' a l v → Kp a H H' → Q .non H') ∧
  (dueT l v ≠ "" → ∀ d H', H d = none → H' d = some (.xd [("part", .str (dueT l v))]) → Kp a H H' → E (.ref B) (some d) H')
theorem kp_exc {H : Hp} {b dx : Addr} {o : HO} {e0 e1 e2 : HO} (ha : H b = none) (hd : (upd H b e0) dx = none) (hn : dx ≠ b) : Same H (upd (del (upd (upd (upd H b e0) dx e1) b e2) b) dx o) := fun c u e => by
  have h1 : c ≠ b := ne_of_none e ha
  have h2 : c ≠ dx := fun z => by
    subst z
    rw [upd_ne h1, e] at hd
    cases hd
  rw [upd_ne h2, del_ne h1, upd_ne h1, upd_ne h2, upd_ne h1]
  exact e
theorem Same.kp {H H' : Hp} (h : Same H H') (a : Addr) : Kp a H H' := fun c o _ e => h c o e
theorem len_of_sub : ∀ {v l : List Nat}, v.Nodup → (∀ c ∈ v, c ∈ l) → v.length ≤ l.length
  | [], l, _, _ => Nat.zero_le _
  | c :: v, l, hn, hs => by
    obtain ⟨h1, h2⟩ := List.nodup_cons.mp hn
    have hc : c ∈ l := hs c List.mem_cons_self
    have ih := len_of_sub (v := v) (l := l.erase c) h2 fun d hd => (List.mem_erase_of_ne (fun (z : d = c) => h1 (z ▸ hd))).mpr (hs d (List.mem_cons_of_mem _ hd))
    rw [List.length_erase_of_mem hc] at ih
    have := List.length_pos_of_mem hc
    rw [List.length_cons]
    omega
theorem differ_len {v l : List Nat} (h : Differ v l) : v.length ≤ l.length := len_of_sub h.1 h.2
theorem put2 (x y : V) : putF "vowels" y [("letters", x)] = ([("letters", x), ("vowels", y)] : List (Str × V)) := by
  show (if ("letters" : Str) = "vowels" then _ else (("letters" : Str), x) :: putF "vowels" y []) = _
  rw [if_neg (by decide +kernel)]
  rfl
theorem put3 (x y z : V) : putF "consonants" z [("letters", x), ("vowels", y)] = ([("letters", x), ("vowels", y), ("consonants", z)] : List (Str × V)) := by
  show (if ("letters" : Str) = "consonants" then _ else (("letters" : Str), x) :: (if ("vowels" : Str) = "consonants" then _ else (("vowels" : Str), y) :: putF "consonants" z [])) = _
  rw [if_neg (by decide +kernel), if_neg (by decide +kernel)]
  rfl
theorem put4 (x y z t : V) : putF "signs" t [("letters", x), ("vowels", y), ("consonants", z)] = ([("letters", x), ("vowels", y), ("consonants", z), ("signs", t)] : List (Str × V)) := by
  show (if ("letters" : Str) = "signs" then _ else (("letters" : Str), x) :: (if ("vowels" : Str) = "signs" then _ else (("vowels" : Str), y) :: (if ("consonants" : Str) = "signs" then _ else (("consonants" : Str), z) :: putF "signs" t []))) = _
  rw [if_neg (by decide +kernel), if_neg (by decide +kernel), if_neg (by decide +kernel)]
  rfl
theorem scAI : FnScope ["self", "letters", "vowels", "letter"] ["self", "letters", "vowels"] (defScope sAI) := ⟨rfl, rfl, rfl, by decide +kernel, rfl, by decide +kernel, by decide +kernel⟩
section
variable {P : Program} {w : World} {K : PySem.W.Frag} {mg : Str → Option Value} {base : Heap} {aDiff : Addr}
theorem ok_alph {f C B fB : Addr} {mc : Value} {tm tj tl : Tok} {fd fdD fdB : FuncData} (F : FunD K "__init__" "Alphabet.__init__" (defArgs sAI) (defBody sAI) (defScope sAI) [.str ""] [] f fd) (T : TxA K mg aDiff) (A : AlF K C) (AV : AlV K mg C mc tm tj tl) (BA : BaF P K mg B fB)
    (FDiff : Fun K "differ_within" "differ_within" sDiff aDiff fdD) (bDiff : Binds K fdD ["text", "allowed"] []) (GB : FnOk P w K mg base CX0 1 fB fdB ["self", "part"] (spBA B)) (bB : Binds K fdB ["self", "part"] []) :
    FnOk P w K mg base (L2.CX P w) 3 f fd ["self", "letters", "vowels"] (spAl C B) := by
  have GDiff : FnOk P w K mg base CX0 1 aDiff fdD ["text", "allowed"] spDiff := ok_diff FDiff T
  refine F.ok scAI (fun vs H Q E h => ?_) (fun cdv A0 outer s H vs Q E hr h => ?_)
  · obtain ⟨a, dx, l, v, rfl, _⟩ := h
    rfl
  · obtain ⟨a, dx, l, v, rfl, ha, hl, hv, kq, ke⟩ := h
    refine ⟨_, (pss_cons (ps_if (PW.pt (pw_or (pt_not (pt_chain op_le op_le pe_int (pe_callB call_len_str (by rfl) T.z_len (by decide +kernel) (pa_cons (pv 1) pa_nil)) (ClX.pe_cval (pe_glob (v := .ref C) (by rfl) AV.gC rfl)))) (pw_or1 (pt_not (pt_val (pe_call GDiff (hr.mono (by decide)) (by rfl) T.gDiff FDiff.kp bDiff .nil pass0 (pa_cons (pv 1) (pa_cons (pe_glob (v := .str (S azL)) (by rfl) AV.gL ⟨_, rfl⟩) pa_nil)))))))) (pss_one (ps_raise rfl (takes_of rfl rfl rfl rfl) (pmk_oex BA.ox BA.iC BA.tI GB (hr.mono (by decide)) bB .nil pass0 (by rfl) BA.gB (pa_cons pe_str pa_nil)))) pss_nil)
      (pss_cons (ps_if (pt_not (pt_val (pe_call GDiff (hr.mono (by decide)) (by rfl) T.gDiff FDiff.kp bDiff .nil pass0 (pa_cons (pv 2) (pa_cons (pv 1) pa_nil))))) (pss_one (ps_raise rfl (takes_of rfl rfl rfl rfl) (pmk_oex BA.ox BA.iC BA.tI GB (hr.mono (by decide)) bB .nil pass0 (by rfl) BA.gB (pa_cons pe_str pa_nil)))) pss_nil)
      (pss_cons (ps_fld (pv 0) (pe_join pe_str (pe_callB (cr_sortT rfl) (by rfl) T.z_sorted (by decide +kernel) (pa_cons (pv 1) pa_nil))) rfl)
      (pss_cons (ps_fld (pv 0) (pe_join pe_str (pe_callB (cr_sortT rfl) (by rfl) T.z_sorted (by decide +kernel) (pa_cons (pv 2) pa_nil))) rfl)
      (pss_cons (ps_fld (pv 0) (pe_join pe_str (pe_lc (own := [("letter", 3)]) (g := gName 3) (by rfl) scAI.nd (pi_str (pe_fld (pv 0) rfl)) (blkOk_by (own := [("letter", 3)]) (N := ["self", "letters", "vowels", "letter"]) (sc := defScope sAI) (by decide +kernel)) (fun _ _ _ _ _ => pg_name (i := 3) scAI.nd rfl (Or.inl rfl)) (fun _ _ _ _ _ => (pts_one (pt_cmpR op_notIn_sign (pv 3) (pv 2) rfl))) (fun _ _ _ _ _ => (pv 3)))) rfl)
      (pss_one (ps_fld (pv 0) (pe_op op_add_str (ClX.pe_cval (pe_glob (v := .ref C) (by rfl) AV.gC rfl)) (pe_fld (pv 0) rfl)) rfl))))))), ?_⟩
    have hll : (S l).length ≤ sizeLine := sz4 (by rw [S_len]; omega)
    -- what a raise leaves
    have rz : ∀ (z : Str) (H1 : Hp), z.length ≤ 100 → z ≠ "" → dueT l v = z → Same H H1 → ∀ b, H1 b = none → spBA B [.ref b, .str z] (upd H1 b (exo b B none)) (fun v H2 => v = .non ∧ ∃ (d : Addr) (fs : List (Str × V)), H2 b = some (exo b B (some d)) ∧ H2 d = some (exd d fs) ∧ H1 d = none ∧ E (.ref B) (some d) (upd (del H2 b) d (.xd fs))) (fun _ _ _ => False) := by
      intro z H1 hz hne hdue hs b hb
      refine ⟨b, z, rfl, hz, upd_same, fun d hd hn => ⟨rfl, d, [("part", .str z)], upd_same, ?_, ?_, ?_⟩⟩
      · rw [upd_ne hn, upd_same]
      · rw [upd_ne hn] at hd
        exact hd
      · have h0 : H d = none := by
          cases e : H d with
          | none => rfl
          | some u =>
            have q := hs _ _ e
            rw [upd_ne hn, q] at hd
            cases hd
        refine ke (by rw [hdue]; exact hne) d _ h0 ?_ (Same.kp (Same.trans hs (kp_exc hb hd hn)) a)
        rw [hdue]
        exact upd_same
    have rl : dueT l v = "letters" → ∀ H1, Same H H1 → ([V.str "letters"] : List V).length ≤ 1000 ∧ ∀ b, H1 b = none → spBA B [.ref b, .str "letters"] (upd H1 b (exo b B none)) (fun v H2 => v = .non ∧ ∃ (d : Addr) (fs : List (Str × V)), H2 b = some (exo b B (some d)) ∧ H2 d = some (exd d fs) ∧ H1 d = none ∧ E (.ref B) (some d) (upd (del H2 b) d (.xd fs))) (fun _ _ _ => False) :=
      fun hd H1 hs => ⟨by show 1 ≤ 1000; decide, rz "letters" H1 (by decide +kernel) (by decide +kernel) hd hs⟩
    have rv : dueT l v = "vowels" → ∀ H1, Same H H1 → ([V.str "vowels"] : List V).length ≤ 1000 ∧ ∀ b, H1 b = none → spBA B [.ref b, .str "vowels"] (upd H1 b (exo b B none)) (fun v H2 => v = .non ∧ ∃ (d : Addr) (fs : List (Str × V)), H2 b = some (exo b B (some d)) ∧ H2 d = some (exd d fs) ∧ H1 d = none ∧ E (.ref B) (some d) (upd (del H2 b) d (.xd fs))) (fun _ _ _ => False) :=
      fun hd H1 hs => ⟨by show 1 ≤ 1000; decide, rz "vowels" H1 (by decide +kernel) (by decide +kernel) hd hs⟩
    have dl : (l.length < 1 ∨ 4 < l.length ∨ ¬ Differ l azL) → dueT l v = "letters" := fun h => if_pos h
    refine ⟨_, rfl, _, rfl, hll, _, _, rfl, rfl, _, rfl, ite2 (fun h1 => ⟨C, mc, _, _, rfl, AV.rd, AV.most, _, _, rfl, rfl, _, rfl, ?_⟩) (fun h1 => ⟨_, rfl, iteT (iteT (rl (dl (.inl ?_)) H (Same.refl H)))⟩)⟩
    rotate_left
    · have : ¬ (1 : Int) ≤ ((S l).length : Int) := fun z => h1 (decide_eq_true z)
      rw [S_len] at this
      omega
    refine ite2 (fun h2 => iteT (rl (dl (.inr (.inl ?_))) H (Same.refl H))) (fun h2 => ?_)
    · have h3 : decide (((S l).length : Int) ≤ 4) = false := by
        cases e : decide (((S l).length : Int) ≤ 4) with
        | false => rfl
        | true =>
          have h2' : (!decide (((S l).length : Int) ≤ 4)) = true := h2
          rw [e] at h2'
          cases h2'
      have := of_decide_eq_false h3
      rw [S_len] at this
      omega
    have g1 : 1 ≤ l.length := by
      have := of_decide_eq_true h1
      rw [S_len] at this
      omega
    have g2 : l.length ≤ 4 := by
      have h3 : decide (((S l).length : Int) ≤ 4) = true := by
        cases e : decide (((S l).length : Int) ≤ 4) with
        | true => rfl
        | false => exact absurd (show (!decide (((S l).length : Int) ≤ 4)) = true by rw [e]; rfl) h2
      have := of_decide_eq_true h3
      rw [S_len] at this
      omega
    refine ⟨_, rfl, l, azL, rfl, by omega, fun H1 s1 => ⟨_, rfl, ite2 (fun h3 => rl (dl (.inr (.inr ?_))) H1 s1) (fun h3 => ?_)⟩⟩
    · intro z
      rw [decide_eq_true z] at h3
      cases h3
    have hDl : Differ l azL := Classical.byContradiction fun z => h3 (by rw [decide_eq_false z]; rfl)
    have hnl : ¬ (l.length < 1 ∨ 4 < l.length ∨ ¬ Differ l azL) := fun z => z.elim (fun z => by omega) fun z => z.elim (fun z => by omega) fun z => z hDl
    refine ⟨_, rfl, _, rfl, v, l, rfl, by omega, fun H2 s2' => ⟨_, rfl, ite2 (fun h4 => rv ?_ H2 (Same.trans s1 s2')) (fun h4 => ?_)⟩⟩
    · unfold dueT
      rw [if_neg hnl, if_pos ?_]
      intro z
      rw [decide_eq_true z] at h4
      cases h4
    have hDv : Differ v l := Classical.byContradiction fun z => h4 (by rw [decide_eq_false z]; rfl)
    have hdue : dueT l v = "" := by
      unfold dueT
      rw [if_neg hnl, if_neg (fun z => z hDv)]
    have hvl := differ_len hDv
    have s2 := Same.trans s1 s2'
    have ha2 := s2 _ _ ha
    -- letters
    refine ⟨⟨_, rfl⟩, _, rfl, S l, rfl, (by rw [S_len]; omega), fun ys p1 hp hs n1 => ?_⟩
    obtain ⟨b1, e1⟩ := joined (by omega) hp hs
    refine ⟨_, p1, ys, rfl, rfl, .inl (SqL.of upd_same), b1, ?_⟩
    rw [e1]
    have k3 := Same.kp (Same.trans s2 (upd_laid (o := .lst (ys.map V.str)) n1)) a
    have ha3 : (upd H2 p1 (.lst (ys.map V.str))) a = some (.ins C dx []) := upd_laid n1 _ _ ha2
    generalize upd H2 p1 (.lst (ys.map V.str)) = H3 at k3 ha3
    refine ⟨_, rfl, a, C, dx, [], rfl, ha3, A.cl, A.nL, (by show 0 < 1000; decide), ?_⟩
    have k4 := k3.trans (Kp.upd a H3 (.ins C dx (putF "letters" (.str (S (srtL l))) [])))
    have ha4 : (upd H3 a (.ins C dx (putF "letters" (.str (S (srtL l))) []))) a = some (.ins C dx [("letters", .str (S (srtL l)))]) := upd_same
    generalize upd H3 a (.ins C dx (putF "letters" (.str (S (srtL l))) [])) = H4 at k4 ha4
    -- vowels
    refine ⟨⟨_, rfl⟩, _, rfl, S v, rfl, (by rw [S_len]; omega), fun zs p2 hp2 hs2 n2 => ?_⟩
    obtain ⟨b2, e2⟩ := joined (by omega) hp2 hs2
    refine ⟨_, p2, zs, rfl, rfl, .inl (SqL.of upd_same), b2, ?_⟩
    rw [e2]
    have k5 := k4.trans (Same.kp (upd_laid (o := .lst (zs.map V.str)) n2) a)
    have ha5 : (upd H4 p2 (.lst (zs.map V.str))) a = some (.ins C dx [("letters", .str (S (srtL l)))]) := upd_laid n2 _ _ ha4
    generalize upd H4 p2 (.lst (zs.map V.str)) = H5 at k5 ha5
    refine ⟨_, rfl, a, C, dx, _, rfl, ha5, A.cl, A.nV, (by show 1 < 1000; decide), ?_⟩
    rw [put2]
    have k6 := k5.trans (Kp.upd a H5 (.ins C dx [("letters", .str (S (srtL l))), ("vowels", .str (S (srtL v)))]))
    have ha6 : (upd H5 a (.ins C dx [("letters", .str (S (srtL l))), ("vowels", .str (S (srtL v)))])) a = some (.ins C dx [("letters", .str (S (srtL l))), ("vowels", .str (S (srtL v)))]) := upd_same
    generalize upd H5 a (.ins C dx [("letters", .str (S (srtL l))), ("vowels", .str (S (srtL v)))]) = H6 at k6 ha6
    -- consonants
    have hk4 : (srtL l).length ≤ 4000 := by rw [srtL_len]; omega
    refine ⟨⟨_, rfl⟩, _, rfl, a, C, dx, _, _, rfl, ha6, A.cl, A.nL, rfl, _, rfl, fun D hD => lc_text (fun c => !decide (c ∈ v)) (fun c => V.str (S [c])) hk4 (fun _ => rfl) (fun c hc H3 Q3 _ q => ⟨_, rfl, _, rfl, c, S v, rfl, rfl, _, rfl, by rw [S_cps]; exact q⟩) (fun c hc _ H3 Q3 _ q => ⟨_, rfl, q⟩) ?_⟩
    have hc64 : (consL l v).length < 1000 := by
      have := List.length_filter_le (fun c => !decide (c ∈ v)) (srtL l)
      rw [srtL_len] at this
      unfold consL
      omega
    obtain ⟨b3, e3⟩ := joinedL hc64
    refine ⟨_, D, (consL l v).map fun c => S [c], rfl, rfl, .inl (SqL.of (by rw [List.map_map]; exact upd_same)), b3, ?_⟩
    rw [e3]
    have k7 := k6.trans (Same.kp (upd_laid (o := .lst (((srtL l).filter fun c => !decide (c ∈ v)).map fun c => V.str (S [c]))) hD) a)
    have ha7 := upd_laid (o := .lst (((srtL l).filter fun c => !decide (c ∈ v)).map fun c => V.str (S [c]))) hD _ _ ha6
    generalize upd H6 D (.lst (((srtL l).filter fun c => !decide (c ∈ v)).map fun c => V.str (S [c]))) = H7 at k7 ha7
    refine ⟨_, rfl, a, C, dx, _, rfl, ha7, A.cl, A.nC, (by show 2 < 1000; decide), ?_⟩
    rw [put3]
    have k8 := k7.trans (Kp.upd a H7 (.ins C dx [("letters", .str (S (srtL l))), ("vowels", .str (S (srtL v))), ("consonants", .str (S (consL l v)))]))
    have ha8 : (upd H7 a (.ins C dx [("letters", .str (S (srtL l))), ("vowels", .str (S (srtL v))), ("consonants", .str (S (consL l v)))])) a = some (.ins C dx [("letters", .str (S (srtL l))), ("vowels", .str (S (srtL v))), ("consonants", .str (S (consL l v)))]) := upd_same
    generalize upd H7 a (.ins C dx [("letters", .str (S (srtL l))), ("vowels", .str (S (srtL v))), ("consonants", .str (S (consL l v)))]) = H8 at k8 ha8
    -- signs
    refine ⟨C, mc, _, _, rfl, AV.rd, AV.joint, _, rfl, a, C, dx, _, _, rfl, ha8, A.cl, A.nL, rfl, _, _, rfl, rfl, ?_, _, rfl, a, C, dx, _, rfl, ha8, A.cl, A.nS, (by show 3 < 1000; decide), ?_⟩
    · refine sz4 ?_
      rw [S_len, srtL_len]
      have : (PySem.Str.ofString "-").length = 1 := by decide +kernel
      omega
    have e4 : PySem.Str.ofString "-" ++ S (srtL l) = S (45 :: srtL l) := by
      have : PySem.Str.ofString "-" = S [45] := by decide +kernel
      rw [this, S_app]
      rfl
    rw [e4, put4]
    exact kq hdue _ ⟨dx, upd_same⟩ (k8.trans (Kp.upd a H8 _))
end
end Vk
set_option Elab.async false
set_option linter.all false
set_option maxRecDepth 100000
set_option maxHeartbeats 4000000
namespace L2
open PySem PySem.Spec PyProof.Rows
/-! X40: a comprehension with two fors, by walks -/
def Inner (J1 : It) (g1 : TG) (tt1 : TT) (te : TE) (vs1 : List Nat) (σ2 : L2.St) (H4 : Hp) (D : Addr) (N : Hp → Prop) : Prop := ∃ W1 : Nat → Nat → Hp → Prop, (∃ m, W1 0 m H4) ∧ ∀ j k H, W1 j k H →
  (J1.stop j H ∧ N H) ∨ (J1.go j H ∧ ∃ Nx1 : Hp → Prop, (∀ H', Nx1 H' → ∃ k', k' < k ∧ W1 (j + 1) k' H') ∧ ∀ x H', J1.yld j H x H' → g1 x (wipe σ2 vs1) H' fun σ3 H5 => wipe σ3 vs1 = wipe σ2 vs1 ∧ tt1 σ3 H5 fun b H6 =>
    if b = true then te σ3 H6 fun y H7 => ∃ acc, H7 D = some (.lst acc) ∧ acc.length < sizeLine ∧ Nx1 (upd H7 D (.lst (acc ++ [y]))) else Nx1 H6)
def Lc2G (J : It) (g : TG) (tt : TT) (wi1 : TI) (g1 : TG) (tt1 : TT) (te : TE) (vs vs1 : List Nat) (σ : L2.St) (H1 : Hp) (D : Addr) (Q : VK) : Prop := ∃ W : Nat → Nat → Hp → Prop, (∃ m, W 0 m (upd H1 D (.lst []))) ∧ ∀ i m H, W i m H →
  (J.stop i H ∧ Q (.ref D) H) ∨ (J.go i H ∧ ∃ Nx : Hp → Prop, (∀ H', Nx H' → ∃ m', m' < m ∧ W (i + 1) m' H') ∧ ∀ x H', J.yld i H x H' → g x (wipe σ vs) H' fun σ2 H2 => wipe σ2 vs = wipe σ vs ∧ tt σ2 H2 fun b H3 =>
    if b = true then wi1 σ2 H3 fun J1 H4 => Inner J1 g1 tt1 te vs1 σ2 H4 D Nx else Nx H3)
section
variable {J J1 : It} {n : Nat} {G : Hp → Prop} {Y : Nat → Hp → V → Hp → Prop} {g g1 : TG} {tt tt1 : TT} {te : TE} {wi1 : TI} {vs vs1 : List Nat} {σ σ2 : L2.St} {H1 H4 : Hp} {D : Addr} {N : Hp → Prop} {Q : VK} {tl : TE}
theorem inner_it (w : Walk J1 n G Y) (Pw : Nat → Hp → Prop) (h0 : Pw 0 H4) (hG : ∀ i H, i ≤ n → Pw i H → G H)
    (hs : ∀ i x H H', i < n → Pw i H → Y i H x H' → g1 x (wipe σ2 vs1) H' fun σ3 H5 => wipe σ3 vs1 = wipe σ2 vs1 ∧ tt1 σ3 H5 fun b H6 =>
      if b = true then te σ3 H6 fun y H7 => ∃ acc, H7 D = some (.lst acc) ∧ acc.length < sizeLine ∧ Pw (i + 1) (upd H7 D (.lst (acc ++ [y]))) else Pw (i + 1) H6) (hd : ∀ H, Pw n H → N H) : Inner J1 g1 tt1 te vs1 σ2 H4 D N := by
  refine ⟨fun i m H => m = n - i ∧ i ≤ n ∧ Pw i H, ⟨n, by simp, Nat.zero_le _, h0⟩, ?_⟩
  rintro i m H ⟨rfl, hi, p⟩
  have q := hG i H hi p
  by_cases hlt : i < n
  · exact .inr ⟨w.goes i H hlt q, Pw (i + 1), fun H' p' => ⟨n - (i + 1), by omega, rfl, hlt, p'⟩, fun x H' y => hs i x H H' hlt p (w.yields i H x H' hlt q y)⟩
  · have e : i = n := by omega
    subst e
    exact .inl ⟨w.stops H q, hd H p⟩
theorem lc2_it (w : Walk J n G Y) (Pv : Nat → Hp → Prop) (h0 : Pv 0 (upd H1 D (.lst []))) (hG : ∀ i H, i ≤ n → Pv i H → G H)
    (hs : ∀ i x H H', i < n → Pv i H → Y i H x H' → g x (wipe σ vs) H' fun σ2 H2 => wipe σ2 vs = wipe σ vs ∧ tt σ2 H2 fun b H3 =>
      if b = true then wi1 σ2 H3 fun J1 H4 => Inner J1 g1 tt1 te vs1 σ2 H4 D (Pv (i + 1)) else Pv (i + 1) H3) (hd : ∀ H, Pv n H → Q (.ref D) H) : Lc2G J g tt wi1 g1 tt1 te vs vs1 σ H1 D Q := by
  refine ⟨fun i m H => m = n - i ∧ i ≤ n ∧ Pv i H, ⟨n, by simp, Nat.zero_le _, h0⟩, ?_⟩
  rintro i m H ⟨rfl, hi, p⟩
  have q := hG i H hi p
  by_cases hlt : i < n
  · exact .inr ⟨w.goes i H hlt q, Pv (i + 1), fun H' p' => ⟨n - (i + 1), by omega, rfl, hlt, p'⟩, fun x H' y => hs i x H H' hlt p (w.yields i H x H' hlt q y)⟩
  · have e : i = n := by omega
    subst e
    exact .inl ⟨w.stops H q, hd H p⟩
theorem iLc2S (h : tl σ H1 fun x H1 => ∃ z, x = .str z ∧ ∀ D, H1 D = none → Lc2G (Its z) g tt wi1 g1 tt1 te vs vs1 σ H1 D Q) : tLc2 (iStr tl) g tt wi1 g1 tt1 te vs vs1 σ H1 Q := h
theorem iLc2L {K : PySem.W.Frag} (h : tl σ H1 fun x H1 => ∃ a, x = .ref a ∧ (∃ xs, SqL K H1 a xs) ∧ ∀ D, H1 D = none → Lc2G (Itl K a) g tt wi1 g1 tt1 te vs vs1 σ H1 D Q) : tLc2 (iList K tl) g tt wi1 g1 tt1 te vs vs1 σ H1 Q := h
theorem iIStr {R : It → Hp → Prop} (h : tl σ H1 fun x H1 => ∃ z, x = .str z ∧ R (Its z) H1) : iStr tl σ H1 R := h
theorem iMakeD {C : Addr} {sp : Sp} {dvs : List V} {E : XK} {t : TA} {H : Hp} {Q : VK} (h : t σ H fun vs H1 => ∀ x dx, H1 x = none → H1 dx = none → dx ≠ x → sp (.ref x :: (vs ++ dvs)) (upd (upd H1 dx (.own x)) x (.ins C dx [])) (fun v H2 => v = .non ∧ Q (.ref x) H2) E) : tMake C sp dvs E t σ H Q := h
end
end L2
namespace Vk
open PySem PySem.Spec PyProof.Rows L2
theorem walk_S {l : List Nat} : Walk (Its (S l)) l.length (fun _ => True) (fun i H v H' => H' = H ∧ ∃ c, l[i]? = some c ∧ v = .str (S [c])) := by
  have w := walk_str (z := S l)
  rw [S_size] at w
  exact w.mono (fun _ h => h) fun i H x H' hi _ h => by
    obtain ⟨rfl, c, hc, rfl⟩ := h
    exact ⟨rfl, c, S_get.mp hc, rfl⟩
theorem iMakeV {C : Addr} {σ : L2.St} {sp : Sp} {dvs : List V} {E : XK} {tf : TE} {t : TA} {H : Hp} {Q : VK} (h : tf σ H fun v H0 => v = .ref C ∧ tMake C sp dvs E t σ H0 Q) : tMakeV C sp dvs E tf t σ H Q := h
end Vk
set_option Elab.async false
set_option linter.all false
set_option maxRecDepth 100000
set_option maxHeartbeats 4000000
namespace Vk
open PySem PySem.Spec PyProof.Rows L2
/-! enumerate over a text -/
/-- each sign of x in a new pair with its place -/
def IteS (x : Str) : It :=
  ⟨fun i _ => i < x.cps.size, fun i H v H' => ∃ (T : Addr) (c : Nat), v = .ref T ∧ H T = none ∧ x.cps[i]? = some c ∧ H' = upd H T (.tup [.int (i : Nat), .str ⟨#[c]⟩]), fun i _ => x.cps.size ≤ i⟩
theorem draws_txt {P : Program} {w : World} {A : Around} (hh : A.handled = none) (it : Addr) (x : Str) (t : Tok) {ty : String} (hty : ty = "str_ascii_iterator" ∨ ty = "str_iterator") :
    Draws P w A it [it] x.cps.size (fun i v => ∃ c u, x.cps[i]? = some c ∧ v = .str ⟨#[c]⟩ u) (fun i h => h.IsStrIter it ty x t i) := by
  rcases hty with z | z
  · rw [z]
    exact Draws.strAscii hh it x t
  · rw [z]
    exact Draws.strWide hh it x t
theorem turn_enumS {P : Program} {w : World} {K : PySem.W.Frag} {elts : List Expr} {kk : Nat} {tpos : Pos} (e it : Addr) (x : Str) (t : Tok) (ty : String) (hei : e ≠ it) (hty : ty = "str_ascii_iterator" ∨ ty = "str_iterator") :
    Turn P w K (.Tuple elts kk tpos) (IteS x) [e, it] e (fun i h => (∃ old, IsEnum h e it ((i : Nat) : Int) old) ∧ h.IsStrIter it ty x t i) where
  mem := by simp
  obj := fun i h st b hb => by
    obtain ⟨⟨old, he⟩, o, ho, hc, hd⟩ := st
    have e' : b = e ∨ b = it := by simpa using hb
    rcases e' with z | z
    · rw [z]
      exact ⟨_, he, fun v q => nomatch q⟩
    · rw [z]
      exact ⟨o, ho, fun v q => by rw [hd] at q; cases q⟩
  keep := fun i h h' st k => by
    obtain ⟨⟨old, he⟩, o, ho, r⟩ := st
    exact ⟨⟨old, k e (by simp) _ he⟩, o, k it (by simp) o ho, r⟩
  item := by
    intro X hP hw hK hc i pins s σ H E I hf st hg
    subst hP hw hK
    obtain ⟨⟨old, he⟩, hit⟩ := st
    have hel : e < s.heap.objs.size := Heap.lt_size he
    have hil : it < s.heap.objs.size := by
      obtain ⟨_, q, _⟩ := hit
      exact Heap.lt_size q
    refine wpAny_pyNext_enum_itemD (draws_txt (A := X.A.in1) (I.ok.hd hc) it x t hty) he hit hg hei (by simp [hei]) fun y h' tk hy ho hst hT hsz hk => ?_
    obtain ⟨c, u, hcx, rfl⟩ := hy
    refine ⟨_, rfl, wpAny_letOwnedTupleGo_enum (s := { s with heap := h', toks := tk + 1 }) ho fun h'' he' sb => ?_⟩
    have hT2 := (sb.2 _ (Nat.ne_of_gt hel)).trans hT
    have new : ObjOk X.prog X.w (upd H s.heap.objs.size (.tup [.int (i : Nat), .str ⟨#[c]⟩])) h'' s.heap.objs.size (.tup [.int (i : Nat), .str ⟨#[c]⟩]) :=
      ⟨by show 2 ≤ sizeLine; decide, [.int i tk, .str ⟨#[c]⟩ u], .cons ⟨_, rfl⟩ (.cons ⟨u, rfl⟩ .nil), ⟨_, hT2, rfl, _, rfl⟩⟩
    have I1 : Inv X pins σ (upd H s.heap.objs.size (.tup [.int (i : Nat), .str ⟨#[c]⟩])) { s with heap := h'', toks := tk + 1 } :=
      I.turnedNew (ch := [e, it]) (fun b ob hb q => (sb.2 b (fun z => hb (by simp [z]))).trans (hk b ob (fun z => hb (by simp [z])) (fun z => hb (by simp [z])) q)) hf (Nat.le_refl _) new
    refine ⟨.ref s.heap.objs.size, _, I1, rfl, ⟨_, c, rfl, I.hok.fresh (Nat.le_refl _), hcx, rfl⟩, ⟨⟨.str ⟨#[c]⟩ u, ?_⟩, ?_⟩, fun b hb => ?_⟩
    · have e1 : ((i + 1 : Nat) : Int) = (i : Int) + 1 := by omega
      rw [e1]
      exact he'
    · obtain ⟨o2, q2, r2⟩ := hst
      exact ⟨o2, (sb.2 it (Ne.symm hei)).trans q2, r2⟩
    · have hb' : b < s.heap.objs.size := by
        have e' : b = e ∨ b = it := by simpa using hb
        rcases e' with z | z
        · rw [z]
          exact hel
        · rw [z]
          exact hil
      rw [upd_ne (Nat.ne_of_lt hb')]
      exact (hf b hb).1
  done := by
    intro X hP hw hK hc i pins s σ H E I hf st hg
    subst hP hw hK
    obtain ⟨⟨old, he⟩, hit⟩ := st
    obtain ⟨f0, f1, f2, f3, f4, f5⟩ := hf it (by simp)
    have hg : x.cps.size ≤ i := hg
    have hx : x.cps[i]? = none := Array.getElem?_eq_none hg
    have hT : s.TypeIs (.ref e) "enumerate" := ⟨_, he, rfl⟩
    unfold pyNext
    refine wpAny_bind (wpAny_attempt (wpAny_callSpecial?_slot (name := Str.ofString "__next__") hT F.slot_enumerate_next
      (wpAny_call_entry F.slot_enumerate_next hT F.entry_enumerate_next ?_ (F.args_enumerate_next_1 _))))
    show wpAny _ _ (field (.ref e) 2 >>= _) _ _ _
    refine wpAny_bind (wpAny_field he rfl (x := .ref it) rfl ?_)
    have stop : ∀ {Q : Value → Shared → Prop} {E : Value → Shared → Prop}, (∀ h' y, Heap.ExtBut it s.heap h' → (∃ o, h'.get? y = some o ∧ o.cls = .type "StopIteration") → E (.ref y) { s with heap := h' }) →
        wpAny (model X.prog X.w) X.A.in1 (Builtin.SmallTypes.nextOf (.ref it)) Q E s := fun {Q E} q => by
      rcases hty with z | z
      · rw [z] at hit
        exact wpAny_nextOf_ascii_end (I.ok.hd hc) hit hx q
      · rw [z] at hit
        exact wpAny_nextOf_wide_end (I.ok.hd hc) hit hx q
    refine wpAny_bind (stop fun h' y he' hx' => ?_)
    obtain ⟨o, ho, hcl⟩ := hx'
    refine wpAny_bind (wpAny_isInstance (T := "StopIteration") (b := true) ⟨o, ho, hcl⟩ isSubtype_stop ?_)
    exact wpAny_pure ⟨rfl, I.turned (t' := s.toks) (fun b o hb q => he' b o hb q) f0 f1 f3 f4 f5⟩
  self := fun A i s Q E st h => let ⟨⟨_, he⟩, _⟩ := st; wpAny_pyIter_enum he h
def iEnumS (ta : TA) : TI := fun σ H R => ta σ H fun vs H1 => ∃ x, vs = [.str x] ∧ R (IteS x) H1
theorem pi_enumS {X : Cx} {e : Expr} {ta : TA} {p pos tpos : Pos} {elts : List Expr} {kk : Nat} (hg : Gl X "enumerate") (hm : X.mg "enumerate" = none) (ha : PA X [e] ta) (hs : starEach [e] X.env = [(false, eval e X.env)] := by rfl) :
    PI X (.Tuple elts kk tpos) (.Call (.Name "enumerate" p) [e] [] pos) (iEnumS ta) := by
  refine ⟨fun pins s σ H R I h => ?_⟩
  refine Call_ (ld_blt I hg hm boot_enumerate (PyProof.Rows.callWith_type1 (thn (ha.run pos pins s σ H _ I h) fun us s1 z => ?_) hs rfl))
  obtain ⟨vs, H1, I1, r1, x, ex, q⟩ := z
  subst ex
  cases r1 with
  | cons r rr =>
    cases rr
    obtain ⟨t, rfl⟩ := r
    refine call_enumerate_str fun h' he hit hsz hk => wpAny_pyIter_enum he ?_
    have I2 : Inv X pins σ H1 { s1 with heap := h' } := I1.kept (t' := s1.toks) hk
    have hty : strIterType x = "str_ascii_iterator" ∨ strIterType x = "str_iterator" := by
      unfold strIterType
      split
      · exact .inl rfl
      · exact .inr rfl
    refine ⟨s1.heap.objs.size + 1, [s1.heap.objs.size + 1, s1.heap.objs.size], _, _, H1, rfl, I2, turn_enumS (s1.heap.objs.size + 1) s1.heap.objs.size x t (strIterType x) (Nat.succ_ne_self _) hty, ⟨⟨.none, he⟩, hit⟩, fun b hb => ?_, q⟩
    have e' : b = s1.heap.objs.size + 1 ∨ b = s1.heap.objs.size := by simpa using hb
    have hle : s1.heap.objs.size ≤ b := by
      rcases e' with z | z
      · rw [z]
        exact Nat.le_add_right _ _
      · rw [z]
        exact Nat.le_refl _
    exact I1.fpOk hle (I1.hok.fresh hle)
theorem walk_enumS {x : Str} : Walk (IteS x) x.cps.size (fun _ => True) (fun i H v H' => ∃ (T : Addr) (c : Nat), v = .ref T ∧ H T = none ∧ x.cps[i]? = some c ∧ H' = upd H T (.tup [.int (i : Nat), .str ⟨#[c]⟩])) :=
  ⟨fun i _ hi _ => hi, fun _ _ => Nat.le_refl _, fun _ _ _ _ _ _ y => y⟩
end Vk
set_option Elab.async false
set_option linter.all false
set_option maxRecDepth 100000
set_option maxHeartbeats 4000000
namespace Vk
open PySem PySem.Spec PyProof.Rows L2
/-! zip of a text and a list -/
def IzS (K : PySem.W.Frag) (x : Str) (b : Addr) : It :=
  ⟨fun i H => ∃ (ys : List V) (y : V), SqL K H b ys ∧ ys[i]? = some y ∧ i < x.cps.size,
    fun i H v H' => ∃ (T : Addr) (c : Nat) (y : V), v = .ref T ∧ H T = none ∧ x.cps[i]? = some c ∧ H' = upd H T (.tup [.str ⟨#[c]⟩, y]) ∧ ∀ ys, SqL K H b ys → ys[i]? = some y,
    fun i H => ∃ ys : List V, SqL K H b ys ∧ i ≤ x.cps.size ∧ i ≤ ys.length ∧ (i = x.cps.size ∨ i = ys.length)⟩
theorem turn_zipS {P : Program} {w : World} {K : PySem.W.Frag} {elts : List Expr} {kk : Nat} {tpos : Pos} {b z TI TO i1 i2 : Addr} (x : Str) (t : Tok) (ty : String) (D : ZipSep2 z TI TO i1 i2 [i1] [i2, b]) (hbi : b ≠ i2) (hty : ty = "str_ascii_iterator" ∨ ty = "str_iterator") :
    Turn P w K (.Tuple elts kk tpos) (IzS K x b) [z, TI, TO, i1, i2] z (fun i h => IsZip h z TI TO .none ∧ IsTupOf2 h TI (.ref i1) (.ref i2) ∧ (∃ u v, IsTupOf2 h TO u v) ∧ h.IsStrIter i1 ty x t i ∧ h.IsListIter i2 b i) where
  mem := by simp
  obj := fun i h st c hc => by
    obtain ⟨hz, hTI, ⟨u, v, hTO⟩, ⟨o1, e1, _, d1⟩, ⟨o2, e2, _, d2⟩⟩ := st
    have e' : c = z ∨ c = TI ∨ c = TO ∨ c = i1 ∨ c = i2 := by simpa using hc
    rcases e' with q | q | q | q | q
    · rw [q]
      exact ⟨_, hz, fun v q => nomatch q⟩
    · rw [q]
      exact ⟨_, hTI, fun v q => nomatch q⟩
    · rw [q]
      exact ⟨_, hTO, fun v q => nomatch q⟩
    · rw [q]
      exact ⟨o1, e1, fun v q => by rw [d1] at q; cases q⟩
    · rw [q]
      exact ⟨o2, e2, fun v q => by rw [d2] at q; cases q⟩
  keep := fun i h h' st k => by
    obtain ⟨hz, hTI, ⟨u, v, hTO⟩, ⟨o1, e1, r1⟩, h2⟩ := st
    exact ⟨k z (by simp) _ hz, k TI (by simp) _ hTI, ⟨u, v, k TO (by simp) _ hTO⟩, ⟨o1, k i1 (by simp) _ e1, r1⟩, h2.at fun o q => k i2 (by simp) o q⟩
  item := by
    intro X hP hw hK hc i pins s σ H E I hf st hg
    subst hP hw hK
    obtain ⟨hz, hTI, ⟨u0, v0, hTO⟩, h1, h2⟩ := st
    obtain ⟨ys, y, hqy, hy, hix⟩ := hg
    obtain ⟨its2, rv2, p2, _⟩ := I.list hqy
    obtain ⟨u2, hu2, ru2⟩ := rv2.get hy
    have hzl : z < s.heap.objs.size := Heap.lt_size hz
    have hi2 : i < its2.toArray.size := by
      have := (List.getElem?_eq_some_iff.mp hu2).1
      simpa using this
    refine wpAny_pyNext_zipD2_item D (draws_txt (A := X.A.in1) (I.ok.hd hc) i1 x t hty) (Draws.list (A := X.A.in1) (I.ok.hd hc) i2 b hbi its2.toArray) hz hTI hTO h1 ⟨h2, p2.isList⟩ hix hi2 fun q1 q2 h' tk hq1 hq2 z' TO' st1 st2 hT hsz hk => ?_
    obtain ⟨c, u, hcx, rfl⟩ := hq1
    have hq2' : q2 = u2 := by
      have e1 : its2[i]? = some q2 := by simpa using hq2
      rw [hu2] at e1
      exact (Option.some.inj e1).symm
    subst hq2'
    refine ⟨_, rfl, wpAny_letOwnedTupleGo_zip (s := { s with heap := h', toks := tk }) z' fun h'' z'' sb => ?_⟩
    have hT2 : h''.get? s.heap.objs.size = some { cls := .type "tuple", data := .seq #[.str ⟨#[c]⟩ u, q2] } := (sb.2 _ (Nat.ne_of_gt hzl)).trans hT
    have new : ObjOk X.prog X.w (upd H s.heap.objs.size (.tup [.str ⟨#[c]⟩, y])) h'' s.heap.objs.size (.tup [.str ⟨#[c]⟩, y]) :=
      ⟨by show 2 ≤ sizeLine; decide, [.str ⟨#[c]⟩ u, q2], .cons ⟨u, rfl⟩ (.cons ru2 .nil), ⟨_, hT2, rfl, _, rfl⟩⟩
    have I1 : Inv X pins σ (upd H s.heap.objs.size (.tup [.str ⟨#[c]⟩, y])) { s with heap := h'', toks := tk } :=
      I.turnedNew (ch := [z, TI, TO, i1, i2]) (fun a o hb q => (sb.2 a (fun q' => hb (by simp [q']))).trans (hk a o (fun q' => hb (by simp [q'])) (fun q' => hb (by simp [q'])) (fun q' => hb (by simp [q'])) (fun q' => hb (by simp [q'])) q)) hf (Nat.le_refl _) new
    refine ⟨.ref s.heap.objs.size, _, I1, rfl, ⟨_, c, y, rfl, I.hok.fresh (Nat.le_refl _), hcx, rfl, fun l hl => by rw [I.list_inj hl hqy]; exact hy⟩, ⟨z'', ?_, ⟨.str ⟨#[c]⟩ u, q2, ?_⟩, ?_, ?_⟩, fun a hcm => ?_⟩
    · exact (sb.2 _ D.TIz).trans (hk _ _ D.TIz D.TITO D.TIi1 D.TIi2 hTI)
    · exact (sb.2 _ D.TOz).trans TO'
    · obtain ⟨o1, e1, r1⟩ := st1
      exact ⟨o1, (sb.2 _ (Ne.symm D.zi1)).trans e1, r1⟩
    · exact st2.1.at fun o q => (sb.2 _ (Ne.symm D.zi2)).trans q
    · have hlt : a < s.heap.objs.size := by
        have e' : a = z ∨ a = TI ∨ a = TO ∨ a = i1 ∨ a = i2 := by simpa using hcm
        rcases e' with q | q | q | q | q
        · rw [q]
          exact hzl
        · rw [q]
          exact Heap.lt_size hTI
        · rw [q]
          exact Heap.lt_size hTO
        · rw [q]
          obtain ⟨_, e1, _⟩ := h1
          exact Heap.lt_size e1
        · rw [q]
          obtain ⟨_, e2, _⟩ := h2
          exact Heap.lt_size e2
      rw [upd_ne (Nat.ne_of_lt hlt)]
      exact (hf a hcm).1
  done := by
    intro X hP hw hK hc i pins s σ H E I hf st hg
    subst hP hw hK
    obtain ⟨hz, hTI, ⟨u0, v0, hTO⟩, h1, h2⟩ := st
    obtain ⟨ys, hqy, hi1, hi2, hend⟩ := hg
    obtain ⟨its2, rv2, p2, _⟩ := I.list hqy
    have l2 := rv2.length
    exact wpAny_pyNext_zipD2_end D (draws_txt (A := X.A.in1) (I.ok.hd hc) i1 x t hty) (Draws.list (A := X.A.in1) (I.ok.hd hc) i2 b hbi its2.toArray) hz hTI hTO h1 ⟨h2, p2.isList⟩ hi1 (by simpa [← l2] using hi2) (hend.imp id fun e => by simpa [← l2] using e)
      fun h' tk hk => ⟨rfl, I.turnedL (t' := tk) (ch := [z, TI, TO, i1, i2]) (fun c o hb q => hk c o (fun q' => hb (by simp [q'])) (fun q' => hb (by simp [q'])) (fun q' => hb (by simp [q'])) (fun q' => hb (by simp [q'])) q) hf⟩
  self := fun A i s Q E st h => wpAny_pyIter_zip st.1 h
def iZipS (K : PySem.W.Frag) (ta : TA) : TI := fun σ H R => ta σ H fun vs H1 => ∃ (x : Str) (b : Addr) (ys : List V), vs = [.str x, .ref b] ∧ SqL K H1 b ys ∧ R (IzS K x b) H1
theorem sep5 (I b : Nat) (h : b < I) : ZipSep2 (I + 4) (I + 2) (I + 3) I (I + 1) [I] [I + 1, b] := by
  refine ⟨?_, ?_, ?_, ?_, ?_, ?_, ?_, ?_, ?_, ?_, ?_, ?_, ?_⟩
  all_goals first | (intro e; have e : (_ : Nat) = _ := e; omega) | (simp; done) | (intro e; simp at e; grind) | (simp; grind)
theorem pi_zipS {X : Cx} {e e2 : Expr} {ta : TA} {p pos tpos : Pos} {elts : List Expr} {kk : Nat} (hg : Gl X "zip") (hm : X.mg "zip" = none) (ha : PA X [e, e2] ta)
    (hs : starEach [e, e2] X.env = (false, eval e X.env) :: starEach [e2] X.env := by rfl) (hpl : (backTo pos (starEach [e2] X.env)).any (·.1) = false := by rfl) :
    PI X (.Tuple elts kk tpos) (.Call (.Name "zip" p) [e, e2] [] pos) (iZipS X.K ta) := by
  refine ⟨fun pins s σ H R I h => ?_⟩
  refine Call_ (ld_blt I hg hm PyProof.Rows.boot_zip (PyProof.Rows.callWith_type1 (thn (ha.run pos pins s σ H _ I h) fun us s1 z => ?_) hs hpl))
  obtain ⟨vs, H1, I1, r1, x, b, ys, ex, hqy, q⟩ := z
  subst ex
  cases r1 with
  | cons r rr =>
    cases rr with
    | cons r' rr =>
      cases rr
      obtain ⟨t, rfl⟩ := r
      cases r'
      obtain ⟨its2, rv2, p2, _⟩ := I1.list hqy
      refine zip_begins2 (begins_text x t) (begins_list b its2.toArray) trivial p2.isList fun h' hz hTI hTO h1 h2 hsz hk => wpAny_pyIter_zip hz ?_
      have I2 : Inv X pins σ H1 { s1 with heap := h' } := I1.kept (t' := s1.toks) hk
      have hty : strIterType x = "str_ascii_iterator" ∨ strIterType x = "str_iterator" := by
        unfold strIterType
        split
        · exact .inl rfl
        · exact .inr rfl
      refine ⟨s1.heap.objs.size + 4, [s1.heap.objs.size + 4, s1.heap.objs.size + 2, s1.heap.objs.size + 3, s1.heap.objs.size, s1.heap.objs.size + 1], _, _, H1, rfl, I2, turn_zipS x t (strIterType x) (sep5 s1.heap.objs.size b p2.lt) (Nat.ne_of_lt (Nat.lt_succ_of_lt p2.lt)) hty, ⟨hz, hTI, ⟨_, _, hTO⟩, ⟨_, h1, rfl, rfl⟩, ⟨_, h2, rfl, rfl⟩⟩, fun c hcm => ?_, q⟩
      have e' : c = s1.heap.objs.size + 4 ∨ c = s1.heap.objs.size + 2 ∨ c = s1.heap.objs.size + 3 ∨ c = s1.heap.objs.size ∨ c = s1.heap.objs.size + 1 := by simpa using hcm
      have hle : s1.heap.objs.size ≤ c := by
        rcases e' with z | z | z | z | z
        · rw [z]
          exact Nat.le_add_right _ _
        · rw [z]
          exact Nat.le_add_right _ _
        · rw [z]
          exact Nat.le_add_right _ _
        · rw [z]
          exact Nat.le_refl _
        · rw [z]
          exact Nat.le_add_right _ _
      exact I1.fpOk hle (I1.hok.fresh hle)
end Vk
set_option Elab.async false
set_option linter.all false
set_option maxRecDepth 100000
set_option maxHeartbeats 4000000
/-! X53: set(text), and the set laid in order -/
namespace TSet
open PySem PySem.Spec PyProof.Rows L2
def txt (e : Int × Value) : Str := match e.2 with
  | .str k _ => k
  | _ => Str.empty
def Fine (w : World) (e : Int × Value) : Prop := ∃ k tk, e.2 = Value.str k tk ∧ e.1 = hashStr w k
/-- the set at d has just the texts L -/
def Txs (w : World) (h : Heap) (d : Addr) (L : List Str) : Prop := ∃ ob ms ep tb, h.get? d = some ob ∧ ob.ExactSet ∧ ob.data = .set ms ep tb ∧ (∀ e ∈ ms.toList, Fine w e) ∧ (ms.toList.map txt).Perm L ∧ L.Nodup ∧ ms.size < scanBound ∧ tb.fits ms.size = true ∧ Ris tb.place.toList ∧ (w.params.followText "set-order" = true ∨ tb.led = true)
section
variable {P : Program} {w : World} {h h' : Heap} {d : Addr} {L : List Str} {ms : List (Int × Value)}
theorem Txs.still (R : Txs w h d L) (k : ∀ ob, h.get? d = some ob → h'.get? d = some ob) : Txs w h' d L := by
  obtain ⟨ob, ms, ep, tb, e, r⟩ := R
  exact ⟨ob, ms, ep, tb, k ob e, r⟩
theorem fine_all (g : ∀ e ∈ ms, Fine w e) : ElemsOf (strKind P w) ms := fun e he => by
  obtain ⟨k, tk, e1, e2⟩ := g e he
  exact ⟨⟨k, by rw [e1]; exact strKind_is P w k tk, e2⟩, by rw [e1] <;> rfl⟩
theorem fine_is {e : Int × Value} (g : Fine w e) (k : Str) : (strKind P w).is k e.2 = true ↔ txt e = k := by
  obtain ⟨y, tk, e1, _⟩ := g
  unfold txt
  rw [e1]
  show ((y == k) = true) ↔ y = k
  exact beq_iff_eq
theorem fine_mem (g : ∀ e ∈ ms, Fine w e) (k : Str) : k ∈ ms.map txt ↔ ∃ e ∈ ms, (strKind P w).is k e.2 = true := by
  rw [List.mem_map]
  exact ⟨fun ⟨e, he, q⟩ => ⟨e, he, (fine_is (g e he) k).2 q⟩, fun ⟨e, he, q⟩ => ⟨e, he, (fine_is (g e he) k).1 q⟩⟩
end
section
variable {P : Program} {w : World} {A : Around} {E : Value → Shared → Prop} {s : Shared} {d : Addr} {L : List Str}
theorem laid_in {more : Bool → Sem Unit} (hm : ∀ (b : Bool) (s1 : Shared) (Q1 : Unit → Shared → Prop), Q1 () s1 → wpAny (model P w) A (more b) Q1 E s1) {ob : Obj} {m0 : Array (Int × Value)} {ep : Nat} {t0 : SetTable} (e0 : s.heap.get? d = some ob) (ex : ob.ExactSet) (ed : ob.data = .set m0 ep t0)
    {m1 : Array (Int × Value)} {t1 : SetTable} (g1 : ∀ e ∈ m1.toList, Fine w e) (p1 : (m1.toList.map txt).Perm L) (n1 : L.Nodup) (z1 : m1.size < scanBound) (f1 : t1.fits m1.size = true) (r1 : Ris t1.place.toList) (l1 : w.params.followText "set-order" = true ∨ t1.led = true)
    {dm : Bool} {R : Option Bool → Shared → Prop} (hR : ∀ h', Heap.SameBut d s.heap h' → Txs w h' d L → R (some true) { s with heap := h' }) :
    wpAny (model P w) A (do
        storeSet d m1 t1
        if (!dm && t1.tooFull) = true then do
            more (relayAll t1 m1 (SetTable.grown m1.size)).2.2
            storeSet d (relayAll t1 m1 (SetTable.grown m1.size)).1 (relayAll t1 m1 (SetTable.grown m1.size)).2.1
            pure (some true)
          else pure (some true)) R E s := by
  refine wpAny_bind (wpAny_storeSet_of e0 ed ?_ (fits_of_scanBound z1))
  have b1 := Heap.SameBut.update s.heap d (Obj.putSet m1 t1)
  have a1 := store_at (es' := m1) (t' := t1) e0 ed
  split
  · have q1 := relayAll_perm t1 m1 (SetTable.grown m1.size)
    have q2 := relayAll_fits t1 m1 (SetTable.grown m1.size)
    have q3 := relayAll_ris t1 m1 (SetTable.grown m1.size)
    have q4 := relayAll_led t1 m1 (SetTable.grown m1.size)
    generalize relayAll t1 m1 (SetTable.grown m1.size) = W at q1 q2 q3 q4 ⊢
    obtain ⟨m2, t2, gv⟩ := W
    dsimp only at q1 q2 q3 q4 ⊢
    have c2 : m2.size = m1.size := by rw [← Array.length_toList, q1.length_eq, Array.length_toList]
    have z2 : m2.size < scanBound := c2 ▸ z1
    refine wpAny_bind (hm _ _ _ (wpAny_bind (wpAny_storeSet_of a1 rfl ?_ (fits_of_scanBound z2))))
    have a2 := store_at (es' := m2) (t' := t2) a1 rfl
    refine wpAny_pure (hR _ (b1.trans (Heap.SameBut.update _ d _)) ⟨_, m2, _, t2, a2, ex, rfl, fun e he => g1 e (q1.mem_iff.mp he), (q1.map txt).trans p1, n1, z2, q2, q3, l1.imp id fun z => by rw [q4]; exact z⟩)
  · exact wpAny_pure (hR _ b1 ⟨_, m1, _, t1, a1, ex, rfl, g1, p1, n1, z1, f1, r1, l1⟩)
theorem add_txt {k : Str} {tk : Tok} {Q : Bool → Shared → Prop} (R : Txs w s.heap d L) (room : L.length + 1 < scanBound) (hQ : ∀ b h', Heap.SameBut d s.heap h' → Txs w h' d (if k ∈ L then L else k :: L) → Q b { s with heap := h' }) :
    wpAny (model P w) A (setAddHashed d (.str k tk) ((strKind P w).hash k)) Q E s := by
  obtain ⟨ob, ms, ep, tb, e0, ex, ed, g, pm, nd, hz, hf, hr, hl⟩ := R
  have sc : (Value.str k tk).scannable = true := rfl
  have el : ElemsOf (strKind P w) ms.toList := fine_all g
  have cnt : ms.size = L.length := by rw [← Array.length_toList, ← pm.length_eq, List.length_map]
  unfold setAddHashed setAddHashedIn
  refine wpAny_holding (wpAny_bind (wpAny_setState_of e0 ed hf ?_))
  dsimp only
  rw [byScan_of sc hz el]
  simp only [↓reduceIte]
  unfold setAddByScan
  refine wpAny_bind (wpAny_bind (wpAny_rule (wpAny_bind (wpAny_setScan_of (strKind_is P w k tk) e0 ed hf el ?_))))
  cases found : List.findIdx? (fun e => (strKind P w).is k e.2) ms.toList with
  | some j =>
    dsimp only
    obtain ⟨hj, pj, _⟩ := List.findIdx?_eq_some_iff_getElem.mp found
    have hin : k ∈ L := pm.mem_iff.mp ((fine_mem (P := P) g k).2 ⟨ms.toList[j], List.getElem_mem hj, pj⟩)
    refine wpAny_pure (wpAny_pure (hQ _ s.heap (Heap.SameBut.refl d s.heap) ?_))
    rw [if_pos hin]
    exact ⟨ob, ms, ep, tb, e0, ex, ed, g, pm, nd, hz, hf, hr, hl⟩
  | none =>
    dsimp only
    have hno : k ∉ L := fun z => by
      obtain ⟨e, he, q⟩ := (fine_mem (P := P) (w := w) g k).1 (pm.mem_iff.mpr z)
      have := List.findIdx?_eq_none_iff.mp found e he
      rw [q] at this
      cases this
    have way : ∀ (b : Bool) {s1 : Shared} {Q1 : Unit → Shared → Prop}, Q1 () s1 → wpAny (model P w) A (match b with | true => rule "set.scan.the-table-gave-way" | false => pure ()) Q1 E s1 :=
      fun b s1 Q1 q => by cases b <;> first | exact wpAny_pure q | exact wpAny_rule q
    have q1 := layNew_perm tb ms ((strKind P w).hash k) (.str k tk)
    have q2 := layNew_fits tb ms ((strKind P w).hash k) (.str k tk)
    have q3 := layNew_ris tb ms ((strKind P w).hash k) (.str k tk) hr
    have q4 := layNew_led tb ms ((strKind P w).hash k) (.str k tk)
    generalize layNew tb ms ((strKind P w).hash k) (.str k tk) = W at q1 q2 q3 q4 ⊢
    obtain ⟨m1, t1, wd, gv⟩ := W
    dsimp only at q1 q2 q3 q4 ⊢
    rw [Array.toList_push] at q1
    have pc := q1.trans (List.perm_append_singleton _ _)
    have pk : (m1.toList.map txt).Perm (k :: L) := (pc.map txt).trans (List.Perm.cons _ pm)
    have g1 : ∀ e ∈ m1.toList, Fine w e := fun e he => by
      rcases List.mem_cons.mp (pc.mem_iff.mp he) with z | z
      · rw [z]; exact ⟨k, tk, rfl, rfl⟩
      · exact g e z
    have c1 : m1.size = L.length + 1 := by rw [← Array.length_toList, ← List.length_map (f := txt), pk.length_eq, List.length_cons]
    have z1 : m1.size < scanBound := by rw [c1]; exact room
    have l1 : w.params.followText "set-order" = true ∨ t1.led = true := hl.imp id fun z => by rw [q4]; exact z
    have n1 : (k :: L).Nodup := List.nodup_cons.mpr ⟨hno, nd⟩
    rw [if_neg hno] at hQ
    refine wpAny_bind (way _ ?_)
    split
    · refine wpAny_bind ?_
      rw [hashByValue_scannable 8 sc]
      refine wpAny_pure (laid_in ?_ e0 ex ed g1 pk n1 z1 ?_ ?_ ?_ fun h1 sb r => ?_)
      · intro b s1 Q1 q; cases b <;> first | exact wpAny_pure q | exact wpAny_rule q
      · first | (split <;> first | exact q2 | exact SetTable.fits_plain_off q2) | exact q2
      · first | (split <;> exact q3) | exact q3
      · first | (split <;> exact l1) | exact l1
      · dsimp only
        exact wpAny_pure (hQ _ h1 sb r)
    · refine wpAny_bind (wpAny_pure ?_)
      simp only [↓reduceIte]
      refine laid_in ?_ e0 ex ed g1 pk n1 z1 q2 q3 l1 fun h1 sb r => ?_
      · intro b s1 Q1 q; cases b <;> first | exact wpAny_pure q | exact wpAny_rule q
      · dsimp only
        exact wpAny_pure (hQ _ h1 sb r)
end
end TSet
set_option Elab.async false
set_option linter.all false
set_option maxRecDepth 100000
set_option maxHeartbeats 4000000
namespace TSet
open PySem PySem.Spec PyProof.Rows L2 Vk
/-! X54: set(text) and sorted(set) -/
def oneS (c : Nat) : Str := ⟨#[c]⟩
theorem oneS_inj {c d : Nat} (h : oneS c = oneS d) : c = d := (List.cons.inj (congrArg (fun y : Str => y.cps.toList) h)).1
def had (l : List Nat) (i : Nat) : List Str := (metAt l i).map oneS
theorem had_step {l : List Nat} {i c : Nat} (h : l[i]? = some c) : (if oneS c ∈ had l i then had l i else oneS c :: had l i) = had l (i + 1) := by
  have e : oneS c ∈ had l i ↔ (metAt l i).contains c = true := by
    unfold had
    rw [List.mem_map, List.contains_iff_mem]
    exact ⟨fun ⟨x, hx, q⟩ => oneS_inj q ▸ hx, fun q => ⟨c, q, rfl⟩⟩
  have e2 : had l (i + 1) = (if (metAt l i).contains c then metAt l i else c :: metAt l i).map oneS := by
    unfold had
    rw [metAt_succ h]
  rw [e2]
  by_cases q : (metAt l i).contains c = true
  · rw [if_pos (e.mpr q), if_pos q]
    rfl
  · rw [if_neg (fun z => q (e.mp z)), if_neg q]
    rfl
theorem had_len (l : List Nat) (i : Nat) : (had l i).length ≤ i := by
  unfold had metAt
  rw [List.length_map]
  have h := met_len (l.take i).reverse
  rw [List.length_reverse, List.length_take] at h
  omega
section
variable {P : Program} {w : World} {A : Around} {R : Result → Shared → Prop} {I : Addr} {fp wr : List Addr} {G : Array GenState → Array GenState → Prop} {Pv : Nat → Value → Prop} {St : Nat → Shared → Prop}
theorem fill_text {l : List Nat} (W : WalksS P w A.in1 I fp wr G l.length Pv St) (d : Addr) (nd : d ∉ fp) (val : ∀ i v, Pv i v → ∃ c t, l[i]? = some c ∧ v = .str (oneS c) t) (room : l.length + 1 < scanBound) :
    ∀ (k i : Nat) (s : Shared), l.length - i = k → i ≤ l.length → St i s → Txs w s.heap d (had l i) → (∀ s', Moved (d :: wr) G s s' → Txs w s'.heap d (had l l.length) → R (.ok (.ret .none)) s') → codeAny (model P w) A (.builtin "set.update.loop" ⟨[.ref d, .ref I], []⟩) R s := by
  have nw : d ∉ wr := fun h => nd (W.sub _ h)
  have wide : ∀ b ∈ wr, b ∈ d :: wr := fun b hb => List.mem_cons_of_mem _ hb
  intro k
  induction k with
  | zero =>
    intro i s hk hi hst hS hR
    obtain rfl : i = l.length := by omega
    refine codeAny_builtin F.entry_set_update_loop ?_
    rw [Around.under_plainId F.plain_set_update_loop _]
    show wpAny _ A.in1 (pyNext (.ref I) >>= _) _ _ s
    refine wpAny_bind (W.done s _ _ hst fun s1 hm => ?_)
    show wpAny _ A.in1 (ret Value.none) _ _ s1
    exact wpAny_pure (hR s1 (hm.mono wide) (hS.still fun ob e => hm.heap d _ nw e))
  | succ k ih =>
    intro i s hk hi hst hS hR
    have lt : i < l.length := by omega
    refine codeAny_builtin F.entry_set_update_loop ?_
    rw [Around.under_plainId F.plain_set_update_loop _]
    show wpAny _ A.in1 (pyNext (.ref I) >>= _) _ _ s
    refine wpAny_bind (W.item i s _ _ lt hst fun v s1 hP hst1 hm => ?_)
    obtain ⟨c, t, hc, rfl⟩ := val i v hP
    have hS1 : Txs w s1.heap d (had l i) := hS.still fun ob e => hm.heap d _ nw e
    show wpAny _ A.in1 (holding [Value.str (oneS c) t] (setAdd d (.str (oneS c) t)) >>= _) _ _ s1
    refine wpAny_bind (wpAny_holding ?_)
    unfold setAdd
    refine wpAny_holding (wpAny_bind ((strKind P w).pyHash (k := oneS c) (strKind_is _ _ _ _) ?_))
    have := had_len l i
    refine add_txt (s := { s1 with toks := s1.toks + 1 }) hS1 (by omega) fun b h2 sb hS2 => ?_
    rw [had_step hc] at hS2
    refine wpAny_pure ⟨plainId_quiet F.plain_set_update_loop _, ih (i + 1) _ (by omega) lt (W.frame _ s1 _ _ hst1 (Nat.le_succ _) fun b hb o e => ?_) hS2 fun s3 hm3 hS3 => ?_⟩
    · rw [sb.2 b fun z : b = d => nd (z ▸ hb)]
      exact e
    · refine hR s3 (Moved.trans W.gtrans ((hm.mono wide).then_heap (Nat.le_succ _) fun b o hb e => ?_) hm3) hS3
      rw [sb.2 b fun z : b = d => hb (z ▸ List.mem_cons_self)]
      exact e
end
section
variable {P : Program} {w : World} {A : Around} {E : Value → Shared → Prop} {s : Shared}
abbrev bare0 (w : World) : Obj := { cls := .type "set", dict := none, data := .set #[] 0 (.fresh 0 0 (!w.params.followText "set-order")) }
theorem Txs.new {h : Heap} {d : Addr} (e : h.get? d = some (bare0 w)) : Txs w h d [] := by
  refine ⟨_, #[], 0, _, e, ⟨rfl, rfl, rfl⟩, rfl, fun _ z => by simp at z, by simp, List.nodup_nil, by unfold scanBound; decide, by rfl, List.Pairwise.nil, ?_⟩
  show _ ∨ (!w.params.followText "set-order") = true
  cases w.params.followText "set-order"
  · exact .inr rfl
  · exact .inl rfl
theorem set_text {x : Str} {t : Tok} {Q : Value → Shared → Prop} (hh : A.handled = none) (room : x.cps.size + 1 < scanBound)
    (out : ∀ (h2 : Heap) (tk : Nat), Txs w h2 s.heap.objs.size (had x.cps.toList x.cps.toList.length) → (∀ b o, b < s.heap.objs.size → s.heap.get? b = some o → h2.get? b = some o) → Q (.ref s.heap.objs.size) { s with heap := h2, toks := tk }) :
    wpAny (model P w) A (call (.type "set") [.str x t]) Q E s := by
  obtain ⟨c, tl, hmro⟩ := F.called_set.mro
  have hmade := F.called_set.made
  have hsub := F.called_set.sub
  refine wpAny_call (codeAny_of_tree ?_)
  show wpAny _ _ (callAny (.type "set") _) _ _ _
  refine wpAny_pure ⟨Code.quiet_builtin _ (by decide +kernel), codeAny_builtin F.entry_type_call ?_⟩
  rw [Around.under_plain (weight_type_call_type "set" [.str x t] []) rfl]
  have h1 := F.called_set.notType
  have h2 := F.called_set.canCreate
  have hct := F.typeCall_set_1 (.str x t)
  repeat (any_goals (first | assumption | wp_step))
  refine codeAny_mono (code_set_led1 (.str x t) (E := E) (Q₁ := fun ob s₁ => ob = .ref s.heap.objs.size ∧ s₁ = { s with heap := s.heap.push (bare0 w) }) ⟨rfl, rfl⟩) fun r s₁ hr => ?_
  match r, hr with
  | .error e, hr => exact hr
  | .ok (.ret ob), hr =>
    obtain ⟨rfl, rfl⟩ := hr
    have hS : (s.heap.push (bare0 w)).get? s.heap.objs.size = some (bare0 w) := Heap.get?_push_size _ rfl
    have hT : Shared.TypeIs { s with heap := s.heap.push (bare0 w) } (.ref s.heap.objs.size) "set" := ⟨_, hS, rfl⟩
    have hli := F.called_set.init.lookup
    have hbi := F.called_set.init.bind (.ref s.heap.objs.size)
    repeat (any_goals (first | assumption | wp_step))
    refine codeAny_mono (codeAny_call_builtin (R := wants (fun r s₂ => r = .none ∧ ∃ h2 tk, s₂ = { s with heap := h2, toks := tk } ∧ Txs w h2 s.heap.objs.size (had x.cps.toList x.cps.toList.length) ∧ (∀ b o, b < s.heap.objs.size → s.heap.get? b = some o → h2.get? b = some o)) E) F.called_set.init.plain F.entry_set_init (check_set_init_1 hT ?_)) fun r₂ s₂ hr₂ => ?_
    · unfold Builtin.«set.__init__» noKeywords Builtin.Frozenset.updateFrom
      generalize hPI : pyIter = PI
      have hTx : Shared.TypeIs { s with heap := s.heap.push (bare0 w) } (.str x t) "str" := rfl
      have hsS : isSubtype (.type "str") (.type "set") = pure false := by rw [isSubtype_type]; kernel_rfl
      have hsF : isSubtype (.type "str") (.type "frozenset") = pure false := by rw [isSubtype_type]; kernel_rfl
      have hne : (Value.type "str" == Value.type "dict") = false := by decide
      wp_walk
      subst hPI
      refine wpAny_pyIter_str fun o St W hst => wpAny_bind (wpAny_runValue ?_)
      generalize hH : s.heap.push (bare0 w) = Hq at W hst hS ⊢
      have hHs : Hq.objs.size = s.heap.objs.size + 1 := by rw [← hH, Heap.size_push]
      have hSf : s.heap.objs.size ∉ [Hq.objs.size] := fun hm => by
        rw [List.mem_singleton] at hm
        omega
      have hh3 : A.in1.in1.in1.handled = none := by simp [hh]
      refine fill_text (l := x.cps.toList) ((W A.in1.in1.in1 hh3).toS) s.heap.objs.size hSf (fun i v hv => ?_) room (x.cps.toList.length - 0) 0 _ (by omega) (Nat.zero_le _) hst (Txs.new (Heap.get?_push_of_some _ hS)) fun s1 hm hS1 => ?_
      · obtain ⟨c, u, hc, e⟩ := hv
        exact ⟨c, u, by rw [Array.getElem?_toList]; exact hc, e⟩
      · obtain ⟨h2, g2, d2, tk2, os2⟩ := s1
        obtain rfl : g2 = s.gens := hm.gens
        obtain rfl : d2 = s.drawn := hm.drawn
        obtain rfl : os2 = s.os := hm.os
        show wpAny _ _ _ _ _ _
        refine wpAny_pure ?_
        show wpAny _ _ (ret Value.none) _ _ _
        refine wpAny_pure ⟨rfl, h2, tk2, rfl, hS1, fun b o hb e => hm.heap b o (fun z => ?_) (Heap.get?_push_of_some _ (by rw [← hH]; exact Heap.get?_push_of_some _ e))⟩
        rcases List.mem_cons.mp z with z | z
        · exact absurd hb (by rw [z]; exact Nat.lt_irrefl _)
        · rw [List.mem_singleton] at z
          rw [z, hHs] at hb
          omega
    · match r₂, hr₂ with
      | .error e, hr₂ => exact hr₂
      | .ok (.ret r), hr₂ =>
        obtain ⟨rfl, h2, tk, rfl, R2, k2⟩ := hr₂
        repeat (any_goals (first | assumption | wp_step))
        exact out _ _ R2 k2
end
end TSet
set_option Elab.async false
set_option linter.all false
set_option maxRecDepth 100000
set_option maxHeartbeats 4000000
namespace TSet
open PySem PySem.Spec PyProof.Rows L2 Vk
/-! X55: a set of signs as a tracked object; set(text), sorted(set) -/
def TxO (w : World) (a : Addr) (l : List Nat) : HO := .ext fun h => Txs w h a (had l l.length)
theorem txO_ok {P : Program} {w : World} {H : Hp} {h : Heap} {a : Addr} {l : List Nat} (R : Txs w h a (had l l.length)) : ObjOk P w H h a (TxO w a l) := by
  obtain ⟨ob, ms, ep, tb, e, r⟩ := id R
  exact ⟨R, ⟨ob, e⟩, fun h1 h2 p k => Txs.still p fun o q => k o q⟩
/-- the different signs of a text, in order -/
def ordL (l : List Nat) : List Nat := srtL (metAt l l.length)
theorem met_nd : ∀ l : List Nat, (met l).Nodup
  | [] => List.nodup_nil
  | a :: r => by
    unfold met
    by_cases h : (met r).contains a = true
    · rw [if_pos h]
      exact met_nd r
    · rw [if_neg h]
      exact List.nodup_cons.mpr ⟨fun q => h (List.contains_iff_mem.mpr q), met_nd r⟩
theorem ord_nd (l : List Nat) : (ordL l).Nodup := by
  unfold ordL metAt
  exact srtL_nodup.mpr (met_nd _)
theorem mem_ord {l : List Nat} {c : Nat} : c ∈ ordL l ↔ c ∈ l := by
  unfold ordL metAt
  rw [srtL_mem, mem_met, List.take_length, List.mem_reverse]
theorem ord_asc (l : List Nat) : (ordL l).Pairwise (· < ·) := ((srtL_le _).and (ord_nd l)).imp fun q => by omega
theorem ord_len (l : List Nat) : (ordL l).length ≤ l.length := by
  have := had_len l l.length
  unfold had at this
  rw [List.length_map] at this
  unfold ordL
  rw [srtL_len]
  exact this
section
variable {X : Cx}
def rSetTx (w : World) : List V → Hp → VK → Prop := fun xs H Q => ∃ l : List Nat, xs = [V.str (S l)] ∧ l.length ≤ 1000 ∧ ∀ a, H a = none → Q (.ref a) (upd H a (TxO w a l))
theorem cr_setTx (hc : X.calm = true) : CallR X (.type "set") (rSetTx X.w) := by
  intro pins s σ H xs us Q I r h
  obtain ⟨l, rfl, hl, q⟩ := h
  obtain ⟨u, rfl, rx⟩ := vals1 r
  obtain ⟨t, rfl⟩ := rx
  have hn : H s.heap.objs.size = none := I.hok.fresh (Nat.le_refl _)
  have hz : (S l).cps.size ≤ 1000 := by
    have := S_len l
    unfold Str.length at this
    omega
  have hcp : (S l).cps.toList = l := S_cps l
  refine set_text (P := X.prog) (w := X.w) (I.ok.hd hc) (by unfold scanBound; omega) fun h2 tk R k => ?_
  rw [hcp] at R
  exact ⟨.ref s.heap.objs.size, upd H s.heap.objs.size (TxO X.w s.heap.objs.size l), I.laid (t' := tk) (fun b o e => k b o (Heap.lt_size e) e) (Nat.le_refl _) (txO_ok R), rfl, q _ hn⟩
def rSortTx (w : World) : List V → Hp → VK → Prop := fun vs H Q => ∃ (a : Addr) (l : List Nat), vs = [V.ref a] ∧ H a = some (TxO w a l) ∧ (ordL l).length < 64 ∧ ∀ p, H p = none → Q (.ref p) (upd H p (.lst ((ordL l).map fun c => V.str (S [c]))))
theorem strs_unmap : ∀ {vs : List Value} {ms : List (Int × Value)}, vs = ms.map (·.2) → (∀ e ∈ ms, ∃ k tk, e.2 = Value.str k tk) → StrsAre vs (ms.map txt)
  | _, [], rfl, _ => .nil
  | _, e :: ms, rfl, h => by
    obtain ⟨k, tk, q⟩ := h e List.mem_cons_self
    have e1 : txt e = k := by
      unfold txt
      rw [q]
    rw [List.map_cons, List.map_cons, q, e1]
    exact .cons k tk (strs_unmap rfl fun z hz => h z (List.mem_cons_of_mem _ hz))
theorem cr_sortTx (hc : X.calm = true) : CallR X (.builtin "sorted") (rSortTx X.w) := by
  intro pins s σ H xs us Q I r h
  obtain ⟨a, l, rfl, ha, few, q⟩ := h
  obtain ⟨u, rfl, rx⟩ := vals1 r
  cases rx
  have R0 : Txs X.w s.heap a (had l l.length) := (I.hok a _ ha).1
  obtain ⟨ob, ms, ep, tb, e0, ex, ed, g, pm, nd, hz, hf, hr, hl⟩ := R0
  refine Calls.call_function_entry PyProof.Rows.kind_sorted PyProof.Rows.plain_sorted PyProof.Rows.entry_sorted (PyProof.Rows.args_sorted1 _) ?_
  unfold Builtin.«sorted»
  refine wpAny_bind (m := checkCount "sorted" 1 1 _) (wpAny_pure ?_)
  refine wpAny_bind (collect_set (A := X.A.in1) (I.ok.hd hc) ⟨ob, e0, ex.1, ed⟩ hf hz hr hl fun s1 vs k1 hk1 hg ho pv => ?_)
  obtain ⟨h1, g1, d1, tk1, os1⟩ := s1
  have eg : g1 = s.gens := hg
  have eo : os1 = s.os := ho
  subst eg; subst eo
  obtain ⟨m2, pm2, rfl⟩ := NSet.unmap (fun e : Int × Value => e.2) pv ms.toList rfl
  have hS : StrsAre (m2.map (·.2)) (m2.map txt) := strs_unmap rfl fun e he => by
    obtain ⟨k, tk, z, _⟩ := g e (pm2.mem_iff.mp he)
    exact ⟨k, tk, z⟩
  have pL : (m2.map txt).Perm (had l l.length) := (pm2.map txt).trans pm
  have cnt : (m2.map (·.2)).length < 64 := by
    have e1 : (m2.map txt).length = (had l l.length).length := pL.length_eq
    rw [List.length_map] at e1 ⊢
    unfold had at e1
    rw [List.length_map] at e1
    unfold ordL at few
    rw [srtL_len] at few
    omega
  have cnt2 : (m2.map (·.2)).length ≤ sizeLine := by rw [sizeLine_eq]; omega
  have ps : ∀ b o, s.heap.get? b = some o → h1.get? b = some o := k1
  refine wpAny_bind (wpAny_newList ?_ cnt2)
  have hoL : (h1.push (seqObj "list" (m2.map (·.2)).toArray 0)).get? h1.objs.size = some (seqObj "list" (m2.map (·.2)).toArray 0) := Heap.get?_push_size _ rfl
  show wpAny _ _ _ _ _ { heap := h1.push (seqObj "list" (m2.map (·.2)).toArray 0), gens := s.gens, drawn := d1, toks := tk1, os := s.os }
  refine wpAny_bind (wpAny_holding (wpAny_call_entry PyProof.Rows.slot_list_sort ⟨_, hoL, rfl⟩ PyProof.Rows.entry_list_sort
    (list_sort_treeK strKind_oneLt (s := { heap := h1.push (seqObj "list" (m2.map (·.2)).toArray 0), gens := s.gens, drawn := d1, toks := tk1, os := s.os }) hoL hS.keysOf (fun v₁ v₂ more e => keyKind_strs (by rw [← e]; exact hS)) cnt fun st2 hp hs => ⟨_, rfl, ?_⟩)
    (PyProof.Rows.args_list_sort _)))
  obtain ⟨ys, y1, y2, y3⟩ := sorted_out_str hS hp hs
  have ey : ys = (ordL l).map fun c => S [c] := sorted_signs (l := metAt l l.length) (y2.trans pL) y3
  obtain ⟨e', he'⟩ := PyProof.Rows.sortedHeap_at (vs := m2.map (·.2)) (out := (arrOf st2).map (·.2)) hoL
  have eq2 : ys.map V.str = (ordL l).map fun c => V.str (S [c]) := by rw [ey, List.map_map]; rfl
  have hn : H h1.objs.size = none := I.hok.fresh hk1
  have hlen : ((ordL l).map fun c => V.str (S [c])).length ≤ sizeLine := by rw [List.length_map, sizeLine_eq]; omega
  have hv : Vals ((ordL l).map fun c => V.str (S [c])) ((arrOf st2).map (·.2)).toList := by rw [← eq2]; exact vals_of_strs y1
  have kk : ∀ b o, s.heap.get? b = some o → (sortedHeap (h1.push (seqObj "list" (m2.map (·.2)).toArray 0)) h1.objs.size (m2.map (·.2)) ((arrOf st2).map (·.2))).get? b = some o := fun b u e => by
    have q1 := ps b u e
    have lt := Heap.lt_size q1
    rw [PyProof.Rows.sortedHeap_old (Nat.ne_of_lt lt) (by rw [size_push']; exact Nat.lt_succ_of_lt lt)]
    exact Heap.get?_push_of_some _ q1
  refine wpAny_pure ⟨_, rfl, .ref h1.objs.size, upd H h1.objs.size (.lst ((ordL l).map fun c => V.str (S [c]))), ?_, rfl, q _ hn⟩
  exact I.call' (ch := []) rfl (Un.laid kk hk1 hn) (I.hok.laid kk hk1 ⟨hlen, ((arrOf st2).map (·.2)).toList, e', hv, by rw [Array.toArray_toList]; exact he'⟩) I.bare (fun _ z => nomatch z)
end
end TSet
set_option Elab.async false
set_option linter.all false
set_option maxRecDepth 100000
set_option maxHeartbeats 2000000
namespace Vk
open PySem PySem.Spec PyProof.Rows L2
/-! super().__init__(..) in a plain class: an own __init__ further along -/
/-- what the text has written of the class D whose cell is cc, of a def whose code is at cda; C: the object's class; g: the next m along -/
structure SupP (P : Program) (K : PySem.W.Frag) (mg : Str → Option Value) (C D cc cda : Addr) (m : Str) (g : Addr) : Prop where
  cell : ∃ cl cld csl, K.lookup cc = some ⟨cl, cld, .cell (some (.ref D)), csl⟩
  code : ∃ (ccl : Value) (cdd : Option Addr) (vs : Array Value) (ccs : Array (Option Value)) (file : Str) (tf : Tok), K.lookup cda = some ⟨ccl, cdd, .fields vs, ccs⟩ ∧ vs[2]? = some (.str file tf) ∧ ((P.main.file : Str) == file) = true
  clD : PySem.W.isClsIn K D = true
  sub : PySem.W.mroIn K C (.ref D) = some true
  sup : PySem.W.ks_superIn K C D m = some (some (.ref g))
  fnc : PySem.W.typeIn K (.ref g) = some (.type "function")
  fi : PySem.W.fnIn K g = true
  noTop : (P.main.scope.names.lookup ("super" : Str)).isSome = false
  noMg : mg "super" = none
  any : PySem.W.nsIn K cStatics "thirdparty.any" = some none
/-- what super().m(..) asks: the arguments, then m's promise at the object -/
def tSupP (a : Addr) (sp : Sp) (E : XK) (t : TA) : TS := fun D σ H => t σ H fun vs H1 => sp (.ref a :: vs) H1 (fun _ H2 => D.nx σ H2) E

theorem fn_superP {CX : CXT} {P : Program} {w : World} {K : PySem.W.Frag} {mg : Str → Option Value} {base : Heap} {k : Nat} {f C D cc cda g : Addr} {name qual self m : Str} {params : Arguments} {body : List Stmt} {scope : Scope} {dV kV doc pm ct oc : Value} {an od : Option Addr}
    {osl : Array (Option Value)} {N : List Str} {sp : Sp} {e0 : Expr} {es : List Expr} {rest : List Stmt} {p0 p1 p2 p3 p4 : Pos} {ar : Arg} {N' : List Str} {pl : Sem Bool}
    (T : SupP P K mg C D cc cda m g) (hm : (m == ("__class__" : Str)) = false)
    (lk : K.lookup f = some ⟨oc, od, .func (PySem.W.ksFn name qual params body scope dV kV doc pm an (.ref cda) ct cc), osl⟩) (hcd : PySem.W.codeIn K (.ref cda) qual = true) (S : SScope N scope) (hN : N = self :: N')
    (hpar : (params.posonlyargs ++ params.args).head? = some ar) (har : ar.arg = self)
    (hbd : body = .Expr (.Call (.Attribute (.Call (.Name "super" p0) [] [] p1) m p2) (e0 :: es) [] p3) p4 :: rest)
    (hcall : ∀ env : Env, eval (.Call (.Attribute (.Call (.Name "super" p0) [] [] p1) m p2) (e0 :: es) [] p3) env = (do
      let ov ← attributeBase (.Call (.Name "super" p0) [] [] p1) m env (eval (.Call (.Name "super" p0) [] [] p1) env)
      standAt p2.atName
      let (f, first) ← holding [ov] (getMethod ov m pl)
      callWith p3 f first (backTo p3 (starEach (e0 :: es) env)) []))
    (hsw : ∀ env : Env, swapsWith (.Call (.Attribute (.Call (.Name "super" p0) [] [] p1) m p2) (e0 :: es) [] p3) none p4.line env = pure false)
    (hst : ∀ env : Env, starEach (e0 :: es) env = (false, eval e0 env) :: starEach es env) (hpl : ∀ env : Env, (backTo p3 (starEach es env)).any (·.1) = false)
    (len : ∀ vs H Q E, sp vs H Q E → vs.length = N.length)
    (hbody : ∀ (A : Around) (outer : List Env) (s : Shared) (H : Hp) (vs : List V) (Q : VK) (E : XK), Room k (A.deeper (PySem.W.ksEnv qual scope s.heap.objs.size f (.ref cda) cc)) → sp vs H Q E →
      ∃ (ta : TA) (t : TS) (sp' : Sp) (j : Nat) (E' : XK) (CX' : CXT), PA (cxS CX P w K mg base N qual scope f cc (.ref cda) A outer s H E) (e0 :: es) ta ∧ PSs (cxS CX P w K mg base N qual scope f cc (.ref cda) A outer s H E) rest t ∧
        FnR P w K mg base CX' j g sp' ∧ Room j (A.deeper (PySem.W.ksEnv qual scope s.heap.objs.size f (.ref cda) cc)) ∧ Passes CX' (cxS CX P w K mg base N qual scope f cc (.ref cda) A outer s H E) E' ∧
        ∃ a dx fs, vs[0]? = some (.ref a) ∧ H a = some (.ins C dx fs) ∧ tSeq (tSupP a sp' E' ta) t { nx := fun _ H' => Q .non H', rt := Q } (vs.map some) H) :
    FnOk P w K mg base CX (k + 1) f (PySem.W.ksFn name qual params body scope dV kV doc pm an (.ref cda) ct cc) N sp := by
  refine ⟨len, fun A outer s H args us vs Q E hr e0' hb r hsp => ?_⟩
  have hl := len _ _ _ _ hsp
  have KX : K.In s.heap := e0'.mod.kin.keeps fun b o e => (e0'.bs b o e).1
  have lim : s.heap.NoLimit := e0'.mod.nolimit.keeps fun b o e => (e0'.bs b o e).1
  obtain ⟨cl, cld, csl, hcell⟩ := T.cell
  obtain ⟨ccl, cdd, vsC, ccs, file, tf, hcode, hvs2, hfile⟩ := T.code
  obtain ⟨cdD, hcdD⟩ := Option.isSome_iff_exists.mp (show (PySem.W.clsIn K D).isSome = true from T.clD)
  obtain ⟨ta, t, sp', j, E', CX', hpa, hps, FG, hrj, hx, a, dx, fs, ha0, hea, hq⟩ := hbody A outer s H vs Q E (hr.deeper _) hsp
  refine ks_codeAny_call_defAt (fd := PySem.W.ksFn name qual params body scope dV kV doc pm an (.ref cda) ct cc) (body := body) (binds := N.zip us) hr.depth (KX _ _ lk) rfl lim (PySem.W.codeRec_of KX hcd) rfl hb S.nocell (fun y hy => S.par y.1 (List.of_mem_zip (a := y.1) (b := y.2) hy).1) (fun h1 hns hk => ?_) S.co S.gen S.kind
  have I : Inv (cxS CX P w K mg base N qual scope f cc (.ref cda) A outer s H E) [] (vs.map some) H { s with heap := h1, toks := s.toks + (N.zip us).length } := inv_s S hr.hd e0' hl r hcell hns hk
  subst hbd
  subst hN
  have ka0 : ∃ u0 us', us = u0 :: us' := by
    cases us with
    | nil => have q := r.length; rw [hl] at q; exact absurd q (by simp)
    | cons u0 us' => exact ⟨u0, us', rfl⟩
  obtain ⟨u0, us', rfl⟩ := ka0
  have hu0 : u0 = Value.ref a := by
    cases r with
    | cons r0 rt =>
      rw [List.getElem?_cons_zero] at ha0
      cases ha0
      exact r0
  subst hu0
  have hL : ((self :: N').zip (Value.ref a :: us')).reverse.lookup self = some (Value.ref a) := rev_get (by rw [← r.length]; exact hl.symm) S.nd (i := 0) rfl rfl
  have hself : scope.names.lookup self = some .local := S.par self List.mem_cons_self
  generalize hs1 : s.toks + ((self :: N').zip (Value.ref a :: us')).length = tk1 at I ⊢
  obtain ⟨hp0, gs, d, tk, os⟩ := s
  let env := PySem.W.ksEnv qual scope hp0.objs.size f (.ref cda) cc
  show PySem.wpAt (model P w) (A.deeper env) (.func (.Expr (.Call (.Attribute (.Call (.Name "super" p0) [] [] p1) m p2) (e0 :: es) [] p3) p4 :: rest) env) (execs (.Expr (.Call (.Attribute (.Call (.Name "super" p0) [] [] p1) m p2) (e0 :: es) [] p3) p4 :: rest) env) _ _ _
  have hint : interactive env = false := by
    unfold interactive
    rw [show env.scope.kind = ScopeKind.function from S.kind]
    rfl
  refine ks_wpAt_execs_cons (ks_wpAt_Expr_any (ks_wpAt_MethodCall (pl := pl) ?_ (hcall env)) hint (hsw env))
  have KX1 : K.In h1 := KX.keeps hk
  obtain ⟨oD, hD1, hD2⟩ : ∃ oD, h1.get? D = some oD ∧ oD.data = .cls cdD := by
    unfold PySem.W.clsIn at hcdD
    split at hcdD
    · rename_i c d cd' sl ho
      cases hcdD
      exact ⟨_, KX1 _ _ ho, rfl⟩
    · cases hcdD
  refine ks_wpAt_super_base (env := env) S.sup S.cls hm rfl (hk _ _ (KX _ _ lk)) rfl hpar rfl (hk _ _ (KX _ _ hcode)) rfl hvs2 hfile T.noTop ?_
  obtain ⟨mb, hb1, hb2⟩ := I.mod.blt
  have hbs : mb ("super" : Str) = some (.type "super") := (hb2 _ (by decide)).trans (by decide +kernel)
  refine PySem.W.ks_loadName_global (env := env) S.kind S.sup (Calls.loadGlobal_builtin (env := env) (I.mod.glob.keeps I.bk) T.noMg (hb1.keeps I.bk) hbs ⟨rfl, ?_⟩)
  refine wpAny_loadName_free (env := env) S.kind S.cls rfl ⟨_, hk _ _ (KX _ _ hcell), rfl⟩ ?_
  rw [har]
  refine wpAny_loadName_local (env := env) S.kind hself hns hL ?_
  obtain ⟨mA, O, _, _, _, _⟩ := ins_get I.hok hea
  obtain ⟨odx, J, _⟩ := O.look
  refine ks_wpAny_isType_cls hD1 hD2 ⟨rfl, ?_⟩
  refine ks_wpAny_call_super hD1 hD2 J.at_ J.cls (fun c e => ?_) (PySem.W.looks_mroIn KX1 T.sub) (fun h2 e2 k2 => ?_)
  · have := J.no
    unfold PySem.W.notCls at this
    rw [e] at this
    exact Bool.noConfusion this
  have I1 : Inv (cxS CX P w K mg base (self :: N') qual scope f cc (.ref cda) A outer ⟨hp0, gs, d, tk, os⟩ H E) [] (vs.map some) H ⟨h2, gs, d, tk1, os⟩ := I.kept (t' := tk1) k2
  have KX2 : K.In h2 := KX1.keeps k2
  cases hc : PySem.W.clsIn K C with
  | none =>
    have z := T.sup
    unfold PySem.W.ks_superIn at z
    rw [hc] at z
    cases z
  | some cd =>
    have hsup := T.sup
    unfold PySem.W.ks_superIn at hsup
    rw [hc] at hsup
    obtain ⟨og, hog, hogc⟩ : ∃ og, h2.get? g = some og ∧ og.cls = .type "function" := by
      have ht' : (K.lookup g).map (·.cls) = some (.type "function") := T.fnc
      cases z : K.lookup g with
      | none => rw [z] at ht'; cases ht'
      | some og => rw [z] at ht'; exact ⟨og, KX2 _ _ z, Option.some.inj ht'⟩
    refine ks_wpAny_getMethod_super e2 (PySem.W.looks_opaque KX2 T.any) (l₀ := cd.mro) (fun A Q E s k q => wpAny_bind ((PySem.W.looks_clsIn KX2 hc) A _ E s k (wpAny_pure q))) rfl KX2 hsup hog hogc (PySem.W.ks_ne KX1 J hc) hm ?_
    have I2 := ClX.met_new (g := g) (C := a) I1
    refine ClX.callwith_cm I2 (ClX.base_none I1 (Nat.le_refl _)) T.fi (thn (hpa.run p3 _ _ (vs.map some) H _ I2 hq) fun us3 s3 hh => ?_) (hst env) (hpl env)
    obtain ⟨vs3, H3, I3, r3, q3⟩ := hh
    refine ⟨⟨ClX.pin_at I3, I3.kIn⟩, ?_⟩
    refine thn (ClX.run_cm FG hrj hx I3 r3 q3) fun u4 s4 h4 => ?_
    obtain ⟨v4, H4, J0, r4, q4⟩ := h4
    refine PySem.wpAt_of_wpAny ?_
    refine wpAny_mono (hps.run [] _ (vs.map some) H4 _ J0 q4) (fun fl s' hs => ?_) fun e s' hs => hs
    have fin : ∀ {σ' : L2.St} {H' : Hp} {v : V} {u : Value}, Inv (cxS CX P w K mg base (self :: N') qual scope f cc (.ref cda) A outer ⟨hp0, gs, d, tk, os⟩ H E) [] σ' H' s' → RelV v u → Q v H' → CE outer P w H ⟨hp0, gs, d, tk, os⟩ Q u s' :=
      fun {σ' H' v u} J rv q => ⟨v, H', J.os, J.bare, J.base, J.hok, rv, q⟩
    cases fl with
    | ret u =>
      obtain ⟨v, σ', H', J, rv, q⟩ := hs
      exact fin J rv q
    | next =>
      obtain ⟨σ', H', J, q⟩ := hs
      exact fin (v := V.non) (u := Value.none) J rfl q
    | brk =>
      obtain ⟨_, _, _, q⟩ := hs
      exact False.elim q
    | cont =>
      obtain ⟨_, _, _, q⟩ := hs
      exact False.elim q
end Vk
set_option Elab.async false
set_option linter.all false
set_option maxRecDepth 100000
set_option maxHeartbeats 2000000
namespace Vk
open PySem PySem.Spec PyProof.Rows L2
/-! X56: super().m(..) as an expression, at the start of a def's body -/
section
variable {M : Model} {A : Around} {c : Code} {E : Value → Shared → Prop} {s : Shared}
theorem spliced_at {m : Sem Value} {Q : List Value → Shared → Prop} (h : PySem.wpAt M A c m (fun v s1 => Q [v] s1) E s) : PySem.wpAt M A c (spliced [(false, m)]) Q E s := by
  unfold spliced
  refine PySem.wpAt_bind (PySem.wpAt_mono h (fun v s1 q => PySem.wpAt_of_wpAny ?_) fun _ _ x => x)
  unfold spliced
  exact wpAny_bind (wpAny_pure (wpAny_bind (wpAny_holding (wpAny_pure (wpAny_pure q)))))
theorem evalArgs_at {f : Value} {m : Sem Value} {Q : Args → Shared → Prop} (h : PySem.wpAt M A c m (fun v s1 => Q ⟨[v], []⟩ s1) E s) : PySem.wpAt M A c (evalArgs f true [(false, m)] []) Q E s := by
  unfold evalArgs
  show PySem.wpAt M A c (spliced [(false, m)] >>= _) Q E s
  refine PySem.wpAt_bind (spliced_at (PySem.wpAt_mono h (fun v s1 q => PySem.wpAt_of_wpAny ?_) fun _ _ x => x))
  exact wpAny_holding (wpAny_bind (wpAny_pure (wpAny_bind (wpAny_pure (wpAny_pure q)))))
theorem evalArgs_pure {f v : Value} {Γ : PySem.Ctx} {p : Pos} {Q : Args → Pos → Shared → Prop} {R : Value → Pos → Shared → Prop} (h : Sem.wp M Γ (evalArgs f true [(false, pure v)] []) Q R p s) : Q ⟨[v], []⟩ p s := by
  simpa [evalArgs, spliced, evalAll] using h
theorem callWith_at {pos : Pos} {f : Value} {m : Sem Value} {Q : Value → Shared → Prop} (h : PySem.wpAt M A c m (fun v s1 => wpAny M A (callWith pos f [] [(false, pure v)] []) Q E s1) E s) : PySem.wpAt M A c (callWith pos f [] [(false, m)] []) Q E s := by
  unfold callWith
  refine PySem.wpAt_bind (ks_wpAt_holding (evalArgs_at (PySem.wpAt_mono h (fun v s1 q => PySem.wpAt_of_wpAny ?_) fun _ _ x => x)))
  unfold callWith at q
  intro Γ p hΓ
  have z := q Γ p hΓ
  rw [Sem.wp_bind', Sem.wp_holding] at z
  exact evalArgs_pure z
end
/-- an expression, a statement, a body that is run where the def's code is known -/
def PEA (X : Cx) (b0 : List Stmt) (e : Expr) (t : TE) : Prop := ∀ (s : Shared) (σ : L2.St) (H : Hp) (Q : VK), Inv X [] σ H s → t σ H Q → PySem.wpAt (model X.prog X.w) X.A (.func b0 X.env) (eval e X.env) (EP X [] σ Q) X.xe s
def PSA (X : Cx) (b0 : List Stmt) (st : Stmt) (t : TS) : Prop := ∀ (s : Shared) (σ : L2.St) (H : Hp) (D : Ends), Inv X [] σ H s → t D σ H → PySem.wpAt (model X.prog X.w) X.A (.func b0 X.env) (exec st X.env) (SP X [] D) X.xe s
def PBA (X : Cx) (b0 sts : List Stmt) (t : TS) : Prop := ∀ (s : Shared) (σ : L2.St) (H : Hp) (D : Ends), Inv X [] σ H s → t D σ H → PySem.wpAt (model X.prog X.w) X.A (.func b0 X.env) (execs sts X.env) (SP X [] D) X.xe s
section
variable {X : Cx} {b0 : List Stmt} {st : Stmt} {sts : List Stmt} {t u : TS} {e f : Expr} {te tf : TE} {pos : Pos}
theorem pba_plain (h : PSs X sts t) : PBA X b0 sts t := fun s σ H D I q => PySem.wpAt_of_wpAny (h.run [] s σ H D I q)
theorem pba_cons (h : PSA X b0 st t) (r : PSs X sts u) : PBA X b0 (st :: sts) (tSeq t u) := fun s σ H D I q => by
  refine ks_wpAt_execs_cons (PySem.wpAt_mono (h s σ H _ I q) (fun fl s1 z => ?_) fun _ _ x => x)
  cases fl with
  | next =>
    obtain ⟨σ1, H1, I1, q1⟩ := z
    exact PySem.wpAt_of_wpAny (r.run [] s1 σ1 H1 D I1 q1)
  | ret v => exact z
  | brk => exact z
  | cont => exact z
theorem psa_ret (h : PEA X b0 e te) : PSA X b0 (.Return (some e) pos) (tRet te) := fun s σ H D I q =>
  ks_wpAt_Return_some (PySem.wpAt_mono (h s σ H _ I q) (fun v s1 ⟨x, H1, I1, r1, q1⟩ => ⟨x, σ, H1, I1, r1, q1⟩) fun _ _ x => x)
theorem psa_set {i : Nat} {x : Str} {pos' : Pos} (hN : X.N.Nodup) (hi : X.N[i]? = some x) (hx : Loc X.env.scope x) (h : PEA X b0 e te) (hs : swapsWith e (some (.Name x pos')) pos.line X.env = pure false := by rfl)
    (hf : X.fn x = true ∨ X.env.scope.names.lookup x = some .local := by first | exact .inl rfl | exact .inr rfl | assumption) : PSA X b0 (.Assign [.Name x pos'] e pos) (tAsg te (gName i)) := fun s σ H D I q =>
  ks_wpAt_Assign_Name (PySem.wpAt_mono (h s σ H _ I q) (fun v s1 ⟨y, H1, I1, r1, q1⟩ => store_ok I1 hN hi hx r1 (fun s2 I2 => ⟨_, H1, I2, q1⟩) hf) fun _ _ x => x) hs
theorem psa_expr (h : PEA X b0 e te) (hi : interactive X.env = false := by rfl) (hs : swapsWith e none pos.line X.env = pure false := by rfl) : PSA X b0 (.Expr e pos) (tDrop te) := fun s σ H D I q =>
  ks_wpAt_Expr_any (PySem.wpAt_mono (h s σ H _ I q) (fun v s1 ⟨y, H1, I1, r1, q1⟩ => ⟨σ, H1, I1, q1⟩) fun _ _ x => x) hi hs
theorem pea_bin {op : Operator} {r : R2} (ho : OpR X (binaryOp op) r) (h : PEA X b0 e te) (h2 : PE X f tf) : PEA X b0 (.BinOp e op f pos) (tOp r te tf) := fun s σ H Q I q =>
  ks_wpAt_BinOp (PySem.wpAt_mono (h s σ H _ I q) (fun v s1 ⟨y, H1, I1, r1, q1⟩ => thn (h2.run [] s1 σ H1 _ I1 q1) fun u s2 ⟨z, H2, I2, r2, q2⟩ => ho [] s2 σ H2 y z v u Q I2 r1 r2 q2) fun _ _ x => x)
/-- g(e), g an own def, e at the start -/
def tCall1 (sp : Sp) (E : XK) (te : TE) : TE := fun σ H Q => te σ H fun x H1 => sp [x] H1 Q E
theorem pea_call {CX : CXT} {k : Nat} {g : Addr} {fd : FuncData} {ps : List Str} {sp : Sp} {E : XK} {x : Str} {p : Pos} (F : FnOk X.prog X.w X.K X.mg X.base CX k g fd ps sp) (hr : Room k X.A) (hg : Gl X x) (hm : X.mg x = some (.ref g)) (hk : PySem.W.keepIn X.K (.ref g) = true) (hb : Binds X.K fd ps []) (hx : Passes CX X E)
    (h : PEA X b0 e te) (hdb : (x == ("__debug__" : Str)) = false := by decide) (he : starEach [e] X.env = [(false, eval e X.env)] := by rfl) : PEA X b0 (.Call (.Name x p) [e] [] pos) (tCall1 sp E te) := fun s σ H Q I q => by
  rw [arm_eval_Call_Name']
  refine PySem.wpAt_bind (PySem.wpAt_of_wpAny (ld_glob I hg hm ?_ hdb))
  rw [he]
  show PySem.wpAt _ _ _ (callWith pos (.ref g) [] [(false, eval e X.env)] []) _ _ _
  refine callWith_at (PySem.wpAt_mono (h s σ H _ I q) (fun v s1 ⟨y, H1, I1, r1, q1⟩ => ?_) fun _ _ x => x)
  refine PySem.W.callWith_of (P := fun h => X.K.In h) rfl (PySem.W.keeps_K hk) (Calls.evalArgs_plain ?_)
  unfold spliced
  refine wpAny_bind (wpAny_pure (wpAny_bind (wpAny_pure (wpAny_bind (wpAny_holding ?_)))))
  unfold spliced
  refine wpAny_pure (wpAny_pure ⟨I1.kIn, ?_⟩)
  have q2 : sp ([y] ++ []) H1 Q E := q1
  exact run_fn (us := [v]) F hr hb .nil hx I1 (.cons r1 .nil) q2
end
end Vk
set_option Elab.async false
set_option linter.all false
set_option maxRecDepth 100000
set_option maxHeartbeats 4000000
namespace Vk
open PySem PySem.Spec PyProof.Rows L2
/-! X57: super().m(..): the rule, and defs of classes that say super() -/
/-- the scope of such a def: parameters ps, all its names N -/
structure SSc (N ps : List Str) (sc : Scope) : Prop where
  kind : sc.kind = .function
  co : sc.isCoroutine = false
  gen : sc.isGenerator = false
  nd : N.Nodup
  pre : N.take ps.length = ps
  par : ∀ x ∈ N, sc.names.lookup x = some .local
  nocell : ∀ x ∈ sc.names, x.2 ≠ .cell
  free : ∀ x, sc.names.lookup x = some .free → x = "__class__"
  sup : sc.names.lookup ("super" : Str) = some .globalImplicit
  cls : sc.names.lookup ("__class__" : Str) = some .free
theorem inv_sc {CX : CXT} {P : Program} {w : World} {K : PySem.W.Frag} {mg : Str → Option Value} {base : Heap} {N ps : List Str} {qual : Str} {scope : Scope} {f cc : Addr} {cd : Value} {A : Around} {outer : List Env} {s : Shared} {H : Hp} {E : XK} {us : List Value} {vs : List V} {h1 : Heap} {tk : Nat} {oc : Value} {ocd : Option Addr} {osl : Array (Option Value)} {cv : Option Value}
    (S : SSc N ps scope) (hd : A.handled = none) (e0 : Env0 P w K mg base A outer s H) (hl : vs.length = ps.length) (r : Vals vs us) (hcell : K.lookup cc = some ⟨oc, ocd, .cell cv, osl⟩)
    (hns : h1.Ns s.heap.objs.size (fun x => (ps.zip us).reverse.lookup x)) (hk : ∀ b o, s.heap.get? b = some o → h1.get? b = some o) :
    Inv (cxS CX P w K mg base N qual scope f cc cd A outer s H E) [] (L2.start N vs) H { s with heap := h1, toks := tk } := by
  have hpl : ps.length ≤ N.length := by have := congrArg List.length S.pre; rw [List.length_take] at this; omega
  have noA : ∀ b : Addr, b ∉ (cxS CX P w K mg base N qual scope f cc cd A outer s H E).ex := fun b z => absurd (show b ∈ ([] : List Addr) from z) (by simp)
  have hcs : ∀ y c, (cxS CX P w K mg base N qual scope f cc cd A outer s H E).env.cells.lookup y = some c → y = "__class__" ∧ c = cc := fun y c h => by
    have h' : List.lookup y [(("__class__" : Str), cc)] = some c := h
    by_cases e : y = "__class__"
    · subst e
      simp [List.lookup] at h'
      exact ⟨rfl, h'.symm⟩
    · have q : (y == ("__class__" : Str)) = false := by simpa using e
      simp [List.lookup, q] at h'
  have hcb : ∃ o, base.get? cc = some o ∧ o.data = .cell cv := ⟨_, e0.mod.kin _ _ hcell, rfl⟩
  obtain ⟨ob, hb1, hb2⟩ := hcb
  refine ⟨⟨e0.mod, S.kind, rfl, rfl, Nat.le_refl _, fun y z c h1 h2 => ?_, fun y hy => ?_, fun y c h _ => absurd h (by show ¬ (false = true); decide), fun _ => hd, Around.frames_deeper e0.frames, .inr ⟨rfl, rfl⟩, fun b z => absurd z (noA b), e0.bs, e0.bsz, fun b _ _ => noA b, fun b z => absurd z (noA b), e0.funs, e0.frf⟩,
    rfl, e0.bare, Un.kept hk, ⟨_, hns, fun i y v h1 h2 h3 => ?_⟩, fun y c h => ?_, e0.hok.fresh (Nat.le_refl _), fun y c h => ?_, fun p hp => absurd (show p ∈ ([] : List (Addr × Obj)) from hp) (by simp), e0.hok.kept hk, ?_⟩
  · exact (hcs y c h1).1.trans (hcs z c h2).1.symm
  · have hy : scope.names.lookup y = some .cell ∨ scope.names.lookup y = some .free := hy
    rcases hy with hy | hy
    · exact absurd rfl (S.nocell _ (PySem.mem_of_lookup hy))
    · have e := S.free y hy
      subst e
      exact ⟨cc, by show List.lookup ("__class__" : Str) [(("__class__" : Str), cc)] = _; simp [List.lookup]⟩
  · have h1' : N[i]? = some y := h1
    have hi : i < vs.length := by
      unfold L2.start at h2
      by_cases hi : i < vs.length
      · exact hi
      · rw [List.getElem?_append_right (by simpa using hi), List.getElem?_replicate] at h2
        split at h2 <;> cases h2
    have ha : vs[i]? = some v := by
      unfold L2.start at h2
      rw [List.getElem?_append_left (by simpa using hi), List.getElem?_map] at h2
      cases e : vs[i]? with
      | none => rw [e] at h2; cases h2
      | some a => rw [e] at h2; cases h2; rfl
    obtain ⟨u, hu, rv⟩ := r.get ha
    have hp : ps[i]? = some y := by rw [← S.pre, List.getElem?_take_of_lt (by omega)]; exact h1'
    have ndP : ps.Nodup := by rw [← S.pre]; exact S.nd.sublist (List.take_sublist _ _)
    exact ⟨u, rv, .inl ⟨S.par y (List.mem_of_getElem? h1'), rev_get (hl.symm.trans r.length) ndP hp hu⟩⟩
  · obtain ⟨_, rfl⟩ := hcs y c h
    exact ⟨cv, ob, hk _ _ (e0.bs _ _ hb1).1, hb2⟩
  · obtain ⟨_, rfl⟩ := hcs y c h
    exact (e0.bs _ _ hb1).2
  · unfold L2.start
    show _ = N.length
    rw [List.length_append, List.length_map, List.length_replicate]
    omega
/-- super().m(e, ..): the next m of the object's class behind D -/
def tSupI (C : Addr) (sp : Sp) (E : XK) (t : TA) : TE := fun σ H Q => ∃ a dx fs, σ[0]? = some (some (.ref a)) ∧ H a = some (.ins C dx fs) ∧ t σ H fun vs H1 => sp (.ref a :: vs) H1 Q E
section
variable {CX : CXT} {P : Program} {w : World} {K : PySem.W.Frag} {mg : Str → Option Value} {base : Heap} {j k : Nat} {f C D cc cda g : Addr} {name qual self m : Str} {params : Arguments} {body : List Stmt} {scope : Scope} {dV kV doc pm ct oc : Value} {an od : Option Addr}
    {osl : Array (Option Value)} {N ps N' : List Str} {sp : Sp} {e0 : Expr} {es : List Expr} {p0 p1 p2 p3 p4 : Pos} {ar : Arg} {pl : Sem Bool} {A : Around} {outer : List Env} {s0 : Shared} {H0 : Hp} {E : XK} {CX' : CXT} {E' : XK} {ta : TA}
theorem pea_super (T : SupP P K mg C D cc cda m g) (hm : (m == ("__class__" : Str)) = false)
    (lk : K.lookup f = some ⟨oc, od, .func (PySem.W.ksFn name qual params body scope dV kV doc pm an (.ref cda) ct cc), osl⟩) (S : SSc N ps scope) (hN : N = self :: N')
    (hpar : (params.posonlyargs ++ params.args).head? = some ar) (har : ar.arg = self)
    (F : FnR P w K mg base CX' j g sp) (hr : Room j (A.deeper (PySem.W.ksEnv qual scope s0.heap.objs.size f (.ref cda) cc))) (hx : Passes CX' (cxS CX P w K mg base N qual scope f cc (.ref cda) A outer s0 H0 E) E')
    (ha : PA (cxS CX P w K mg base N qual scope f cc (.ref cda) A outer s0 H0 E) (e0 :: es) ta) {b0 : List Stmt}
    (hcall : eval (.Call (.Attribute (.Call (.Name "super" p0) [] [] p1) m p2) (e0 :: es) [] p3) (PySem.W.ksEnv qual scope s0.heap.objs.size f (.ref cda) cc) = (do
      let ov ← attributeBase (.Call (.Name "super" p0) [] [] p1) m (PySem.W.ksEnv qual scope s0.heap.objs.size f (.ref cda) cc) (eval (.Call (.Name "super" p0) [] [] p1) (PySem.W.ksEnv qual scope s0.heap.objs.size f (.ref cda) cc))
      standAt p2.atName
      let (f', first) ← holding [ov] (getMethod ov m pl)
      callWith p3 f' first (backTo p3 (starEach (e0 :: es) (PySem.W.ksEnv qual scope s0.heap.objs.size f (.ref cda) cc))) []) := by rfl)
    (hst : starEach (e0 :: es) (PySem.W.ksEnv qual scope s0.heap.objs.size f (.ref cda) cc) = (false, eval e0 (PySem.W.ksEnv qual scope s0.heap.objs.size f (.ref cda) cc)) :: starEach es (PySem.W.ksEnv qual scope s0.heap.objs.size f (.ref cda) cc) := by rfl)
    (hpl : (backTo p3 (starEach es (PySem.W.ksEnv qual scope s0.heap.objs.size f (.ref cda) cc))).any (·.1) = false := by rfl) :
    PEA (cxS CX P w K mg base N qual scope f cc (.ref cda) A outer s0 H0 E) b0 (.Call (.Attribute (.Call (.Name "super" p0) [] [] p1) m p2) (e0 :: es) [] p3) (tSupI C sp E' ta) := by
  intro s σ H Q I q
  obtain ⟨a, dx, fs, h0, hea, q⟩ := q
  obtain ⟨cl, cld, csl, hcell⟩ := T.cell
  obtain ⟨ccl, cdd, vsC, ccs, file, tf, hcode, hvs2, hfile⟩ := T.code
  obtain ⟨cdD, hcdD⟩ := Option.isSome_iff_exists.mp (show (PySem.W.clsIn K D).isSome = true from T.clD)
  have KX : K.In s.heap := I.kIn
  refine ks_wpAt_MethodCall (pl := pl) ?_ hcall
  obtain ⟨oD, hD1, hD2⟩ : ∃ oD, s.heap.get? D = some oD ∧ oD.data = .cls cdD := by
    unfold PySem.W.clsIn at hcdD
    split at hcdD
    · rename_i c d cd' sl ho
      cases hcdD
      exact ⟨_, KX _ _ ho, rfl⟩
    · cases hcdD
  refine ks_wpAt_super_base (env := PySem.W.ksEnv qual scope s0.heap.objs.size f (.ref cda) cc) S.sup S.cls hm rfl (KX _ _ lk) rfl hpar rfl (KX _ _ hcode) rfl hvs2 hfile T.noTop ?_
  obtain ⟨mb, hb1, hb2⟩ := I.mod.blt
  have hbs : mb ("super" : Str) = some (.type "super") := (hb2 _ (by decide)).trans (by decide +kernel)
  refine PySem.W.ks_loadName_global (env := PySem.W.ksEnv qual scope s0.heap.objs.size f (.ref cda) cc) S.kind S.sup (Calls.loadGlobal_builtin (env := PySem.W.ksEnv qual scope s0.heap.objs.size f (.ref cda) cc) (I.mod.glob.keeps I.bk) T.noMg (hb1.keeps I.bk) hbs ⟨rfl, ?_⟩)
  refine wpAny_loadName_free (env := PySem.W.ksEnv qual scope s0.heap.objs.size f (.ref cda) cc) S.kind S.cls rfl ⟨_, KX _ _ hcell, rfl⟩ ?_
  rw [har]
  have hself : scope.names.lookup self = some .local := S.par self (by rw [hN]; exact List.mem_cons_self)
  obtain ⟨mL, hnL, hlL⟩ := I.loc
  have hN0 : N[0]? = some self := by rw [hN]; rfl
  obtain ⟨u, ru, lu⟩ := hlL 0 self (.ref a) hN0 h0 (.inl hself)
  obtain rfl : u = Value.ref a := ru
  have lu2 : mL self = some (.ref a) := by
    rcases lu with ⟨_, h⟩ | ⟨h, _⟩
    · exact h
    · have h : scope.names.lookup self = some .cell ∨ scope.names.lookup self = some .free := h
      rw [hself] at h
      simp at h
  refine wpAny_loadName_local (env := PySem.W.ksEnv qual scope s0.heap.objs.size f (.ref cda) cc) S.kind hself hnL lu2 ?_
  obtain ⟨mA, O, _, _, _, _⟩ := ins_get I.hok hea
  obtain ⟨odx, J, _⟩ := O.look
  refine ks_wpAny_isType_cls hD1 hD2 ⟨rfl, ?_⟩
  refine ks_wpAny_call_super hD1 hD2 J.at_ J.cls (fun c e => ?_) (PySem.W.looks_mroIn KX T.sub) (fun h2 e2 k2 => ?_)
  · have := J.no
    unfold PySem.W.notCls at this
    rw [e] at this
    exact Bool.noConfusion this
  have I1 : Inv (cxS CX P w K mg base N qual scope f cc (.ref cda) A outer s0 H0 E) [] σ H { s with heap := h2 } := I.kept (t' := s.toks) k2
  have KX2 : K.In h2 := KX.keeps k2
  cases hc : PySem.W.clsIn K C with
  | none =>
    have z := T.sup
    unfold PySem.W.ks_superIn at z
    rw [hc] at z
    cases z
  | some cd =>
    have hsup := T.sup
    unfold PySem.W.ks_superIn at hsup
    rw [hc] at hsup
    obtain ⟨og, hog, hogc⟩ : ∃ og, h2.get? g = some og ∧ og.cls = .type "function" := by
      have ht' : (K.lookup g).map (·.cls) = some (.type "function") := T.fnc
      cases z : K.lookup g with
      | none => rw [z] at ht'; cases ht'
      | some og => rw [z] at ht'; exact ⟨og, KX2 _ _ z, Option.some.inj ht'⟩
    refine ks_wpAny_getMethod_super e2 (PySem.W.looks_opaque KX2 T.any) (l₀ := cd.mro) (fun A Q E s k q => wpAny_bind ((PySem.W.looks_clsIn KX2 hc) A _ E s k (wpAny_pure q))) rfl KX2 hsup hog hogc (PySem.W.ks_ne KX J hc) hm ?_
    have I2 := ClX.met_new (g := g) (C := a) I1
    refine ClX.callwith_cm I2 (ClX.base_none I1 (Nat.le_refl _)) T.fi (thn (ha.run p3 _ _ σ H _ I2 q) fun us3 s3 hh => ?_) hst hpl
    obtain ⟨vs3, H3, I3, r3, q3⟩ := hh
    refine ⟨⟨ClX.pin_at I3, I3.kIn⟩, ?_⟩
    exact ClX.run_cm F hr hx I3 r3 q3
/-- a def of a class whose body says super() -/
theorem fn_sup {cell : Option Value} (hcell : ∃ cl cld csl, K.lookup cc = some ⟨cl, cld, .cell cell, csl⟩)
    (lk : K.lookup f = some ⟨oc, od, .func (PySem.W.ksFn name qual params body scope dV kV doc pm an (.ref cda) ct cc), osl⟩) (hcd : PySem.W.codeIn K (.ref cda) qual = true) (S : SSc N ps scope)
    (len : ∀ vs H Q E, sp vs H Q E → vs.length = ps.length)
    (hbody : ∀ (A : Around) (outer : List Env) (s : Shared) (H : Hp) (vs : List V) (Q : VK) (E : XK), Room k (A.deeper (PySem.W.ksEnv qual scope s.heap.objs.size f (.ref cda) cc)) → sp vs H Q E →
      ∃ t : TS, PBA (cxS CX P w K mg base N qual scope f cc (.ref cda) A outer s H E) body body t ∧ t { nx := fun _ H' => Q .non H', rt := Q } (L2.start N vs) H) :
    FnOk P w K mg base CX (k + 1) f (PySem.W.ksFn name qual params body scope dV kV doc pm an (.ref cda) ct cc) ps sp := by
  refine ⟨len, fun A outer s H args us vs Q E hr e0' hb r hsp => ?_⟩
  have hl := len _ _ _ _ hsp
  have KX : K.In s.heap := e0'.mod.kin.keeps fun b o e => (e0'.bs b o e).1
  have lim : s.heap.NoLimit := e0'.mod.nolimit.keeps fun b o e => (e0'.bs b o e).1
  obtain ⟨cl, cld, csl, hcell⟩ := hcell
  obtain ⟨t, hps, hq⟩ := hbody A outer s H vs Q E (hr.deeper _) hsp
  have sub : ∀ y ∈ ps.zip us, scope.names.lookup y.1 = some .local := fun y hy => S.par y.1 (List.mem_of_mem_take (S.pre ▸ (List.of_mem_zip (a := y.1) (b := y.2) hy).1))
  refine ks_codeAny_call_defAt (fd := PySem.W.ksFn name qual params body scope dV kV doc pm an (.ref cda) ct cc) (body := body) (binds := ps.zip us) hr.depth (KX _ _ lk) rfl lim (PySem.W.codeRec_of KX hcd) rfl hb S.nocell sub (fun h1 hns hk => ?_) S.co S.gen S.kind
  have I : Inv (cxS CX P w K mg base N qual scope f cc (.ref cda) A outer s H E) [] (L2.start N vs) H { s with heap := h1, toks := s.toks + (ps.zip us).length } := inv_sc S hr.hd e0' hl r hcell hns hk
  refine PySem.wpAt_mono (hps _ _ H _ I hq) (fun fl s' hs => ?_) fun e s' hs => hs
  have fin : ∀ {σ' : L2.St} {H' : Hp} {v : V} {u : Value}, Inv (cxS CX P w K mg base N qual scope f cc (.ref cda) A outer s H E) [] σ' H' s' → RelV v u → Q v H' → CE outer P w H s Q u s' :=
    fun {σ' H' v u} J rv q => ⟨v, H', J.os, J.bare, J.base, J.hok, rv, q⟩
  cases fl with
  | ret u =>
    obtain ⟨v, σ', H', J, rv, q⟩ := hs
    exact fin J rv q
  | next =>
    obtain ⟨σ', H', J, q⟩ := hs
    exact fin (v := V.non) (u := Value.none) J rfl q
  | brk =>
    obtain ⟨_, _, _, q⟩ := hs
    exact False.elim q
  | cont =>
    obtain ⟨_, _, _, q⟩ := hs
    exact False.elim q
end
end Vk
set_option Elab.async false
set_option linter.all false
set_option maxRecDepth 100000
set_option maxHeartbeats 4000000
namespace Vk
open PySem PySem.Spec PyProof.Rows L2
/-! X58: o.m(..) and o.f where o's class is one of a family; what is raised is wished for at the slots -/
def tMethFam (n : Nat) (C : Nat → Addr) (m : Str) (sp : Nat → Sp) (E : L2.St → XK) (ta : TE) (t : TA) : TE := fun σ H Q => ta σ H fun x H1 => ∃ i a dx fs, i < n ∧ x = .ref a ∧ H1 a = some (.ins (C i) dx fs) ∧ fs.lookup m = none ∧ t σ H1 fun vs H2 => sp i (x :: vs) H2 Q (E σ)
def tPropFam (n : Nat) (C : Nat → Addr) (sp : Nat → Sp) (E : XK) (ta : TE) : TE := fun σ H Q => ta σ H fun x H1 => ∃ i a dx fs, i < n ∧ x = .ref a ∧ H1 a = some (.ins (C i) dx fs) ∧ sp i [.ref a] H1 Q E
section
variable {X : Cx} {CX : CXT} {k n : Nat} {f p C : Nat → Addr} {fd : Nat → FuncData} {ps : List Str} {sp : Nat → Sp} {E : L2.St → XK} {m : Str} {apos pos : Pos} {o e : Expr} {es : List Expr} {ta : TE} {t : TA}
theorem pe_methFam {pl : Sem Bool} (he : PE X o ta) (c : ∀ i, i < n → Cls X.K (C i)) (hm : ∀ i, i < n → Meth X.K (C i) m (f i)) (F : ∀ i, i < n → FnOk X.prog X.w X.K X.mg X.base CX k (f i) (fd i) ps (sp i)) (hr : Room k X.A) (hb : ∀ i, i < n → Binds X.K (fd i) ps []) (hx : ∀ σ, PassesAt CX X σ (E σ)) (ha : PA X (e :: es) t)
    (hst : starEach (e :: es) X.env = (false, eval e X.env) :: starEach es X.env := by rfl) (hpl : (backTo pos (starEach es X.env)).any (·.1) = false := by rfl)
    (ht : eval (.Call (.Attribute o m apos) (e :: es) [] pos) X.env = (do
      let ov ← eval o X.env
      standAt apos.atName
      let (f, first) ← holding [ov] (getMethod ov m pl)
      callWith pos f first (backTo pos (starEach (e :: es) X.env)) (backToKw pos (keywordEach [] X.env))) := by rfl) :
    PE X (.Call (.Attribute o m apos) (e :: es) [] pos) (tMethFam n C m sp E ta t) := by
  refine ⟨fun pins s σ H Q I h => ?_⟩
  refine PySem.W.methodCall_KW (pl := pl) (thn (he.run pins s σ H _ I h) fun u s1 ⟨x, H1, I1, rx, i, a, dx, fs, hi, ex, ea, l, q⟩ => ?_) ht
  subst ex
  obtain rfl : u = Value.ref a := rx
  refine getmeth_ok I1 ea (c i hi) (hm i hi) l ?_
  refine PySem.W.callWith_K (first := [.ref a]) (h₀ := X.base) I.ok.mod.kin (hm i hi).kp (thn (ha.run pos pins s1 σ H1 _ I1 q) fun us s2 ⟨vs, H2, I2, r, q2⟩ => ⟨I2.kIn, ?_⟩) hst hpl
  exact run_fnS (us := .ref a :: us) (vs := .ref a :: vs) (F i hi) hr (hb i hi) (hx σ) I2 (.cons rfl r) q2
theorem pe_propFam {E : XK} {nm : Str} (he : PE X o ta) (c : ∀ i, i < n → Cls X.K (C i)) (hp : ∀ i, i < n → PropOf X.K (C i) nm (p i) (f i)) (F : ∀ i, i < n → FnOk X.prog X.w X.K X.mg X.base CX k (f i) (fd i) ps (sp i)) (hr : Room (k + 1) X.A) (hb : ∀ i, i < n → Binds X.K (fd i) ps []) (hx : Passes CX X.nox E)
    (hab : attributeBase o nm X.env (eval o X.env) = eval o X.env := by rfl) : PE X (.Attribute o nm pos) (tPropFam n C sp E ta) := by
  refine ⟨fun pins s σ H Q I h => ?_⟩
  refine attr_of hab (thn (he.run pins s σ H _ I h) fun u s1 ⟨x, H1, I1, rx, i, a, dx, fs, hi, ex, ea, q⟩ => ?_)
  subst ex
  obtain rfl : u = Value.ref a := rx
  exact getprop_ok I1 ea (c i hi) (hp i hi) (F i hi) hr (hb i hi) .nil hx q
end
theorem iMethFam {n : Nat} {C : Nat → Addr} {m : Str} {sp : Nat → Sp} {E : L2.St → XK} {ta : TE} {t : TA} {σ : L2.St} {H : Hp} {Q : VK} (h : ta σ H fun x H1 => ∃ i a dx fs, i < n ∧ x = .ref a ∧ H1 a = some (.ins (C i) dx fs) ∧ fs.lookup m = none ∧ t σ H1 fun vs H2 => sp i (x :: vs) H2 Q (E σ)) : tMethFam n C m sp E ta t σ H Q := h
theorem iPropFam {n : Nat} {C : Nat → Addr} {sp : Nat → Sp} {E : XK} {ta : TE} {σ : L2.St} {H : Hp} {Q : VK} (h : ta σ H fun x H1 => ∃ i a dx fs, i < n ∧ x = .ref a ∧ H1 a = some (.ins (C i) dx fs) ∧ sp i [.ref a] H1 Q E) : tPropFam n C sp E ta σ H Q := h
/-- what a raising def lets out is what its caller lets out -/
theorem passX {X : Cx} {W : WX} (tk : Takes X W) {E : XK} (hW : ∀ cls d σ H, E cls d H → W cls d σ H) : ∀ σ, PassesAt (L2.CX X.prog X.w) X σ E := fun σ pins H s e s' I c => passes_call tk hW pins σ H s e s' I c
theorem passEA {X : Cx} {P : Program} {w : World} : ∀ σ, PassesAt (L2.CX P w) X σ (fun _ _ _ => False) := fun _ _ _ _ _ _ _ h => by
  obtain ⟨_, _, _, _, _, _, _, _, _, _, _, _, z⟩ := h
  exact z.elim
end Vk
set_option Elab.async false
set_option linter.all false
set_option maxRecDepth 100000
set_option maxHeartbeats 4000000
namespace Vk
open PySem PySem.Spec PyProof.Rows L2
/-! dict(zip(x, y)) of two texts -/
section
variable {prog : Program} {w : World} {A : Around} {E : Value → Shared → Prop} {s : Shared} {z TI TO i1 i2 : Addr} {fp1 fp2 : List Addr} {n1 n2 i : Nat} {P1 P2 : Nat → Value → Prop} {St1 St2 : Nat → Heap → Prop}

theorem held_item {T : Addr} {f : Bool} {oT : Obj} {Q : Value → Shared → Prop} (S : ZipSep2 z TI TO i1 i2 fp1 fp2) (D1 : Draws prog w A i1 fp1 n1 P1 St1) (D2 : Draws prog w A i2 fp2 n2 P2 St2)
    (hz : IsZipHeld s.heap z TI TO T f) (hT : s.heap.get? T = some oT) (hTI : IsTupOf2 s.heap TI (.ref i1) (.ref i2)) (st1 : St1 i s.heap) (st2 : St2 i s.heap) (hlt1 : i < n1) (hlt2 : i < n2)
    (hQ : ∀ x1 x2 h' tk, P1 i x1 → P2 i x2 → IsZipHeld h' z TI TO T true → St1 (i + 1) h' → St2 (i + 1) h' → IsTupOf2 h' s.heap.objs.size x1 x2 →
      (∀ c o, c ≠ z → c ≠ i1 → c ≠ i2 → s.heap.get? c = some o → h'.get? c = some o) → Q (.ref s.heap.objs.size) { s with heap := h', toks := tk }) :
    wpAny (model prog w) A (Builtin.«zip.__next__» ⟨[.ref z], []⟩) (fun fin s' => ∃ v, fin = .done (.ret v) ∧ Q v s') E s := by
  obtain ⟨hp, g, dd, tk0, os⟩ := s
  show wpAny _ _ (field (.ref z) 2 >>= _) _ _ _
  refine wpAny_bind (wpAny_field hz rfl (x := .bool false) rfl ?_)
  show wpAny _ _ (field (.ref z) 3 >>= _) _ _ _
  refine wpAny_bind (wpAny_field hz rfl (x := .ref TI) rfl ?_)
  refine wpAny_bind (wpAny_seqItems hTI rfl ?_)
  show wpAny _ _ (Builtin.SmallTypes.ownedTupleIsFree (.ref z) >>= _) _ _ _
  refine wpAny_bind (wpAny_tupleHeld_zip hz hT fun h₁ hz₁ hs₁ => ?_)
  replace hs₁ : Heap.SameBut z hp h₁ := hs₁
  simp only [Bool.false_eq_true, if_false]
  refine wpAny_bind ?_
  rw [← Array.forIn_toList]
  simp only [List.forIn_cons, List.forIn_nil]
  refine wpAny_bind (wpAny_bind (wpAny_holding ?_))
  show wpAny _ _ (Builtin.SmallTypes.nextOf (.ref i1) >>= _) _ _ ⟨h₁, g, dd, tk0, os⟩
  refine wpAny_bind (D1.item i _ _ _ hlt1 (D1.over st1 hs₁ S.zf1) fun x1 p1 tk1 hx1 sn1 hp1 => wpAny_pure ?_)
  replace hp1 : Heap.SameBut i1 h₁ p1 := hp1
  refine wpAny_pure ?_
  refine wpAny_bind (wpAny_bind (wpAny_holding ?_))
  show wpAny _ _ (Builtin.SmallTypes.nextOf (.ref i2) >>= _) _ _ ⟨p1, g, dd, tk1, os⟩
  refine wpAny_bind (D2.item i _ _ _ hlt2 (D2.over (D2.over st2 hs₁ S.zf2) hp1 S.sep1_2) fun x2 p2 tk2 hx2 sn2 hp2 => wpAny_pure ?_)
  replace hp2 : Heap.SameBut i2 p1 p2 := hp2
  refine wpAny_pure (wpAny_pure ?_)
  show wpAny _ _ (newTuple [x1, x2] >>= _) _ _ _
  refine wpAny_bind (wpAny_newTuple ?_)
  have hsz : p2.objs.size = hp.objs.size := by rw [hp2.1, hp1.1, hs₁.1]
  have hz₃ : IsZipHeld p2 z TI TO T true := hp2.extBut _ _ S.zi2 (hp1.extBut _ _ S.zi1 hz₁)
  have hk : ∀ c o, c ≠ z → c ≠ i1 → c ≠ i2 → hp.get? c = some o → p2.get? c = some o := fun c o c1 c2 c3 e => hp2.extBut _ _ c3 (hp1.extBut _ _ c2 (hs₁.extBut _ _ c1 e))
  have hj1 : St1 (i + 1) p2 := D1.over sn1 hp2 S.sep2_1
  refine wpAny_pure ⟨_, rfl, ?_⟩
  show Q (.ref p2.objs.size) _
  have hpr : IsTupOf2 (p2.push { cls := .type "tuple", data := .seq #[x1, x2] }) p2.objs.size x1 x2 := Heap.get?_push_size _ rfl
  rw [hsz] at hpr ⊢
  exact hQ x1 x2 _ tk2 hx1 hx2 (Heap.get?_push_of_some _ hz₃) (D1.frame _ _ _ hj1 fun b _ o e => Heap.get?_push_of_some _ e) (D2.frame _ _ _ sn2 fun b _ o e => Heap.get?_push_of_some _ e) hpr fun c o c1 c2 c3 e => Heap.get?_push_of_some _ (hk c o c1 c2 c3 e)

theorem held_end {T : Addr} {f : Bool} {oT : Obj} {Q : Fin → Shared → Prop} (S : ZipSep2 z TI TO i1 i2 fp1 fp2) (D1 : Draws prog w A i1 fp1 n1 P1 St1) (D2 : Draws prog w A i2 fp2 n2 P2 St2)
    (hz : IsZipHeld s.heap z TI TO T f) (hT : s.heap.get? T = some oT) (hTI : IsTupOf2 s.heap TI (.ref i1) (.ref i2)) (st1 : St1 i s.heap) (st2 : St2 i s.heap) (hle1 : i ≤ n1) (hle2 : i ≤ n2) (hend : i = n1 ∨ i = n2)
    (hE : ∀ h' tk e, (∀ c o, c ≠ z → c ≠ i1 → c ≠ i2 → s.heap.get? c = some o → h'.get? c = some o) → (∃ o, h'.get? e = some o ∧ o.cls = .type "StopIteration") → E (.ref e) { s with heap := h', toks := tk }) :
    wpAny (model prog w) A (Builtin.«zip.__next__» ⟨[.ref z], []⟩) Q E s := by
  obtain ⟨hp, g, dd, tk0, os⟩ := s
  show wpAny _ _ (field (.ref z) 2 >>= _) _ _ _
  refine wpAny_bind (wpAny_field hz rfl (x := .bool false) rfl ?_)
  show wpAny _ _ (field (.ref z) 3 >>= _) _ _ _
  refine wpAny_bind (wpAny_field hz rfl (x := .ref TI) rfl ?_)
  refine wpAny_bind (wpAny_seqItems hTI rfl ?_)
  show wpAny _ _ (Builtin.SmallTypes.ownedTupleIsFree (.ref z) >>= _) _ _ _
  refine wpAny_bind (wpAny_tupleHeld_zip hz hT fun h₁ hz₁ hs₁ => ?_)
  replace hs₁ : Heap.SameBut z hp h₁ := hs₁
  simp only [Bool.false_eq_true, if_false]
  refine wpAny_bind ?_
  rw [← Array.forIn_toList]
  simp only [List.forIn_cons, List.forIn_nil]
  refine wpAny_bind (wpAny_bind (wpAny_holding ?_))
  show wpAny _ _ (Builtin.SmallTypes.nextOf (.ref i1) >>= _) _ _ ⟨h₁, g, dd, tk0, os⟩
  by_cases hlt1 : i < n1
  · refine wpAny_bind (D1.item i _ _ _ hlt1 (D1.over st1 hs₁ S.zf1) fun x1 p1 tk1 hx1 sn1 hp1 => wpAny_pure ?_)
    replace hp1 : Heap.SameBut i1 h₁ p1 := hp1
    refine wpAny_pure ?_
    have hi2 : i = n2 := by omega
    refine wpAny_bind (wpAny_bind (wpAny_holding ?_))
    show wpAny _ _ (Builtin.SmallTypes.nextOf (.ref i2) >>= _) _ _ ⟨p1, g, dd, tk1, os⟩
    refine wpAny_bind (D2.done ⟨p1, g, dd, tk1, os⟩ _ _ (by rw [← hi2]; exact D2.over (D2.over st2 hs₁ S.zf2) hp1 S.sep1_2) fun q e hq he => ?_)
    exact hE q tk1 e (fun c o c1 c2 c3 x => hq _ _ c3 (hp1.extBut _ _ c2 (hs₁.extBut _ _ c1 x))) he
  · have hi1 : i = n1 := by omega
    refine wpAny_bind (D1.done ⟨h₁, g, dd, tk0, os⟩ _ _ (by rw [← hi1]; exact D1.over st1 hs₁ S.zf1) fun q e hq he => ?_)
    exact hE q tk0 e (fun c o c1 c2 c3 x => hq _ _ c2 (hs₁.extBut _ _ c1 x)) he

theorem next_held_item {T : Addr} {f : Bool} {oT : Obj} {Q : Option Value → Shared → Prop} (S : ZipSep2 z TI TO i1 i2 fp1 fp2) (D1 : Draws prog w A.in1 i1 fp1 n1 P1 St1) (D2 : Draws prog w A.in1 i2 fp2 n2 P2 St2)
    (hz : IsZipHeld s.heap z TI TO T f) (hT : s.heap.get? T = some oT) (hTI : IsTupOf2 s.heap TI (.ref i1) (.ref i2)) (st1 : St1 i s.heap) (st2 : St2 i s.heap) (hlt1 : i < n1) (hlt2 : i < n2)
    (hQ : ∀ x1 x2 h' tk, P1 i x1 → P2 i x2 → IsZipHeld h' z TI TO T true → St1 (i + 1) h' → St2 (i + 1) h' → IsTupOf2 h' s.heap.objs.size x1 x2 →
      (∀ c o, c ≠ z → c ≠ i1 → c ≠ i2 → s.heap.get? c = some o → h'.get? c = some o) → Q (some (.ref s.heap.objs.size)) { s with heap := h', toks := tk }) :
    wpAny (model prog w) A (pyNext (.ref z)) Q E s := by
  have hTy : s.TypeIs (.ref z) "zip" := ⟨_, hz, rfl⟩
  unfold pyNext
  exact wpAny_bind (wpAny_attempt (wpAny_callSpecial?_slot (name := Str.ofString "__next__") hTy F.slot_zip_next
    (wpAny_call_entry F.slot_zip_next hTy F.entry_zip_next
      (held_item S D1 D2 hz hT hTI st1 st2 hlt1 hlt2 fun x1 x2 h' tk a1 a2 a3 a4 a5 a6 a7 => wpAny_pure (hQ x1 x2 h' tk a1 a2 a3 a4 a5 a6 a7)) (F.args_zip_next_1 _))))
theorem next_held_end {T : Addr} {f : Bool} {oT : Obj} {Q : Option Value → Shared → Prop} (S : ZipSep2 z TI TO i1 i2 fp1 fp2) (D1 : Draws prog w A.in1 i1 fp1 n1 P1 St1) (D2 : Draws prog w A.in1 i2 fp2 n2 P2 St2)
    (hz : IsZipHeld s.heap z TI TO T f) (hT : s.heap.get? T = some oT) (hTI : IsTupOf2 s.heap TI (.ref i1) (.ref i2)) (st1 : St1 i s.heap) (st2 : St2 i s.heap) (hle1 : i ≤ n1) (hle2 : i ≤ n2) (hend : i = n1 ∨ i = n2)
    (hQ : ∀ h' tk, (∀ c o, c ≠ z → c ≠ i1 → c ≠ i2 → s.heap.get? c = some o → h'.get? c = some o) → Q none { s with heap := h', toks := tk }) :
    wpAny (model prog w) A (pyNext (.ref z)) Q E s := by
  have hTy : s.TypeIs (.ref z) "zip" := ⟨_, hz, rfl⟩
  unfold pyNext
  refine wpAny_bind (wpAny_attempt (wpAny_callSpecial?_slot (name := Str.ofString "__next__") hTy F.slot_zip_next
    (wpAny_call_entry F.slot_zip_next hTy F.entry_zip_next (held_end S D1 D2 hz hT hTI st1 st2 hle1 hle2 hend fun h' tk e hk he => ?_) (F.args_zip_next_1 _))))
  obtain ⟨o, ho, hc⟩ := he
  refine wpAny_bind (wpAny_isInstance (T := "StopIteration") (b := true) ⟨o, ho, hc⟩ isSubtype_stop ?_)
  exact wpAny_pure (hQ _ _ hk)
end

section
variable {prog : Program} {w : World}
theorem iterTypes (x : Str) : strIterType x = "str_ascii_iterator" ∨ strIterType x = "str_iterator" := by
  unfold strIterType
  split
  · exact .inl rfl
  · exact .inr rfl
abbrev SignRel (x y : Str) (i : Nat) (k v : Value) : Prop := ∃ c d u t, x.cps[i]? = some c ∧ y.cps[i]? = some d ∧ k = .str ⟨#[c]⟩ u ∧ v = .str ⟨#[d]⟩ t
theorem arg_zipTT (z TI TO i1 i2 : Addr) (D : ZipSep2 z TI TO i1 i2 [i1] [i2]) (x y : Str) (t1 t2 : Tok) :
    PairArg prog w "zip" z [z, TI, TO, i1, i2] [z, TO, i1, i2] (min x.cps.size y.cps.size) (SignRel x y)
      (fun h => IsZip h z TI TO .none ∧ IsTupOf2 h TI (.ref i1) (.ref i2) ∧ (∃ a b, IsTupOf2 h TO a b) ∧ h.IsStrIter i1 (strIterType x) x t1 0 ∧ h.IsStrIter i2 (strIterType y) y t2 0) where
  type := fun s ok => ⟨_, ok.1, rfl⟩
  notDict := by decide
  keep := fun h h' ok hk => by
    obtain ⟨hz, hTI, ⟨a, b, hTO⟩, ⟨o1, e1, r1⟩, ⟨o2, e2, r2⟩⟩ := ok
    exact ⟨hk _ _ hz, hk _ _ hTI, ⟨a, b, hk _ _ hTO⟩, ⟨o1, hk _ _ e1, r1⟩, ⟨o2, hk _ _ e2, r2⟩⟩
  there := fun h ok b hb => by
    obtain ⟨hz, hTI, ⟨a, c, hTO⟩, ⟨o1, h1, _⟩, ⟨o2, h2, _⟩⟩ := ok
    simp only [List.mem_cons, List.not_mem_nil, or_false] at hb
    rcases hb with e | e | e | e | e
    · rw [e]; exact ⟨_, hz⟩
    · rw [e]; exact ⟨_, hTI⟩
    · rw [e]; exact ⟨_, hTO⟩
    · rw [e]; exact ⟨_, h1⟩
    · rw [e]; exact ⟨_, h2⟩
  sub := fun b hb => by
    simp at hb ⊢
    rcases hb with e | e | e | e <;> simp [e]
  noKeys := fun A s Q E hA ok h => getAttrOr_miss_zip ok.1 rfl rfl rfl zip_no_keys (by decide +kernel) hA h
  iter := fun A s d Q E hA ok hd hdf h => by
    obtain ⟨hz, hTI, ⟨a, b, hTO⟩, h1, h2⟩ := ok
    simp only [List.mem_cons, List.not_mem_nil, or_false, not_or] at hdf
    obtain ⟨dz, dTI, dTO, di1, di2⟩ := hdf
    have DA : Draws prog w A.in1 i1 [i1] x.cps.size (fun i v => ∃ c u, x.cps[i]? = some c ∧ v = .str ⟨#[c]⟩ u) (fun i h => h.IsStrIter i1 (strIterType x) x t1 i) := draws_txt (A := A.in1) hA i1 x t1 (iterTypes x)
    have DB : Draws prog w A.in1 i2 [i2] y.cps.size (fun i v => ∃ c u, y.cps[i]? = some c ∧ v = .str ⟨#[c]⟩ u) (fun i h => h.IsStrIter i2 (strIterType y) y t2 i) := draws_txt (A := A.in1) hA i2 y t2 (iterTypes y)
    refine wpAny_pyIter_zip hz (h z [z, TO, i1, i2] (fun i h => IsTupOf2 h TI (.ref i1) (.ref i2) ∧ h.IsStrIter i1 (strIterType x) x t1 i ∧ h.IsStrIter i2 (strIterType y) y t2 i ∧
      ((IsZip h z TI TO .none ∧ ∃ a b, IsTupOf2 h TO a b) ∨ ∃ T f oT, IsZipHeld h z TI TO T f ∧ h.get? T = some oT ∧ T ≠ z ∧ T ≠ i1 ∧ T ≠ i2 ∧ T ≠ d)) s.heap s.toks ?_
      ⟨hTI, h1, h2, .inl ⟨hz, a, b, hTO⟩⟩ (fun _ _ e => e) fun b hb => .inl hb)
    exact {
      off := fun hm => by
        simp only [List.mem_cons, List.not_mem_nil, or_false] at hm
        rcases hm with e | e | e | e
        · exact dz e
        · exact dTO e
        · exact di1 e
        · exact di2 e
      frame := fun i h₁ h₂ st hk => by
        obtain ⟨hTI, h1, h2, hz⟩ := st
        refine ⟨hk _ _ (Ne.symm dTI) hTI, DA.frame _ _ _ h1 fun b hb o e => hk b o (by rw [List.mem_singleton.mp hb]; exact Ne.symm di1) e, DB.frame _ _ _ h2 fun b hb o e => hk b o (by rw [List.mem_singleton.mp hb]; exact Ne.symm di2) e, ?_⟩
        rcases hz with ⟨hz, a, b, hTO⟩ | ⟨T, f, oT, hz, hT, r1, r2, r3, r4⟩
        · exact .inl ⟨hk _ _ (Ne.symm dz) hz, a, b, hk _ _ (Ne.symm dTO) hTO⟩
        · exact .inr ⟨T, f, oT, hk _ _ (Ne.symm dz) hz, hk _ _ r4 hT, r1, r2, r3, r4⟩
      item := fun i s₁ Q₁ E₁ hi st hds hQ => by
        obtain ⟨hTI, h1, h2, hz⟩ := st
        have hix : i < x.cps.size := Nat.lt_of_lt_of_le hi (Nat.min_le_left ..)
        have hiy : i < y.cps.size := Nat.lt_of_lt_of_le hi (Nat.min_le_right ..)
        have lt : ∀ {c o}, s₁.heap.get? c = some o → s₁.heap.objs.size ≠ c := fun e => Nat.ne_of_gt (Heap.lt_size e)
        have n1 : s₁.heap.objs.size ≠ i1 := let ⟨_, e, _⟩ := h1; lt e
        have n2 : s₁.heap.objs.size ≠ i2 := let ⟨_, e, _⟩ := h2; lt e
        rcases hz with ⟨hz, a, b, hTO⟩ | ⟨T, f, oT, hz, hT, r1, r2, r3, r4⟩
        · refine wpAny_pyNext_zipD2_item D DA DB hz hTI hTO h1 h2 hix hiy fun x1 x2 h' tk q1 q2 a1 a2 a3 a4 a5 a6 hk => ?_
          obtain ⟨c, u, e1, e2⟩ := q1
          obtain ⟨c', u', e3, e4⟩ := q2
          exact hQ s₁.heap.objs.size _ _ h' tk ⟨c, c', u, u', e1, e3, e2, e4⟩ (.inl ⟨_, a5, rfl, _, rfl⟩)
            ⟨hk _ _ D.TIz D.TITO D.TIi1 D.TIi2 hTI, a3, a4, .inr ⟨s₁.heap.objs.size, false, _, a1, a5, lt hz, n1, n2, Nat.ne_of_gt hds⟩⟩
            fun c o hc e => hk c o (fun q => hc (by simp [q])) (fun q => hc (by simp [q])) (fun q => hc (by simp [q])) (fun q => hc (by simp [q])) e
        · refine next_held_item D DA DB hz hT hTI h1 h2 hix hiy fun x1 x2 h' tk q1 q2 a1 a3 a4 a5 hk => ?_
          obtain ⟨c, u, e1, e2⟩ := q1
          obtain ⟨c', u', e3, e4⟩ := q2
          exact hQ s₁.heap.objs.size _ _ h' tk ⟨c, c', u, u', e1, e3, e2, e4⟩ (.inl ⟨_, a5, rfl, _, rfl⟩)
            ⟨hk _ _ D.TIz D.TIi1 D.TIi2 hTI, a3, a4, .inr ⟨T, true, oT, a1, hk _ _ r1 r2 r3 hT, r1, r2, r3, r4⟩⟩
            fun c o hc e => hk c o (fun q => hc (by simp [q])) (fun q => hc (by simp [q])) (fun q => hc (by simp [q])) e
      done := fun s₁ Q₁ E₁ st hQ => by
        obtain ⟨hTI, h1, h2, hz⟩ := st
        have hend : min x.cps.size y.cps.size = x.cps.size ∨ min x.cps.size y.cps.size = y.cps.size := by omega
        rcases hz with ⟨hz, a, b, hTO⟩ | ⟨T, f, oT, hz, hT, r1, r2, r3, r4⟩
        · exact wpAny_pyNext_zipD2_end D DA DB hz hTI hTO h1 h2 (Nat.min_le_left ..) (Nat.min_le_right ..) hend fun h' tk hk => hQ h' tk fun c o hc e => hk c o (fun q => hc (by simp [q])) (fun q => hc (by simp [q])) (fun q => hc (by simp [q])) (fun q => hc (by simp [q])) e
        · exact next_held_end D DA DB hz hT hTI h1 h2 (Nat.min_le_left ..) (Nat.min_le_right ..) hend fun h' tk hk => hQ h' tk fun c o hc e => hk c o (fun q => hc (by simp [q])) (fun q => hc (by simp [q])) (fun q => hc (by simp [q])) e }
end

/-- the pairs of the signs of two texts -/
def zipP (x y : Str) : List (Key × V) := (x.cps.toList.zip y.cps.toList).map fun q => (.inr ⟨#[q.1]⟩, .str ⟨#[q.2]⟩)
theorem zipP_len (x y : Str) : (zipP x y).length = min x.cps.size y.cps.size := by
  unfold zipP
  simp
theorem zipP_at {x y : Str} {i c d : Nat} (h1 : x.cps[i]? = some c) (h2 : y.cps[i]? = some d) : (zipP x y)[i]? = some (.inr ⟨#[c]⟩, .str ⟨#[d]⟩) := by
  unfold zipP
  rw [List.getElem?_map, (List.getElem?_zip_eq_some (z := (c, d))).mpr ⟨by simpa using h1, by simpa using h2⟩]
  rfl
theorem KV.snoc {κ : Type} : ∀ {kvs : List (κ × V)} {vs : List (κ × Value)} {a : κ × V} {b : κ × Value}, KV kvs vs → (a.1 = b.1 ∧ RelV a.2 b.2) → KV (kvs ++ [a]) (vs ++ [b])
  | _, _, _, _, .nil, h => .cons h .nil
  | _, _, _, _, .cons h t, h2 => .cons h (KV.snoc t h2)
def tDZip (ta : TA) : TE := fun σ H Q => ta σ H fun vs H1 => ∃ x y : Str, vs = [.str x, .str y] ∧ min x.cps.size y.cps.size ≤ sizeLine ∧ ∀ p, H1 p = none → Q (.ref p) (upd H1 p (.dK (mergeK [] (zipP x y))))
theorem iDZip {ta : TA} {σ : L2.St} {H : Hp} {Q : VK} (h : ta σ H fun vs H1 => ∃ x y : Str, vs = [.str x, .str y] ∧ min x.cps.size y.cps.size ≤ sizeLine ∧ ∀ p, H1 p = none → Q (.ref p) (upd H1 p (.dK (mergeK [] (zipP x y))))) : tDZip ta σ H Q := h
theorem sep6 (I : Nat) : ZipSep2 (I + 4) (I + 2) (I + 3) I (I + 1) [I] [I + 1] := by
  refine ⟨?_, ?_, ?_, ?_, ?_, ?_, ?_, ?_, ?_, ?_, ?_, ?_, ?_⟩
  all_goals first | (intro e; have e : (_ : Nat) = _ := e; omega) | (simp; done) | (intro e; simp at e; grind) | (simp; grind)
theorem pe_dzip {X : Cx} {e e2 : Expr} {ta : TA} {p p2 pos pos2 : Pos} (hcalm : X.calm = true) (hg : Gl X "dict") (hm : X.mg "dict" = none) (hg2 : Gl X "zip") (hm2 : X.mg "zip" = none) (ha : PA X [e, e2] ta)
    (hs : starEach [e, e2] X.env = (false, eval e X.env) :: starEach [e2] X.env := by rfl) (hpl : (backTo pos2 (starEach [e2] X.env)).any (·.1) = false := by rfl)
    (hs2 : starEach [.Call (.Name "zip" p2) [e, e2] [] pos2] X.env = (false, eval (.Call (.Name "zip" p2) [e, e2] [] pos2) X.env) :: starEach [] X.env := by rfl) :
    PE X (.Call (.Name "dict" p) [.Call (.Name "zip" p2) [e, e2] [] pos2] [] pos) (tDZip ta) := by
  refine ⟨fun pins s σ H Q I h => ?_⟩
  refine Call_ (ld_blt I hg hm PyProof.Rows.boot_dict (PyProof.Rows.callWith_type1 ?_ hs2 rfl))
  rw [hs2]
  show wpAny _ _ (spliced ((false, eval (.Call (.Name "zip" p2) [e, e2] [] pos2) X.env) :: _)) _ _ s
  refine Calls.spliced_cons ?_
  refine Call_ (ld_blt I hg2 hm2 PyProof.Rows.boot_zip (PyProof.Rows.callWith_type1 (thn (ha.run pos2 pins s σ H _ I h) fun us s1 z => ?_) hs hpl))
  obtain ⟨vs, H1, I1, r1, x, y, ex, hsz, q⟩ := z
  subst ex
  cases r1 with
  | cons r rr =>
    cases rr with
    | cons r' rr =>
      cases rr
      obtain ⟨t, rfl⟩ := r
      obtain ⟨t', rfl⟩ := r'
      refine zip_begins2 (begins_text x t) (begins_text y t') trivial trivial fun h' hz hTI hTO h1 h2 hsz1 hk => ?_
      refine Calls.spliced_nil ?_
      have gone : ∀ c, s1.heap.objs.size ≤ c → s1.heap.get? c = none := fun c hc => Heap.get?_none_of_le hc
      have g1 : h'.IsStrIter s1.heap.objs.size (strIterType x) x t 0 := ⟨_, h1, rfl, rfl⟩
      have g2 : h'.IsStrIter (s1.heap.objs.size + 1) (strIterType y) y t' 0 := ⟨_, h2, rfl, rfl⟩
      have I2 : Inv X pins σ H1 { s1 with heap := h' } := I1.kept (t' := s1.toks) hk
      have gone : ∀ c, s1.heap.objs.size ≤ c → s1.heap.get? c = none := fun c hc => Heap.get?_none_of_le hc
      have P := arg_zipTT (prog := X.prog) (w := X.w) (s1.heap.objs.size + 4) (s1.heap.objs.size + 2) (s1.heap.objs.size + 3) s1.heap.objs.size (s1.heap.objs.size + 1) (sep6 s1.heap.objs.size) x y t t'
      refine call_dict_arg P ⟨hz, hTI, ⟨_, _, hTO⟩, g1, g2⟩ fun s₂ es₂ hdf ok₂ => ?_
      subst es₂
      have hlen : (mergeK [] (zipP x y)).length ≤ sizeLine := by
        refine Nat.le_trans (length_mergeK (zipP x y) []) ?_
        rw [List.length_nil, Nat.zero_add, zipP_len]
        exact hsz
      have hmod : (h'.objs.size == sysModules) = false := beq_eq_false_iff_ne.mpr (Nat.ne_of_gt I2.big)
      refine updateFrom_arg (A := X.A.in1) (Tab := fun i h => ∃ vs, KV ((zipP x y).take i) vs ∧ h.DictOf (mixKind X.prog X.w) h'.objs.size (merged [] vs)) P .none (I.ok.hd hcalm) ok₂ hdf ⟨[], .nil, Heap.DictOf.new h'⟩ (fun i h ⟨_, _, tb⟩ => tb.lt_size) (fun i h h₂ wr' hd _ ⟨vs, r, tb⟩ hk => ⟨vs, r, tb.at' fun o e => hk _ o hd e⟩) ?_ ?_
      · intro i key v s₃ Q₃ E₃ hi hrel tb _ hQ
        obtain ⟨c, d, u, t3, e1, e2, e3, e4⟩ := hrel
        obtain ⟨vs, r, tb⟩ := tb
        subst e3 e4
        have hat := zipP_at e1 e2
        refine wpAny_dictSet_pairs (knd := mixKind X.prog X.w) (k := .inr ⟨#[c]⟩) (hsz := ?_) (mixKind_str X.prog X.w _ _) tb fun h₃ hm' hs => ?_
        · refine hQ h₃ _ ⟨vs ++ [(.inr ⟨#[c]⟩, .str ⟨#[d]⟩ t3)], ?_, ?_⟩ hs
          · rw [List.take_add_one, hat]
            exact KV.snoc r ⟨rfl, t3, rfl⟩
          · have em : merged ([] : List (Key × Value)) (vs ++ [(.inr ⟨#[c]⟩, .str ⟨#[d]⟩ t3)]) = stored (merged [] vs) (.inr ⟨#[c]⟩) (.str ⟨#[d]⟩ t3) := by
              unfold merged
              rw [List.foldl_append]
              rfl
            rw [em]
            exact hm'
        · have m1 := merged_length ([] : List (Key × Value)) vs
          have m2 : ((zipP x y).take i).length = vs.length := r.length
          rw [List.length_take, zipP_len] at m2
          simp at m1
          omega
      · intro h₃ tk tb hkk
        obtain ⟨vs, r, tb⟩ := tb
        rw [List.take_of_length_le (Nat.le_of_eq (zipP_len x y))] at r
        refine ⟨rfl, .ref h'.objs.size, upd H1 h'.objs.size (.dK (mergeK [] (zipP x y))), I1.laid (t' := tk) (fun b o e => ?_) (Nat.le_trans (Nat.le_add_right _ 5) (Nat.le_of_eq hsz1.symm)) ?_, rfl, q _ (I2.hok.fresh (Nat.le_refl _))⟩
        · have lb : b < s1.heap.objs.size := Heap.lt_size e
          have lb' : b ≠ h'.objs.size := fun z => by rw [z, hsz1] at lb; exact Nat.lt_irrefl _ (Nat.lt_of_le_of_lt (Nat.le_add_right _ 5) lb)
          refine hkk b o lb' (fun hm => ?_) (Heap.get?_push_of_some _ (hk b o e))
          simp only [List.mem_cons, List.not_mem_nil, or_false] at hm
          rcases hm with z | z | z | z <;> (rw [z] at lb; first | exact Nat.lt_irrefl _ lb | exact Nat.lt_irrefl _ (Nat.lt_of_le_of_lt (Nat.le_add_right _ _) lb))
        · exact (show ObjOk X.prog X.w _ _ _ (.dK (mergeK [] (zipP x y))) from ⟨hlen, hmod, merged [] vs, KV.merge r .nil, tb⟩)
end Vk
set_option Elab.async false
set_option linter.all false
set_option maxRecDepth 100000
set_option maxHeartbeats 2000000
namespace Vk
open PySem PySem.Spec PyProof.Rows L2
section
variable {K : PySem.W.Frag} {H1 : Hp} {Q : VK} {σ : L2.St} {tt : TT} {te : TE} {vs : List Nat}
/-- a comprehension over a list, which may change the heap -/
theorem lcg_L {D a : Addr} {j : Nat} {xs : List V} (Pv : Nat → Hp → Prop) (h0 : Pv 0 (upd H1 D (.lst []))) (hw : ∀ x, wipe ((wipe σ vs).set j (some x)) vs = wipe σ vs) (hl : ∀ i H, i ≤ xs.length → Pv i H → SqL K H a xs)
    (hs : ∀ i x H, xs[i]? = some x → Pv i H → tt ((wipe σ vs).set j (some x)) H fun b H3 => if b = true then te ((wipe σ vs).set j (some x)) H3 fun y H4 => ∃ acc, H4 D = some (.lst acc) ∧ acc.length < sizeLine ∧ Pv (i + 1) (upd H4 D (.lst (acc ++ [y]))) else Pv (i + 1) H3)
    (hd : ∀ H, Pv xs.length H → Q (.ref D) H) : LcG (Itl K a) (gName j) tt te vs σ H1 D Q := by
  have := lc_list (K := K) (a := a) (xs := xs) (g := gName j) (tt := tt) (te := te) (vs := vs) (σ := σ) (H1 := H1) (D := D) (Qd := fun H => Q (.ref D) H) Pv h0 hl (fun i x H hi hP => ⟨hw _, hs i x H hi hP⟩) hd
  exact this
end
end Vk
set_option Elab.async false
set_option linter.all false
set_option maxRecDepth 100000
set_option maxHeartbeats 4000000
/-! X60: lists of texts as data: == and != -/
namespace Vk
open PySem PySem.Spec PyProof.Rows L2
namespace TL
abbrev tv (ws : List (List Nat)) : List V := ws.map fun t => V.str (S t)
abbrev pv (ws : List (List Nat)) : List PyData := ws.map fun t => PyData.str (S t)
theorem okT {l : List Nat} (h : ∀ c ∈ l, c < 0x110000) : PyData.strOk (S l) = true := by
  show l.toArray.all (fun c => decide (c < 0x110000)) = true
  simp
  exact h
theorem inj {t u : List Nat} (h : S t = S u) : t = u := by
  have := congrArg (fun z : Str => z.cps.toList) h
  simpa [S_cps] using this
theorem dp {K : PySem.W.Frag} {H : Hp} : ∀ l : List (List Nat), DpAll K H (tv l) (pv l)
  | [] => .nil
  | a :: l => .cons (.str _) (dp l)
theorem can : ∀ l : List (List Nat), (∀ r ∈ l, ∀ c ∈ r, c < 0x110000) → PyData.canLayAll0 (pv l) = true
  | [], _ => by simp [PyData.canLayAll0]
  | a :: l, h => by
    have h1 := okT (h a List.mem_cons_self)
    have h2 := can l fun z hz => h z (List.mem_cons_of_mem _ hz)
    show (PyData.canLay0 (PyData.str (S a)) && PyData.canLayAll0 (pv l)) = true
    rw [h2]
    simp [PyData.canLay0, h1]
theorem dep : ∀ l : List (List Nat), PyData.depthAll (pv l) = 0
  | [] => by simp [PyData.depthAll]
  | a :: l => by
    show max (PyData.depth (PyData.str (S a))) (PyData.depthAll (pv l)) = 0
    rw [dep l]
    simp [PyData.depth]
theorem eqvA : ∀ l m : List (List Nat), PyData.eqvAll (pv l) (pv m) = decide (l = m)
  | [], [] => by simp [PyData.eqvAll]
  | [], _ :: _ => by simp [PyData.eqvAll]
  | _ :: _, [] => by simp [PyData.eqvAll]
  | a :: l, b :: m => by
    have e : (S a == S b) = decide (a = b) := by
      rw [Bool.eq_iff_iff, beq_iff_eq, decide_eq_true_iff]
      exact ⟨inj, fun h => by rw [h]⟩
    show (PyData.eqv (PyData.str (S a)) (PyData.str (S b)) && PyData.eqvAll (pv l) (pv m)) = _
    rw [eqvA l m]
    simp [PyData.eqv, e]
theorem shaped {l : List (List Nat)} (h : ∀ r ∈ l, ∀ c ∈ r, c < 0x110000) : SeqAt.shaped (.list (pv l)) = true := by
  simp [SeqAt.shaped, PyData.canLay0, PyData.depth, can l h, dep]
theorem eqvL (l m : List (List Nat)) : PyData.eqv (.list (pv l)) (.list (pv m)) = decide (l = m) := eqvA l m
/-- two lists of texts -/
theorem iEq {K : PySem.W.Frag} {H : Hp} {Q : VK} {p q : Addr} {l m : List (List Nat)} (h1 : H p = some (.lst (tv l))) (h2 : H q = some (.lst (tv m))) (c1 : ∀ r ∈ l, ∀ c ∈ r, c < 0x110000) (c2 : ∀ r ∈ m, ∀ c ∈ r, c < 0x110000) (k : Q (.bl (decide (l = m))) H) : rEqD K (.ref p) (.ref q) H Q := by
  refine ⟨.list (pv l), .list (pv m), .lst (SqL.of h1) (dp _), .lst (SqL.of h2) (dp _), shaped c1, shaped c2, ?_⟩
  rw [eqvL]
  exact k
end TL
end Vk
set_option Elab.async false
set_option linter.all false
set_option maxRecDepth 100000
set_option maxHeartbeats 4000000
/-! X61: lists of texts in slots: xs[:-1], xs + [e], xs[:i] + [e] + xs[i + 1:] -/
namespace Vk
open PySem PySem.Spec PyProof.Rows L2
namespace TL
theorem tr {H1 H2 H3 : Hp} (h1 : Same H1 H2) (h2 : Same H2 H3) : Same H1 H3 := fun c o h => h2 c o (h1 c o h)
theorem sz1 (v : V) : [v].length ≤ sizeLine := by
  rw [List.length_singleton, sizeLine_eq]
  omega
theorem tvA (a b : List (List Nat)) : tv a ++ tv b = tv (a ++ b) := by
  show a.map _ ++ b.map _ = (a ++ b).map _
  rw [List.map_append]
theorem tvL (a : List (List Nat)) : (tv a).length = a.length := List.length_map ..
theorem sIx_m1 (n d : Nat) : HT.sIx n d (some (-1)) = n - 1 := by
  show (if (-1 : Int) < 0 then ((-1 : Int) + (n : Int)).toNat else min (-1 : Int).toNat n) = n - 1
  rw [if_pos (by decide)]
  omega
theorem cut_init (xs : List V) : cutV xs none (some (-1)) = xs.take (xs.length - 1) := by
  unfold cutV
  rw [sIx_m1]
  show (xs.drop 0).take ((xs.length - 1) - 0) = _
  rw [List.drop_zero, Nat.sub_zero]
theorem cut_to (xs : List V) (k : Nat) : cutV xs none (some (k : Int)) = xs.take k := by
  unfold cutV
  rw [HT.sIx_nat]
  show (xs.drop 0).take (min k xs.length - 0) = _
  rw [List.drop_zero, Nat.sub_zero]
  by_cases h : k ≤ xs.length
  · rw [Nat.min_eq_left h]
  · rw [Nat.min_eq_right (by omega), List.take_of_length_le (Nat.le_refl _), List.take_of_length_le (by omega)]
theorem cut_from (xs : List V) (k : Nat) : cutV xs (some (k : Int)) none = xs.drop k := by
  unfold cutV
  rw [HT.sIx_nat]
  show (xs.drop (min k xs.length)).take (xs.length - min k xs.length) = _
  rw [List.take_of_length_le (by rw [List.length_drop]; omega)]
  by_cases h : k ≤ xs.length
  · rw [Nat.min_eq_left h]
  · rw [Nat.min_eq_right (by omega), List.drop_of_length_le (by omega), List.drop_of_length_le (by omega)]
theorem cutS_init (l : List Nat) : cutS (S l) none (some (-1)) = S (l.take (l.length - 1)) := by
  rw [S_cut]
  rw [sIx_m1]
  show S ((l.drop 0).take ((l.length - 1) - 0)) = _
  rw [List.drop_zero, Nat.sub_zero]
section
variable {K : PySem.W.Frag} {σ : L2.St} {H : Hp} {Q : VK} {te : TE} {i3 i6 r : Nat} {sl : Addr} {sa : List (List Nat)}
theorem new {H : Hp} {p : Addr} {x : HO} (hp : H p = none) : Same H (upd H p x) := Same.upd_new hp
theorem iInit (e3 : σ[i3]? = some (some (.ref sl))) (hs : H sl = some (.lst (tv sa)))
    (h : Stop (∀ p H2, Same H H2 → H2 p = some (.lst (tv (sa.take (sa.length - 1)))) → Q (.ref p) H2)) : tSl (rSlL K) (tVar i3) tNoPart (tPart (tUn (rU fun i => .int (-i)) (tC (.int 1)))) σ H Q := by
  refine iSl (iVar e3 (iNoPart (iPart ?_)))
  refine ⟨1, rfl, -1, rfl, iSlL (.of hs) fun p hp => h p _ (new hp) ?_⟩
  rw [upd_same, cut_init, List.length_map, ← List.map_take]
/-- behind e in xs + [e] -/
def CSnoc (sl : Addr) (Q : VK) : VK := fun v H1 => [v].length ≤ sizeLine ∧ ∀ p, H1 p = none → rCat (.ref sl) (.ref p) (upd H1 p (.lst [v])) Q
theorem iSnoc (e3 : σ[i3]? = some (some (.ref sl))) (h : te σ H (CSnoc sl Q)) : tOp rCat (tVar i3) (tLst (tCons te tNil)) σ H Q := iOp (iVar e3 h)
theorem cSnoc {H1 : Hp} {z : List Nat} (hs : H1 sl = some (.lst (tv sa))) (hl : sa.length ≤ 100) (h : ∀ p H2, Same H1 H2 → H2 p = some (.lst (tv (sa ++ [z]))) → Q (.ref p) H2) : CSnoc sl Q (.str (S z)) H1 := by
  refine ⟨sz1 _, fun p hp => ?_⟩
  have s1 := new (x := .lst [V.str (S z)]) hp
  refine iCat (s1 _ _ hs) upd_same (by rw [List.length_map, List.length_singleton, sizeLine_eq]; omega) fun q hq => ?_
  refine h q _ (tr s1 (new hq)) ?_
  rw [upd_same]
  exact congrArg (fun l => some (HO.lst l)) (tvA sa [z])
/-- behind e in xs[:i] + [e] + .. -/
def CMid (σ : L2.St) (p1 : Addr) (tr : TE) (Q : VK) : VK := fun v H1 => [v].length ≤ sizeLine ∧ ∀ p, H1 p = none → rCat (.ref p1) (.ref p) (upd H1 p (.lst [v])) fun y H2 => tr σ H2 fun z H3 => rCat y z H3 Q
theorem iMid {tr : TE} (e3 : σ[i3]? = some (some (.ref sl))) (e6 : σ[i6]? = some (some (.int (r : Nat)))) (hs : H sl = some (.lst (tv sa)))
    (h : Stop (∀ p1 H1, Same H H1 → H1 p1 = some (.lst (tv (sa.take r))) → te σ H1 (CMid σ p1 tr Q))) : tOp rCat (tOp rCat (tSl (rSlL K) (tVar i3) tNoPart (tPart (tVar i6))) (tLst (tCons te tNil))) tr σ H Q := by
  refine iOp (iOp (iSl (iVar e3 (iNoPart (iPart (iVar e6 ?_))))))
  refine ⟨r, rfl, iSlL (.of hs) fun p hp => ?_⟩
  exact h p _ (new hp) (by rw [upd_same, cut_to, ← List.map_take])
theorem cMid {H1 : Hp} {p1 : Addr} {z : List Nat} (e3 : σ[i3]? = some (some (.ref sl))) (e6 : σ[i6]? = some (some (.int (r : Nat)))) (hs : H1 sl = some (.lst (tv sa))) (h1 : H1 p1 = some (.lst (tv (sa.take r)))) (hl : sa.length ≤ 100)
    (h : ∀ p H2, Same H1 H2 → H2 p = some (.lst (tv (sa.take r ++ [z] ++ sa.drop (r + 1)))) → Q (.ref p) H2) : CMid σ p1 (tSl (rSlL K) (tVar i3) (tPart (tOp (rI0 fun i j => .int (i + j)) (tVar i6) (tC (.int 1)))) tNoPart) Q (.str (S z)) H1 := by
  refine ⟨sz1 _, fun p hp => ?_⟩
  have s1 := new (x := .lst [V.str (S z)]) hp
  have l1 := List.length_take (i := r) (l := sa)
  refine iCat (s1 _ _ h1) upd_same (by rw [List.length_map, List.length_singleton, sizeLine_eq]; omega) fun q hq => ?_
  have s2 := tr s1 (new (x := .lst (tv (sa.take r) ++ [V.str (S z)])) hq)
  have hq2 : (upd (upd H1 p (.lst [V.str (S z)])) q (.lst (tv (sa.take r) ++ [V.str (S z)]))) q = some (.lst (tv (sa.take r ++ [z]))) := by
    rw [upd_same]
    exact congrArg (fun l => some (HO.lst l)) (tvA (sa.take r) [z])
  generalize (upd (upd H1 p (.lst [V.str (S z)])) q (.lst (tv (sa.take r) ++ [V.str (S z)]))) = H2 at s2 hq2
  refine iSl (iVar e3 (iPart (iOp (iVar e6 ?_))))
  refine ⟨(r : Int), 1, rfl, rfl, _, rfl, ?_⟩
  refine iNoPart (iSlL (.of (s2 _ _ hs)) fun y hy => ?_)
  have hy2 : (upd H2 y (.lst (cutV (tv sa) (some ((r : Int) + 1)) none))) y = some (.lst (tv (sa.drop (r + 1)))) := by
    rw [upd_same]
    have : ((r : Int) + 1) = ((r + 1 : Nat) : Int) := rfl
    rw [this, cut_from, ← List.map_drop]
  have s3 := new (x := .lst (cutV (tv sa) (some ((r : Int) + 1)) none)) hy
  generalize (upd H2 y (.lst (cutV (tv sa) (some ((r : Int) + 1)) none))) = H3 at s3 hy2
  refine iCat (s3 _ _ hq2) hy2 (by rw [List.length_map, List.length_map, List.length_append, List.length_singleton, List.length_drop, sizeLine_eq]; omega) fun u hu => ?_
  refine h u _ (tr s2 (tr s3 (new hu))) ?_
  rw [upd_same]
  exact congrArg (fun l => some (HO.lst l)) (tvA _ _)
/-- a new list: the walk stops behind it -/
def CLst (Q : VK) : List V → Hp → Prop := fun xs H1 => xs.length ≤ sizeLine ∧ ∀ p, H1 p = none → Q (.ref p) (upd H1 p (.lst xs))
theorem iLstS {ts : TA} (h : ts σ H (CLst Q)) : tLst ts σ H Q := iLst h
theorem cLst {xs : List V} (hl : xs.length ≤ 1000) (h : ∀ p H2, H p = none → Same H H2 → H2 p = some (.lst xs) → Q (.ref p) H2) : CLst Q xs H := ⟨by rw [sizeLine_eq]; omega, fun p hp => h p _ hp (new hp) upd_same⟩
/-- two lists of whatever -/
theorem iCatS {a b : Addr} {xs ys : List V} (ha : H a = some (.lst xs)) (hb : H b = some (.lst ys)) (hz : xs.length + ys.length ≤ 10000) (h : ∀ p H2, H p = none → Same H H2 → H2 p = some (.lst (xs ++ ys)) → Q (.ref p) H2) : rCat (.ref a) (.ref b) H Q :=
  iCat ha hb (by rw [sizeLine_eq]; omega) fun p hp => h p _ hp (new hp) upd_same
end
end TL
end Vk
set_option Elab.async false
set_option linter.all false
set_option maxRecDepth 100000
set_option maxHeartbeats 4000000
namespace Vk
open PySem PySem.Spec PyProof.Rows L2 PySem.Builtin.Str
/-! X41: xs[::2], text[::-1] -/
/-- the first, the third, .. -/
def pick2 {α : Type} (xs : List α) : List α := (sliceRange (sliceBounds none none (some 2) xs.length).1 (sliceBounds none none (some 2) xs.length).2.1 (sliceBounds none none (some 2) xs.length).2.2).filterMap (xs[·]?)
theorem pick2_mem {α : Type} {xs : List α} {x : α} (h : x ∈ pick2 xs) : x ∈ xs := by
  unfold pick2 at h
  obtain ⟨i, _, e⟩ := List.mem_filterMap.mp h
  exact List.mem_of_getElem? e
theorem pick2_len {α : Type} (xs : List α) : (pick2 xs).length ≤ xs.length := by
  unfold pick2
  refine Nat.le_trans (List.length_filterMap_le _ _) (sliceRange_length_le _ _ _ _ (fun _ => ?_) fun hc => ?_)
  · simp [sliceBounds]
  · simp [sliceBounds] at hc
theorem pick2_map {α β : Type} (f : α → β) (xs : List α) : pick2 (xs.map f) = (pick2 xs).map f := by
  unfold pick2
  rw [List.length_map, List.map_filterMap]
  congr 1
  funext i
  rw [List.getElem?_map]
theorem vals_pick : ∀ (is : List Nat) {xs : List V} {us : List Value}, Vals xs us → Vals (is.filterMap (xs[·]?)) (is.filterMap (us[·]?))
  | [], _, _, _ => .nil
  | i :: is, xs, us, r => by
    have ih := vals_pick is r
    have hl := r.length
    by_cases h : i < xs.length
    · have e1 : xs[i]? = some xs[i] := List.getElem?_eq_getElem h
      obtain ⟨u, e2, ru⟩ := r.get e1
      rw [List.filterMap_cons, List.filterMap_cons, e1, e2]
      exact .cons ru ih
    · have e1 : xs[i]? = none := List.getElem?_eq_none (by omega)
      have e2 : us[i]? = none := List.getElem?_eq_none (by omega)
      rw [List.filterMap_cons, List.filterMap_cons, e1, e2]
      exact ih
def tStep2 (K : PySem.W.Frag) (te : TE) : TE := fun σ H Q => te σ H fun x H1 => ∃ a xs, x = .ref a ∧ SqL K H1 a xs ∧ ∀ p, H1 p = none → Q (.ref p) (upd H1 p (.lst (pick2 xs)))
section
variable {X : Cx}
theorem pe_step2L {e : Expr} {te : TE} {k : Nat} {p1 p3 pos : Pos} (he : PE X e te) : PE X (.Subscript e (.Slice none none (some (.Constant (.int 2) k p1)) p3) pos) (tStep2 X.K te) := by
  refine ⟨fun pins s σ H Q I h => ?_⟩
  refine Subscript_ (thn (he.run pins s σ H _ I h) fun v s1 ⟨x, H1, I1, r1, q1⟩ => ?_)
  obtain ⟨a, xs, rfl, hx, q⟩ := q1
  cases r1
  have hst : PO X (some (.Constant (.int 2) k p1)) (tPart (tC (.int 2))) := po_some pe_int
  refine wpAny_Slice (thn (po_none.run pins s1 σ H1 (fun o H2 => o = none ∧ H2 = H1) I1 ⟨rfl, rfl⟩) fun vl s2 ⟨l, H2, I2, pl, el, e2⟩ => ?_)
  subst el e2
  refine thn (po_none.run pins s2 σ H2 (fun o H3 => o = none ∧ H3 = H2) I2 ⟨rfl, rfl⟩) fun vu s3 ⟨u, H3, I3, pu, eu, e3⟩ => ?_
  subst eu e3
  refine thn (hst.run pins s3 σ H3 (fun o H4 => o = some 2 ∧ H4 = H3) I3 ⟨2, rfl, rfl, rfl⟩) fun vs s4 ⟨o, H4, I4, ps, eo, e4⟩ => ?_
  subst eo e4
  have I5 : Inv X pins σ H4 { s4 with heap := s4.heap.push { cls := .type "slice", data := .fields #[vl, vu, vs] } } := I4.kept (t' := s4.toks) fun b ob q => Heap.get?_push_of_some _ q
  obtain ⟨its, r, ht, hz⟩ := I5.list hx
  have hlen := r.length
  refine tail_any (ops := [.ref a, .ref s4.heap.objs.size]) ht.isList.typeIs (PySem.slot_list_getitem.lookup) ?_ (by with_unfolding_all rfl)
  refine wpAny_getItem_list_slice ht.isList (Heap.IsSliceOf.new _ vl vu vs) pl pu ps (by decide) ?_ (by rw [List.size_toArray]; omega)
  have hp := vals_pick (sliceRange (sliceBounds none none (some 2) xs.length).1 (sliceBounds none none (some 2) xs.length).2.1 (sliceBounds none none (some 2) xs.length).2.2) r
  have el : slicePick its.toArray none none (some 2) = ((sliceRange (sliceBounds none none (some 2) xs.length).1 (sliceBounds none none (some 2) xs.length).2.1 (sliceBounds none none (some 2) xs.length).2.2).filterMap (its[·]?)).toArray := by
    unfold slicePick
    rw [List.size_toArray, hlen]
    simp
  rw [el]
  refine ⟨.ref _, _, I5.laid (t' := s4.toks) (o := .lst (pick2 xs)) (fun b ob q => Heap.get?_push_of_some _ q) (Nat.le_refl _) ?_, rfl, q _ (I5.hok.fresh (Nat.le_refl _))⟩
  exact ⟨Nat.le_trans (pick2_len xs) hz, _, 0, hp, Heap.get?_push_size _ rfl⟩
def tRevS (te : TE) : TE := fun σ H Q => te σ H fun x H1 => ∃ l : List Nat, x = .str (S l) ∧ l.length ≤ 100000 ∧ Q (.str (S l.reverse)) H1
theorem rev_S (l : List Nat) : (⟨((strSliceIndices none none (-1) (S l).length).filterMap ((S l).cps[·]?)).toArray⟩ : Str) = S l.reverse := by
  have e : strSliceIndices none none (-1) (S l).length = (List.range (S l).cps.size).reverse := by
    show sliceRange (((S l).cps.size : Int) - 1) (-1) (-1) = _
    rw [PySem.W.krv_sliceRange, PySem.W.krv_range]
  rw [e, List.filterMap_reverse, PySem.W.krv_all, S_cps]
  rfl
theorem pe_revS {e : Expr} {te : TE} {k : Nat} {p1 p2 p3 pos : Pos} (he : PE X e te) : PE X (.Subscript e (.Slice none none (some (.UnaryOp .USub (.Constant (.int 1) k p1) p2)) p3) pos) (tRevS te) := by
  refine ⟨fun pins s σ H Q I h => ?_⟩
  refine Subscript_ (thn (he.run pins s σ H _ I h) fun v s1 ⟨x, H1, I1, r1, q1⟩ => ?_)
  obtain ⟨z, rfl, hz, q⟩ := q1
  obtain ⟨t, rfl⟩ := r1
  have hst : PO X (some (.UnaryOp .USub (.Constant (.int 1) k p1) p2)) (tPart (tUn (rU fun i => .int (-i)) (tC (.int 1)))) := po_some (pe_un un_neg pe_int)
  refine wpAny_Slice (thn (po_none.run pins s1 σ H1 (fun o H2 => o = none ∧ H2 = H1) I1 ⟨rfl, rfl⟩) fun vl s2 ⟨l, H2, I2, pl, el, e2⟩ => ?_)
  subst el e2
  refine thn (po_none.run pins s2 σ H2 (fun o H3 => o = none ∧ H3 = H2) I2 ⟨rfl, rfl⟩) fun vu s3 ⟨u, H3, I3, pu, eu, e3⟩ => ?_
  subst eu e3
  refine thn (hst.run pins s3 σ H3 (fun o H4 => o = some (-1) ∧ H4 = H3) I3 ⟨1, rfl, -1, rfl, rfl, rfl⟩) fun vs s4 ⟨o, H4, I4, ps, eo, e4⟩ => ?_
  subst eo e4
  have I5 : Inv X pins σ H4 { s4 with heap := s4.heap.push { cls := .type "slice", data := .fields #[vl, vu, vs] } } := I4.kept (t' := s4.toks) fun b ob q => Heap.get?_push_of_some _ q
  refine tail_any (ops := [.str (S z) t, .ref s4.heap.objs.size]) (typeIs_str _ _ _) F.slot_str_getitem.lookup ?_ (by with_unfolding_all rfl)
  obtain ⟨os, hos, hcs, hds⟩ := Heap.IsSliceOf.new s4.heap vl vu vs
  obtain ⟨l, rfl, el⟩ := IsPart.raw pl
  obtain ⟨u, rfl, eu⟩ := IsPart.raw pu
  obtain ⟨w, rfl, ew⟩ := IsPart.raw ps
  refine wpAny_getItem_str_slice (l := l) (u := u) (st := w) ⟨os, hos, hcs, hds⟩ (by rw [ew]; rfl) ?_
  unfold sliceMade slicePicked
  rw [el, eu, ew]
  show Made.post (if (((-1 : Int) == 1) && _) = true then _ else Made.str ⟨((strSliceIndices none none (-1) (S z).length).filterMap ((S z).cps[·]?)).toArray⟩) (EP X pins σ Q) _
  rw [if_neg (by simp), rev_S]
  refine ⟨by rw [S_len, List.length_reverse, sizeLine_eq]; omega, .str _, H4, I5.tok _, ⟨_, rfl⟩, q⟩
end
theorem iStep2 {K : PySem.W.Frag} {te : TE} {σ : L2.St} {H : Hp} {Q : VK} (h : te σ H fun x H1 => ∃ a xs, x = .ref a ∧ SqL K H1 a xs ∧ ∀ p, H1 p = none → Q (.ref p) (upd H1 p (.lst (pick2 xs)))) : tStep2 K te σ H Q := h
theorem iRevL {K : PySem.W.Frag} {te : TE} {σ : L2.St} {H : Hp} {Q : VK} (h : te σ H fun x H1 => ∃ a xs, x = .ref a ∧ SqL K H1 a xs ∧ ∀ p, H1 p = none → Q (.ref p) (upd H1 p (.lst xs.reverse))) : tRevL K te σ H Q := h
theorem iRevS {te : TE} {σ : L2.St} {H : Hp} {Q : VK} (h : te σ H fun x H1 => ∃ l : List Nat, x = .str (S l) ∧ l.length ≤ 100000 ∧ Q (.str (S l.reverse)) H1) : tRevS te σ H Q := h
end Vk
set_option Elab.async false
set_option linter.all false
set_option maxRecDepth 100000
set_option maxHeartbeats 8000000
namespace Vk
open PySem PySem.Spec PyProof.Rows L2
/-! the walk over a reading -/
open L2 in
local macro_rules | `(tactic| walk_at "lk") => `(tactic| (refine Fr.get (by assumption) (by first | assumption | (simp only [List.mem_cons, List.not_mem_nil, or_false, not_or]; first | assumption | (refine ⟨?_, ?_⟩ <;> assumption) | (apply Ne.symm; assumption))) ?_; walk_at "lk"))
local macro_rules | `(tactic| walk_at "lk") => `(tactic| (refine Same.get (by assumption) ?_; walk_at "lk"))
local macro_rules | `(tactic| walk_at "lk") => `(tactic| (refine upd_oth (by first | assumption | (apply Ne.symm; assumption)) ?_; walk_at "lk"))
local macro_rules | `(tactic| walk_at "lk") => `(tactic| (refine upd_old (by assumption) ?_; walk_at "lk"))
local macro_rules | `(tactic| walk_at "lk") => `(tactic| exact upd_same)
local macro_rules | `(tactic| walk_at "lk") => `(tactic| assumption)
local macro_rules | `(tactic| walk_at "len") => `(tactic| (simp only [S_len, sizeLine_eq, List.length_take, List.length_drop, List.length_append, List.length_cons, List.length_nil]; omega))
local macro_rules | `(tactic| walk_at "len") => `(tactic| (simp only [S_len, sizeLine_eq]; omega))
local macro_rules | `(tactic| walk_at "len") => `(tactic| (simp only [List.length_cons, List.length_nil, sizeLine_eq]; omega))
local macro_rules | `(tactic| walk_at "num") => `(tactic| first | assumption | omega | (simp only [List.length_take, List.length_drop, List.length_append, List.length_cons, List.length_nil]; omega))
local macro_rules | `(tactic| walk_at "ix") => `(tactic| first | exact rfl | assumption | exact atI_nat (by assumption))
local macro_rules | `(tactic| walk_at "putq") => `(tactic| exact rfl)
local macro_rules | `(tactic| walk_at "sq") => `(tactic| exact .inr (SqT.of (by walk_at "lk")))
local macro_rules | `(tactic| walk_at "sq") => `(tactic| exact .inl (SqL.of (by walk_at "lk")))
local macro_rules | `(tactic| walk_at "sq") => `(tactic| exact .inl (by assumption))
local macro_rules | `(tactic| walk_at "sq") => `(tactic| exact .inr (by assumption))
local macro_rules | `(tactic| walk_at "mapq") => `(tactic| exact (rfl : _ = List.map (fun l => V.str (S l)) [_, _, _, _, _]))
local macro_rules | `(tactic| walk_at "mapq") => `(tactic| exact (rfl : _ = List.map (fun l => V.str (S l)) [_, _, _, _]))
local macro_rules | `(tactic| walk_at "mapq") => `(tactic| exact (rfl : _ = List.map (fun l => V.str (S l)) [_, _, _]))
local macro_rules | `(tactic| walk_at "mapq") => `(tactic| exact (rfl : _ = List.map (fun l => V.str (S l)) [_, _]))
local macro_rules | `(tactic| walk_at "mapq") => `(tactic| exact (rfl : _ = List.map (fun l => V.str (S l)) [_]))
local macro_rules | `(tactic| walk_at "mapq") => `(tactic| exact rfl)
local macro_rules | `(tactic| walk_at "setq") => `(tactic| ((try simp only [Int.reduceToNat, List.set_cons_succ, List.set_cons_zero]); exact rfl))
local macro_rules | `(tactic| walk_at "toN") => `(tactic| first | exact rfl | exact (Int.natCast_add _ _).symm | exact (Int.natCast_add _ 1).symm)
local macro_rules | `(tactic| walk_at "cond") => `(tactic| first | omega | (simp only [List.length_map]; omega) | (refine Or.inl ⟨?_, ?_⟩ <;> omega) | (refine Or.inr ⟨?_, ?_⟩ <;> omega) | (refine ⟨?_, ?_⟩ <;> omega))
local macro_rules | `(tactic| walk_at "side") => `(tactic| omega)
local macro_rules | `(tactic| walk_at "side") => `(tactic| (walk_at "len"))
local macro_rules | `(tactic| walk_at "side") => `(tactic| exact ⟨_, by assumption⟩)
local macro_rules | `(tactic| walk_at "side") => `(tactic| exact ⟨_, SqL.of (by walk_at "lk")⟩)
local macro_rules | `(tactic| walk_at "side") => `(tactic| exact ⟨_, rfl⟩)
local macro_rules | `(tactic| walk_at "side") => `(tactic| exact .inl ⟨rfl, _, SqL.of (by walk_at "lk")⟩)
local macro_rules | `(tactic| walk_at "side") => `(tactic| exact .inr (SqT.of (by walk_at "lk")))
local macro_rules | `(tactic| walk_at "side") => `(tactic| exact .inl (SqL.of (by walk_at "lk")))
local macro_rules | `(tactic| walk_at "side") => `(tactic| exact SqT.of (by walk_at "lk"))
local macro_rules | `(tactic| walk_at "side") => `(tactic| exact SqL.of (by walk_at "lk"))
local macro_rules | `(tactic| walk_at "side") => `(tactic| (walk_at "lk"))
local macro_rules | `(tactic| walk_at "side") => `(tactic| rfl)
local macro_rules | `(tactic| walk_at "go1") => `(tactic| ((with_reducible apply Or.inr); (with_reducible apply Exists.intro); (with_reducible apply And.intro); exact rfl))
local macro_rules | `(tactic| walk_at "go1") => `(tactic| ((with_reducible apply Or.inl); (with_reducible apply Exists.intro); (with_reducible apply And.intro); exact rfl))
local macro_rules | `(tactic| walk_at "go1") => `(tactic| ((with_reducible apply And.intro); walk_at "side"))
local macro_rules | `(tactic| walk_at "go1") => `(tactic| ((with_reducible apply And.intro); exact rfl))
local macro_rules | `(tactic| walk_at "go1") => `(tactic| (with_reducible apply Exists.intro))
local macro_rules | `(tactic| walk_at "go1") => `(tactic| (walk_at "proj"))
local macro_rules | `(tactic| walk_at "go1") => `(tactic| ((with_reducible apply eSFld); (walk_at "lk"); assumption; assumption; (simp only [List.length_cons, List.length_nil]; decide); (walk_at "putq")))
local macro_rules | `(tactic| walk_at "go1") => `(tactic| (with_reducible refine iNFF ?_))
local macro_rules | `(tactic| walk_at "go1") => `(tactic| (with_reducible refine iNTT ?_))
local macro_rules | `(tactic| walk_at "go1") => `(tactic| (with_reducible refine iFF ?_))
local macro_rules | `(tactic| walk_at "go1") => `(tactic| (with_reducible refine iTT ?_))
local macro_rules | `(tactic| walk_at "go1") => `(tactic| ((with_reducible apply iListT); (walk_at "num")))
local macro_rules | `(tactic| walk_at "go1") => `(tactic| ((with_reducible apply iTruL); (first | assumption | exact SqL.of (by walk_at "lk"))))
local macro_rules | `(tactic| walk_at "go1") => `(tactic| ((with_reducible apply iTruCons); exact SqL.of (by walk_at "lk")))
local macro_rules | `(tactic| walk_at "go1") => `(tactic| ((with_reducible apply iTruNil); exact SqL.of (by walk_at "lk")))
local macro_rules | `(tactic| walk_at "go1") => `(tactic| ((with_reducible apply iAppend); (walk_at "lk"); (walk_at "len")))
local macro_rules | `(tactic| walk_at "go1") => `(tactic| ((with_reducible apply iCat); (walk_at "lk"); (walk_at "lk"); (walk_at "len")))
local macro_rules | `(tactic| walk_at "go1") => `(tactic| ((with_reducible apply iSlL); (first | assumption | exact SqL.of (by walk_at "lk"))))
local macro_rules | `(tactic| walk_at "go1") => `(tactic| (with_reducible refine iYes ?_))
local macro_rules | `(tactic| walk_at "go1") => `(tactic| (with_reducible refine iForR2 ?_))
local macro_rules | `(tactic| walk_at "go1") => `(tactic| (with_reducible refine iForR1 ?_))
local macro_rules | `(tactic| walk_at "go1") => `(tactic| (with_reducible refine iForS ?_))
local macro_rules | `(tactic| walk_at "go1") => `(tactic| (with_reducible refine iForL ?_))
local macro_rules | `(tactic| walk_at "go1") => `(tactic| (with_reducible refine iLcR1 ?_))
local macro_rules | `(tactic| walk_at "go1") => `(tactic| (with_reducible refine iLcS ?_))
local macro_rules | `(tactic| walk_at "go1") => `(tactic| (with_reducible refine iLcL ?_))
local macro_rules | `(tactic| walk_at "go1") => `(tactic| ((with_reducible apply iNInL); (walk_at "sq"); (walk_at "mapq")))
local macro_rules | `(tactic| walk_at "go1") => `(tactic| ((with_reducible apply iInL); (walk_at "sq"); (walk_at "mapq")))
local macro_rules | `(tactic| walk_at "go1") => `(tactic| (with_reducible refine iWF ?_))
local macro_rules | `(tactic| walk_at "go1") => `(tactic| (with_reducible refine iWT ?_))
local macro_rules | `(tactic| walk_at "go1") => `(tactic| (with_reducible refine iMeth ?_))
local macro_rules | `(tactic| walk_at "go1") => `(tactic| (with_reducible refine iMeth0 ?_))
local macro_rules | `(tactic| walk_at "go1") => `(tactic| (with_reducible refine iProp ?_))
local macro_rules | `(tactic| walk_at "go1") => `(tactic| (with_reducible refine iCon ?_))
local macro_rules | `(tactic| walk_at "go1") => `(tactic| (with_reducible refine iSFld ?_))
local macro_rules | `(tactic| walk_at "go1") => `(tactic| (with_reducible refine iFld ?_))
local macro_rules | `(tactic| walk_at "go1") => `(tactic| (with_reducible refine isi_bl_str ?_))
local macro_rules | `(tactic| walk_at "go1") => `(tactic| (with_reducible refine isi_bl_int ?_))
local macro_rules | `(tactic| walk_at "go1") => `(tactic| (with_reducible refine isi_bl_bool ?_))
local macro_rules | `(tactic| walk_at "go1") => `(tactic| (with_reducible refine isi_str_bool ?_))
local macro_rules | `(tactic| walk_at "go1") => `(tactic| (with_reducible refine isi_str_int ?_))
local macro_rules | `(tactic| walk_at "go1") => `(tactic| (with_reducible refine isi_str_str ?_))
local macro_rules | `(tactic| walk_at "go1") => `(tactic| (with_reducible refine isi_int_str ?_))
local macro_rules | `(tactic| walk_at "go1") => `(tactic| (with_reducible refine isi_int_bool ?_))
local macro_rules | `(tactic| walk_at "go1") => `(tactic| (with_reducible refine isi_int_int ?_))
local macro_rules | `(tactic| walk_at "go1") => `(tactic| (with_reducible refine iLst ?_))
local macro_rules | `(tactic| walk_at "go1") => `(tactic| (with_reducible refine iTup ?_))
local macro_rules | `(tactic| walk_at "go1") => `(tactic| (with_reducible refine iPart ?_))
local macro_rules | `(tactic| walk_at "go1") => `(tactic| (with_reducible refine iNoPart ?_))
local macro_rules | `(tactic| walk_at "go1") => `(tactic| ((with_reducible apply iSetL); (walk_at "lk"); exact rfl; (walk_at "setq")))
local macro_rules | `(tactic| walk_at "go1") => `(tactic| ((with_reducible apply iPartS); walk_at "num"))
local macro_rules | `(tactic| walk_at "go1") => `(tactic| (with_reducible refine iStartS ?_))
local macro_rules | `(tactic| walk_at "go1") => `(tactic| (with_reducible refine iFindS ?_))
local macro_rules | `(tactic| walk_at "go1") => `(tactic| ((with_reducible apply iFindNo); assumption))
local macro_rules | `(tactic| walk_at "go1") => `(tactic| ((with_reducible apply iFindYes); assumption))
local macro_rules | `(tactic| walk_at "go1") => `(tactic| (with_reducible refine iNotInS ?_))
local macro_rules | `(tactic| walk_at "go1") => `(tactic| (with_reducible refine iInS ?_))
local macro_rules | `(tactic| walk_at "go1") => `(tactic| ((with_reducible apply iLenS1); walk_at "num"))
local macro_rules | `(tactic| walk_at "go1") => `(tactic| ((with_reducible apply iAddS); walk_at "num"))
local macro_rules | `(tactic| walk_at "go1") => `(tactic| ((with_reducible apply iSlS); walk_at "num"))
local macro_rules | `(tactic| walk_at "go1") => `(tactic| ((with_reducible apply iSlMid); walk_at "num"; walk_at "toN"; walk_at "toN"))
local macro_rules | `(tactic| walk_at "go1") => `(tactic| ((with_reducible apply iSlFrom); walk_at "num"; walk_at "toN"))
local macro_rules | `(tactic| walk_at "go1") => `(tactic| ((with_reducible apply iSlTo); walk_at "num"; walk_at "toN"))
local macro_rules | `(tactic| walk_at "go1") => `(tactic| ((with_reducible apply iIxS); walk_at "num"; walk_at "ix"))
local macro_rules | `(tactic| walk_at "go1") => `(tactic| ((with_reducible apply iIxT); exact SqT.of (by walk_at "lk"); walk_at "ix"))
local macro_rules | `(tactic| walk_at "go1") => `(tactic| ((with_reducible apply iIxL); exact SqL.of (by walk_at "lk"); walk_at "ix"))
local macro_rules | `(tactic| walk_at "go1") => `(tactic| (with_reducible refine iSl ?_))
local macro_rules | `(tactic| walk_at "go1") => `(tactic| (with_reducible refine iBM ?_))
local macro_rules | `(tactic| walk_at "go1") => `(tactic| (with_reducible refine iM1 ?_))
local macro_rules | `(tactic| walk_at "go1") => `(tactic| ((with_reducible apply iI); walk_at "cond"))
local macro_rules | `(tactic| walk_at "go1") => `(tactic| ((with_reducible apply iNe); exact rfl))
local macro_rules | `(tactic| walk_at "go1") => `(tactic| ((with_reducible apply iEq); exact rfl))
local macro_rules | `(tactic| walk_at "go1") => `(tactic| (with_reducible refine iNext ?_))
local macro_rules | `(tactic| walk_at "go1") => `(tactic| (with_reducible refine iDrop ?_))
local macro_rules | `(tactic| walk_at "go1") => `(tactic| (with_reducible refine iRetN ?_))
local macro_rules | `(tactic| walk_at "go1") => `(tactic| (with_reducible refine iRet ?_))
local macro_rules | `(tactic| walk_at "go1") => `(tactic| (with_reducible refine iIfE ?_))
local macro_rules | `(tactic| walk_at "go1") => `(tactic| (with_reducible refine iNotV ?_))
local macro_rules | `(tactic| walk_at "go1") => `(tactic| (with_reducible refine iOrV ?_))
local macro_rules | `(tactic| walk_at "go1") => `(tactic| (with_reducible refine iAndV ?_))
local macro_rules | `(tactic| walk_at "go1") => `(tactic| (with_reducible refine iNot ?_))
local macro_rules | `(tactic| walk_at "go1") => `(tactic| (with_reducible refine iOr ?_))
local macro_rules | `(tactic| walk_at "go1") => `(tactic| (with_reducible refine iAnd ?_))
local macro_rules | `(tactic| walk_at "go1") => `(tactic| (with_reducible refine iTest ?_))
local macro_rules | `(tactic| walk_at "go1") => `(tactic| (with_reducible refine iB ?_))
local macro_rules | `(tactic| walk_at "go1") => `(tactic| (with_reducible refine iIfS ?_))
local macro_rules | `(tactic| walk_at "go1") => `(tactic| (with_reducible refine iUn ?_))
local macro_rules | `(tactic| walk_at "go1") => `(tactic| (with_reducible refine iU ?_))
local macro_rules | `(tactic| walk_at "go1") => `(tactic| (with_reducible refine iI0 ?_))
local macro_rules | `(tactic| walk_at "go1") => `(tactic| (with_reducible refine iCall ?_))
local macro_rules | `(tactic| walk_at "go1") => `(tactic| (with_reducible refine iCall0 ?_))
local macro_rules | `(tactic| walk_at "go1") => `(tactic| (with_reducible refine iCB ?_))
local macro_rules | `(tactic| walk_at "go1") => `(tactic| (with_reducible refine iNil ?_))
local macro_rules | `(tactic| walk_at "go1") => `(tactic| (with_reducible refine iCons ?_))
local macro_rules | `(tactic| walk_at "go1") => `(tactic| (with_reducible refine iSub ?_))
local macro_rules | `(tactic| walk_at "go1") => `(tactic| (with_reducible refine iName ?_))
local macro_rules | `(tactic| walk_at "go1") => `(tactic| (with_reducible refine iAsg ?_))
local macro_rules | `(tactic| walk_at "go1") => `(tactic| (with_reducible refine iOp ?_))
local macro_rules | `(tactic| walk_at "go1") => `(tactic| (with_reducible refine iC ?_))
local macro_rules | `(tactic| walk_at "go1") => `(tactic| ((with_reducible apply iVar); exact rfl))
local macro_rules | `(tactic| walk_at "go1") => `(tactic| (with_reducible refine iSeq ?_))
local macro_rules | `(tactic| walk_at "fr") => `(tactic| (refine Fr.trans ?_ (Fr.wk (Fr.wk (by assumption))); walk_at "fr"))
local macro_rules | `(tactic| walk_at "fr") => `(tactic| (refine Fr.trans ?_ (Fr.wk1 (by assumption)); walk_at "fr"))
local macro_rules | `(tactic| walk_at "fr") => `(tactic| (refine Fr.trans ?_ (Fr.wk (by assumption)); walk_at "fr"))
local macro_rules | `(tactic| walk_at "fr") => `(tactic| (refine Fr.trans ?_ (by assumption); walk_at "fr"))
local macro_rules | `(tactic| walk_at "fr") => `(tactic| (refine Fr.trans ?_ (Fr.of_same (by assumption)); walk_at "fr"))
local macro_rules | `(tactic| walk_at "fr") => `(tactic| (refine Fr.trans ?_ (Fr.upd_new (by assumption)); walk_at "fr"))
local macro_rules | `(tactic| walk_at "fr") => `(tactic| (refine Fr.trans ?_ Fr.in2; walk_at "fr"))
local macro_rules | `(tactic| walk_at "fr") => `(tactic| (refine Fr.trans ?_ Fr.in1; walk_at "fr"))
local macro_rules | `(tactic| walk_at "fr") => `(tactic| (refine Fr.trans ?_ Fr.in0; walk_at "fr"))
local macro_rules | `(tactic| walk_at "fr") => `(tactic| assumption)
local macro_rules | `(tactic| walk_at "fr") => `(tactic| exact Fr.refl _ _)
local macro_rules | `(tactic| walk_at "proj") => `(tactic| (with_reducible refine (show (Ends.mk _ _ _ _).rt _ _ from ?_); dsimp only))
local macro_rules | `(tactic| walk_at "proj") => `(tactic| (with_reducible refine (show (Ends.mk _ _ _ _).nx _ _ from ?_); dsimp only))
local macro_rules | `(tactic| walk_at "br0") => `(tactic| (with_reducible apply iWDN))
local macro_rules | `(tactic| walk_at "br0") => `(tactic| (with_reducible apply iWD))
local macro_rules | `(tactic| walk_at "br0") => `(tactic| (with_reducible apply iBbn))
local macro_rules | `(tactic| walk_at "br0") => `(tactic| (with_reducible apply iBb))
local macro_rules | `(tactic| walk_at "br0") => `(tactic| (with_reducible apply iBnd))
local macro_rules | `(tactic| walk_at "br0") => `(tactic| (with_reducible apply iBd))
local macro_rules | `(tactic| walk_at "dead") => `(tactic| first | (exfalso; omega) | contradiction)
local macro_rules | `(tactic| walk_at "br") => `(tactic| (walk_at "br0" <;> (intro hbr; (try simp only [V.str.injEq, V.int.injEq, V.bl.injEq, Vk.S_inj, reduceCtorEq, List.cons.injEq, and_true, not_true_eq_false, not_false_eq_true, decide_eq_true_eq, decide_eq_false_iff_not, Nat.reduceEqDiff, List.length_cons, List.length_nil, and_false, false_and, eq_self] at hbr); (try walk_at "dead"))))
local macro_rules | `(tactic| walk_at "new") => `(tactic| (refine fun (p : Addr) (hp : _ = none) => ?_))
local macro_rules | `(tactic| walk_at "go") => `(tactic| repeat' (first | walk_at "go1" | walk_at "br" | walk_at "new" | (refine fun (y z : V) => ?_)))
section
set_option Elab.async false
set_option linter.all false
set_option maxRecDepth 100000
set_option maxHeartbeats 4000000
open PySem PySem.Spec PyProof.Rows L2

local macro_rules | `(tactic| walk_at "side") => `(tactic| exact .inl (by assumption))
theorem _root_.L2.PE.imp {X : Cx} {e : Expr} {t t' : TE} (h : PE X e t) (k : ∀ σ H Q, t' σ H Q → t σ H Q) : PE X e t' := ⟨fun pins s σ H Q I q => h.run pins s σ H Q I (k σ H Q q)⟩
theorem _root_.L2.PS.imp {X : Cx} {st : Stmt} {t t' : TS} (h : PS X st t) (k : ∀ D σ H, t' D σ H → t D σ H) : PS X st t' := ⟨fun pins s σ H D I q => h.run pins s σ H D I (k D σ H q)⟩
theorem _root_.L2.Room.unitu {k : Nat} {A : Around} (r : Room (k + 1) A) : A.units + 65 < cLine := by have := r.un; omega
theorem passE {X : Cx} {P : Program} {w : World} : Passes (L2.CX P w) X (fun _ _ _ => False) := fun _ _ _ _ _ _ _ h => by
  obtain ⟨_, _, _, _, _, _, _, _, _, _, _, _, z⟩ := h
  exact z.elim
/-- a field, K named: inside a comprehension -/
theorem pe_fldK {X : Cx} {K : PySem.W.Frag} {e : Expr} {f : Str} {pos : Pos} {ta : TE} (hK : X.K = K) (he : PE X e ta) (hb : attributeBase e f X.env (eval e X.env) = eval e X.env) : PE X (.Attribute e f pos) (tFld K ta f) := hK ▸ pe_fld he hb
/-- an error class and its own __init__ -/
structure EF (K : PySem.W.Frag) (mg : Str → Option Value) (N : Str) (B fB : Addr) (fd : FuncData) (ps : List Str) : Prop where
  ox : OexC K B
  iC : PySem.W.findIn K (.ref B) "__init__" = some (some (.ref fB))
  tI : PySem.W.typeIn K (.ref fB) = some (.type "function")
  gB : mg N = some (.ref B)
  bB : Binds K fd ps []
structure Ad where
  aDiff : Addr
  aAlEq : Addr
  aIsSign : Addr
  aIsText : Addr
  aTInit : Addr
  aTGet : Addr
  aTLen : Addr
  aTPairs : Addr
  aPInit : Addr
  aPHeard : Addr
  aPSaid : Addr
  aPTable : Addr
  aKKnown : Addr
  aInOrder : Addr
  aBag : Addr
  aTake : Addr
  aNames : Addr
  aSigns : Addr
  aMake : Addr
  aRows : Addr
  aIs : Addr
  aStrange : Addr
  aOdd : Addr
  aNoSign : Addr
  aKinds : Addr
  aRight : Addr
  aSpoilt : Addr
  aRefused : Addr
  aDue : Addr
  aDraw : Addr
  aLaw : Addr
  cAlphabet : Addr
  cTable : Addr
  cPerson : Addr
  cKnower : Addr
  cDoubter : Addr
  cKD : Addr
  pTable : Addr
  pKnown : Addr
  cTale : Addr
  cUnk : Addr
  cBadPair : Addr
  cBadPerson : Addr
  eBadPair : Addr
  eUnk : Addr
  eBadPerson : Addr
  aKInit : Addr
  aKSaid : Addr
  aDSaid : Addr
  aKDSaid : Addr
  tJoint : Tok
structure Fd where
  dDiff : FuncData
  dAlEq : FuncData
  dIsSign : FuncData
  dIsText : FuncData
  dTInit : FuncData
  dTGet : FuncData
  dTLen : FuncData
  dTPairs : FuncData
  dPInit : FuncData
  dPHeard : FuncData
  dPSaid : FuncData
  dPTable : FuncData
  dKKnown : FuncData
  dInOrder : FuncData
  dBag : FuncData
  dTake : FuncData
  dNames : FuncData
  dSigns : FuncData
  dMake : FuncData
  dRows : FuncData
  dIs : FuncData
  dStrange : FuncData
  dOdd : FuncData
  dNoSign : FuncData
  dKinds : FuncData
  dRight : FuncData
  dSpoilt : FuncData
  dRefused : FuncData
  dDue : FuncData
  dDraw : FuncData
  dLaw : FuncData
  eBadPair : FuncData
  eUnk : FuncData
  eBadPerson : FuncData
  dKInit : FuncData
  dKSaid : FuncData
  dDSaid : FuncData
  dKDSaid : FuncData
abbrev sAlEq : Stmt := inClass (top 11) 3
abbrev sIsSign : Stmt := inClass (top 11) 6
abbrev sIsText : Stmt := inClass (top 11) 7
abbrev sTInit : Stmt := inClass (top 16) 0
abbrev sTGet : Stmt := inClass (top 16) 7
abbrev sTLen : Stmt := inClass (top 16) 10
abbrev sTPairs : Stmt := inClass (top 16) 18
abbrev sPInit : Stmt := inClass (top 19) 0
abbrev sPHeard : Stmt := inClass (top 19) 1
abbrev sPSaid : Stmt := inClass (top 19) 2
abbrev sPTable : Stmt := inClass (top 19) 3
abbrev sKKnown : Stmt := inClass (top 20) 1
abbrev sInOrder : Stmt := top 23
abbrev sBag : Stmt := top 25
abbrev sTake : Stmt := top 26
abbrev sNames : Stmt := top 27
abbrev sSigns : Stmt := top 28
abbrev sMake : Stmt := top 29
abbrev sRows : Stmt := top 30
abbrev sIs : Stmt := top 31
abbrev sStrange : Stmt := top 32
abbrev sOdd : Stmt := top 33
abbrev sNoSign : Stmt := top 34
abbrev sKinds : Stmt := top 35
abbrev sRight : Stmt := top 36
abbrev sSpoilt : Stmt := top 37
abbrev sRefused : Stmt := top 38
abbrev sDue : Stmt := top 39
abbrev sDraw : Stmt := top 40
abbrev sLaw : Stmt := top 41
structure Fns (K : PySem.W.Frag) (mg : Str → Option Value) (a : Ad) (d : Fd) : Prop extends TxA K mg a.aDiff where
  FDiff : Fun K "differ_within" "differ_within" sDiff a.aDiff d.dDiff
  bDiff : Binds K d.dDiff ["text", "allowed"] []
  mAlEq : Meth K a.cAlphabet "__eq__" a.aAlEq
  FAlEq : Fun K "__eq__" "Alphabet.__eq__" sAlEq a.aAlEq d.dAlEq
  bAlEq : Binds K d.dAlEq ["self", "other"] []
  mIsSign : Meth K a.cAlphabet "is_sign" a.aIsSign
  FIsSign : Fun K "is_sign" "Alphabet.is_sign" sIsSign a.aIsSign d.dIsSign
  bIsSign : Binds K d.dIsSign ["self", "text"] []
  mIsText : Meth K a.cAlphabet "is_text" a.aIsText
  FIsText : Fun K "is_text" "Alphabet.is_text" sIsText a.aIsText d.dIsText
  bIsText : Binds K d.dIsText ["self", "text"] []
  mTInit : Meth K a.cTable "__init__" a.aTInit
  FTInit : Fun K "__init__" "Table.__init__" sTInit a.aTInit d.dTInit
  bTInit : Binds K d.dTInit ["self", "alphabet", "pairs"] []
  mTGet : Meth K a.cTable "__getitem__" a.aTGet
  FTGet : Fun K "__getitem__" "Table.__getitem__" sTGet a.aTGet d.dTGet
  bTGet : Binds K d.dTGet ["self", "sign"] []
  mTLen : Meth K a.cTable "__len__" a.aTLen
  FTLen : Fun K "__len__" "Table.__len__" sTLen a.aTLen d.dTLen
  bTLen : Binds K d.dTLen ["self"] []
  mTPairs : Meth K a.cTable "pairs" a.aTPairs
  FTPairs : Fun K "pairs" "Table.pairs" sTPairs a.aTPairs d.dTPairs
  bTPairs : Binds K d.dTPairs ["self"] []
  mPInit : Meth K a.cPerson "__init__" a.aPInit
  FPInit : Fun K "__init__" "Person.__init__" sPInit a.aPInit d.dPInit
  bPInit : Binds K d.dPInit ["self", "alphabet", "hears", "says"] []
  mPHeard : Meth K a.cPerson "heard" a.aPHeard
  FPHeard : Fun K "heard" "Person.heard" sPHeard a.aPHeard d.dPHeard
  bPHeard : Binds K d.dPHeard ["self", "sign"] []
  mPSaid : Meth K a.cPerson "said" a.aPSaid
  FPSaid : Fun K "said" "Person.said" sPSaid a.aPSaid d.dPSaid
  bPSaid : Binds K d.dPSaid ["self", "sign"] []
  FPTable : Fun K "table" "Person.table" sPTable a.aPTable d.dPTable
  bPTable : Binds K d.dPTable ["self"] []
  FKKnown : Fun K "known" "Knower.known" sKKnown a.aKKnown d.dKKnown
  bKKnown : Binds K d.dKKnown ["self"] []
  gInOrder : mg "in_order" = some (.ref a.aInOrder)
  FInOrder : Fun K "in_order" "in_order" sInOrder a.aInOrder d.dInOrder
  bInOrder : Binds K d.dInOrder ["signs"] []
  gBag : mg "_law_bag" = some (.ref a.aBag)
  FBag : Fun K "_law_bag" "_law_bag" sBag a.aBag d.dBag
  bBag : Binds K d.dBag ["_law_script"] []
  gTake : mg "_law_take" = some (.ref a.aTake)
  FTake : Fun K "_law_take" "_law_take" sTake a.aTake d.dTake
  bTake : Binds K d.dTake ["_law_bag_here", "_law_size"] []
  gNames : mg "_law_names" = some (.ref a.aNames)
  FNames : Fun K "_law_names" "_law_names" sNames a.aNames d.dNames
  bNames : Binds K d.dNames ["_law_bag_here", "_law_count"] []
  gSigns : mg "_law_signs" = some (.ref a.aSigns)
  FSigns : Fun K "_law_signs" "_law_signs" sSigns a.aSigns d.dSigns
  bSigns : Binds K d.dSigns ["_law_letters"] []
  gMake : mg "_law_make" = some (.ref a.aMake)
  FMake : Fun K "_law_make" "_law_make" sMake a.aMake d.dMake
  bMake : Binds K d.dMake ["_law_alphabet", "_law_kind", "_law_hears", "_law_says", "_law_knows"] []
  gRows : mg "_law_said" = some (.ref a.aRows)
  FRows : Fun K "_law_said" "_law_said" sRows a.aRows d.dRows
  bRows : Binds K d.dRows ["_law_signs_here", "_law_kind", "_law_hears", "_law_says", "_law_knows"] []
  gIs : mg "_law_is" = some (.ref a.aIs)
  FIs : Fun K "_law_is" "_law_is" sIs a.aIs d.dIs
  bIs : Binds K d.dIs ["_law_table", "_law_alphabet", "_law_signs_here", "_law_outs"] []
  gStrange : mg "_law_strange" = some (.ref a.aStrange)
  FStrange : Fun K "_law_strange" "_law_strange" sStrange a.aStrange d.dStrange
  bStrange : Binds K d.dStrange ["_law_bag_here", "_law_signs_here"] []
  gOdd : mg "_law_odd" = some (.ref a.aOdd)
  FOdd : Fun K "_law_odd" "_law_odd" sOdd a.aOdd d.dOdd
  bOdd : Binds K d.dOdd ["_law_bag_here", "_law_signs_here"] []
  gNoSign : mg "_law_no_sign" = some (.ref a.aNoSign)
  FNoSign : Fun K "_law_no_sign" "_law_no_sign" sNoSign a.aNoSign d.dNoSign
  bNoSign : Binds K d.dNoSign ["_law_person", "_law_strange_here", "_law_hearing"] []
  gKinds : mg "_law_kinds" = some (.ref a.aKinds)
  FKinds : Fun K "_law_kinds" "_law_kinds" sKinds a.aKinds d.dKinds
  bKinds : Binds K d.dKinds ["_law_person", "_law_kind"] []
  gRight : mg "_law_right" = some (.ref a.aRight)
  FRight : Fun K "_law_right" "_law_right" sRight a.aRight d.dRight
  bRight : Binds K d.dRight ["_law_person", "_law_kind", "_law_alphabet", "_law_signs_here", "_law_hears", "_law_says", "_law_knows"] []
  gSpoilt : mg "_law_spoilt" = some (.ref a.aSpoilt)
  FSpoilt : Fun K "_law_spoilt" "_law_spoilt" sSpoilt a.aSpoilt d.dSpoilt
  bSpoilt : Binds K d.dSpoilt ["_law_bag_here", "_law_signs_here", "_law_hears", "_law_says", "_law_knows", "_law_wrong"] []
  gRefused : mg "_law_refused" = some (.ref a.aRefused)
  FRefused : Fun K "_law_refused" "_law_refused" sRefused a.aRefused d.dRefused
  bRefused : Binds K d.dRefused ["_law_alphabet", "_law_kind", "_law_parts", "_law_due_here"] []
  gDue : mg "_law_due" = some (.ref a.aDue)
  FDue : Fun K "_law_due" "_law_due" sDue a.aDue d.dDue
  bDue : Binds K d.dDue ["_law_kind", "_law_wrong"] []
  gDraw : mg "_law_draw" = some (.ref a.aDraw)
  FDraw : Fun K "_law_draw" "_law_draw" sDraw a.aDraw d.dDraw
  bDraw : Binds K d.dDraw ["_law_bag_here", "_law_signs_here", "_law_count"] []
  gLaw : mg "law" = some (.ref a.aLaw)
  FLaw : Fun K "law" "law" sLaw a.aLaw d.dLaw
  bLaw : Binds K d.dLaw ["_law_script"] []
  gcTaleError : mg "TaleError" = some (.ref a.cTale)
  gcUnknownSign : mg "UnknownSign" = some (.ref a.cUnk)
  gcBadPair : mg "BadPair" = some (.ref a.cBadPair)
  gcBadPerson : mg "BadPerson" = some (.ref a.cBadPerson)
  gcTable : mg "Table" = some (.ref a.cTable)
  gcPerson : mg "Person" = some (.ref a.cPerson)
  gcKnower : mg "Knower" = some (.ref a.cKnower)
  gcDoubter : mg "Doubter" = some (.ref a.cDoubter)
  gcKnowingDoubter : mg "KnowingDoubter" = some (.ref a.cKD)
  xBadPair : EF K mg "BadPair" a.cBadPair a.eBadPair d.eBadPair ["self", "index"]
  xUnknownSign : EF K mg "UnknownSign" a.cUnk a.eUnk d.eUnk ["self", "sign"]
  xBadPerson : EF K mg "BadPerson" a.cBadPerson a.eBadPerson d.eBadPerson ["self", "part"]
  clA : Cls K a.cAlphabet
  clT : Cls K a.cTable
  nL : NoAttr K a.cAlphabet "letters"
  nV : NoAttr K a.cAlphabet "vowels"
  nC : NoAttr K a.cAlphabet "consonants"
  nS : NoAttr K a.cAlphabet "signs"
  nTa : NoAttr K a.cTable "alphabet"
  nTp : NoAttr K a.cTable "_pairs"
  mkT : PySem.W.makesIn K a.cTable = true
  kpT : PySem.W.keepIn K (.ref a.cTable) = true
  fnTGet : PySem.W.fnIn K a.aTGet = true
  eqA : PySem.W.notFirst K a.cAlphabet (.ref a.cAlphabet) = true
  icT : PySem.W.findIn K (.ref a.cTable) "__class__" = some (some (.builtin "object.__class__"))
  imT : PySem.W.mroIn K a.cTable (.type "object") = some true
  igO : PySem.W.specialIn K (.builtin "object.__class__") "__get__" = some (some (.builtin "getset_descriptor.__get__"))
  itO : PySem.W.takesIn K (.builtin "object.__class__") = some true
  joint : Con K a.cAlphabet "JOINT" (.str (S [45])) (.str "-" a.tJoint)
def kStrE1_0 : List Nat := [97, 98, 99, 100, 101, 102, 103, 104, 105, 106, 107, 108, 109, 110, 111, 112, 113, 114, 115, 116, 117, 118, 119, 120, 121, 122]
theorem kStrE1_0_eq : PySem.Str.ofString "abcdefghijklmnopqrstuvwxyz" = S kStrE1_0 := by decide +kernel
/-- the bag of draws -/
def BagB (H : Hp) (b g u : Addr) : Prop := ∃ (gl sl : List Int) (n r : Int), H b = some (.lst [.ref g, .ref u, .int n, .int r]) ∧ H g = some (.lst (gl.map V.int)) ∧ H u = some (.lst (sl.map V.int)) ∧ b ≠ g ∧ b ≠ u ∧ g ≠ u ∧ gl.length ≤ 63 ∧ sl.length ≤ 63
theorem BagB.fr {H H' : Hp} {b g u : Addr} {L : List Addr} (h : BagB H b g u) (f : Fr L H H') (h1 : b ∉ L) (h2 : g ∉ L) (h3 : u ∉ L) : BagB H' b g u := by
  obtain ⟨gl, sl, n, r, e1, e2, e3, z⟩ := h
  exact ⟨gl, sl, n, r, f _ _ h1 e1, f _ _ h2 e2, f _ _ h3 e3, z⟩
theorem BagB.same {H H' : Hp} {b g u : Addr} (h : BagB H b g u) (f : Same H H') : BagB H' b g u := h.fr (L := []) (Fr.of_same f) (by simp) (by simp) (by simp)
theorem BagB.ne {H : Hp} {b g u p : Addr} (h : BagB H b g u) (hp : H p = none) : p ≠ b ∧ p ≠ g ∧ p ≠ u := by
  obtain ⟨gl, sl, n, r, e1, e2, e3, z⟩ := h
  exact ⟨(ne_of_none e1 hp).symm, (ne_of_none e2 hp).symm, (ne_of_none e3 hp).symm⟩
theorem BagB.laid {H : Hp} {b g u p : Addr} {o : HO} (h : BagB H b g u) (hp : H p = none) : BagB (upd H p o) b g u := h.same (Same.upd_new hp)
theorem BagB.upd {H : Hp} {b g u p : Addr} {o : HO} (h : BagB H b g u) (h1 : p ≠ b) (h2 : p ≠ g) (h3 : p ≠ u) : BagB (L2.upd H p o) b g u := h.fr (L := [p]) Fr.in0 (by simpa using h1.symm) (by simpa using h2.symm) (by simpa using h3.symm)
theorem ix0 {n : Nat} : ixN (n + 1) 0 = some 0 := by
  unfold ixN
  rw [if_pos (Int.le_refl 0), if_pos (by omega)]
  rfl
theorem iPopAt {l : Addr} {xs : List V} {r : Nat} {y : V} {H : Hp} {Q : VK} (hH : H l = some (.lst xs)) (hy : xs[r]? = some y) (hz : xs.length ≤ 1000) (h : Q y (L2.upd H l (.lst (xs.eraseIdx r)))) : rPopAt (.ref l) [.int (r : Int)] H Q := by
  have hr : r < xs.length := (List.getElem?_eq_some_iff.mp hy).1
  refine ⟨l, xs, r, r, y, rfl, rfl, hH, by omega, by omega, ?_, hy, h⟩
  unfold seqIndex?
  simp
  omega
section
variable {P : Program} {w : World} {K : PySem.W.Frag} {mg : Str → Option Value} {base : Heap} {a : Ad} {d : Fd}
def spTake : Sp := fun vs H Q _ => ∃ (b g u : Addr) (n : Nat), vs = [.ref b, .int (n : Int)] ∧ BagB H b g u ∧ 0 < n ∧ n < 2 ^ 29 ∧ ∀ (r : Nat) (H' : Hp), r < n → BagB H' b g u → Fr [b, g] H H' → Q (.int (r : Int)) H'
theorem scTake : FnScope ["_law_bag_here", "_law_size", "_law_left", "_law_cell"] ["_law_bag_here", "_law_size"] (defScope sTake) := ⟨rfl, rfl, rfl, by decide +kernel, rfl, by decide +kernel, by decide +kernel⟩
theorem ok_take (T : Fns K mg a d) : FnOk P w K mg base CX0 1 a.aTake d.dTake ["_law_bag_here", "_law_size"] spTake := by
  refine T.FTake.ok scTake (fun vs H Q E h => ?_) (fun cdv A outer s H vs Q E hr h => ?_)
  · obtain ⟨b, g, u, n, rfl, _⟩ := h
    rfl
  · obtain ⟨b, g, u, n, rfl, ⟨gl, sl, m, r, hb, hg, hs, n1, n2, n3, l1, l2⟩, hn, hn2, k⟩ := h
    have fin : ∀ (z : Int) (H' : Hp), BagB H' b g u → Fr [b, g] H H' → Q (.int (z % (n : Int))) H' := fun z H' h1 h2 => by
      have e0 := Int.emod_nonneg z (b := (n : Int)) (by omega)
      have e1 := Int.emod_lt_of_pos z (b := (n : Int)) (by omega)
      obtain ⟨r, hr⟩ : ∃ r : Nat, z % (n : Int) = (r : Int) := ⟨(z % (n : Int)).toNat, by omega⟩
      rw [hr]
      exact k r H' (by omega) h1 h2
    clear k
    refine ⟨_, ((pss_cons (ps_asg (pe_op op_add (pe_ix (r := rIxL K) ix_list (pv 0) pe_int (fun _ _ => rfl)) pe_int) (pg_sub (pv 0) pe_int set_list))
      (pss_cons (ps_if (pt_cmpR op_gt (pe_callB call_len_seq (by rfl) T.z_len (by decide +kernel) (pa_cons (pe_ix (r := rIxL K) ix_list (pv 0) pe_int (fun _ _ => rfl)) pa_nil)) pe_int (nomark _)) (pss_cons (ps_set (i := 2) scTake.nd rfl (Or.inl rfl) (pe_callTy call_int1 (by rfl) T.z_int (by decide +kernel) (pa_cons (pe_ix (r := rIxL K) ix_list (pe_ix (r := rIxL K) ix_list (pv 0) pe_int (fun _ _ => rfl)) pe_int (fun _ _ => rfl)) pa_nil)))
      (pss_cons (ps_asg (pe_op op_fdivN (pv 2) (pv 1)) (pg_sub (pe_ix (r := rIxL K) ix_list (pv 0) pe_int (fun _ _ => rfl)) pe_int set_list))
      (pss_cons (ps_if (pt_cmpR op_eq (pe_op op_fdivN (pv 2) (pv 1)) pe_int (nomark _)) (pss_one (ps_expr (pe_bm PySem.F.plainAttrs_list PySem.F.slot_list_pop PySem.F.type_list_pop mt_popAt (pe_ix (r := rIxL K) ix_list (pv 0) pe_int (fun _ _ => rfl)) (pa_cons pe_int pa_nil)))) pss_nil)
      (pss_one (ps_ret (pe_op op_mod (pe_callTy call_int1 (by rfl) T.z_int (by decide +kernel) (pa_cons (pv 2) pa_nil)) (pv 1))))))) pss_nil)
      (pss_cons (ps_if (pt_cmpR op_eq (pe_callB call_len_seq (by rfl) T.z_len (by decide +kernel) (pa_cons (pe_ix (r := rIxL K) ix_list (pv 0) pe_int (fun _ _ => rfl)) pa_nil)) pe_int (nomark _)) (pss_one (ps_ret (pe_op op_mod (pe_callTy call_int1 (by rfl) T.z_int (by decide +kernel) (pa_cons (pe_ix (r := rIxL K) ix_list (pv 0) pe_int (fun _ _ => rfl)) pa_nil)) (pv 1)))) pss_nil)
      (pss_cons (ps_set (i := 3) scTake.nd rfl (Or.inl rfl) (pe_ix (r := rIxL K) ix_list (pe_ix (r := rIxL K) ix_list (pv 0) pe_int (fun _ _ => rfl)) (pe_op op_mod (pe_callTy call_int1 (by rfl) T.z_int (by decide +kernel) (pa_cons (pe_ix (r := rIxL K) ix_list (pv 0) pe_int (fun _ _ => rfl)) pa_nil)) (pe_callB call_len_seq (by rfl) T.z_len (by decide +kernel) (pa_cons (pe_ix (r := rIxL K) ix_list (pv 0) pe_int (fun _ _ => rfl)) pa_nil))) (fun _ _ => rfl)))
      (pss_cons (ps_asg (pe_op op_mod (pe_callTy call_int1 (by rfl) T.z_int (by decide +kernel) (pa_cons (pe_op op_add (pe_op op_add (pe_op op_mul (pe_callTy call_int1 (by rfl) T.z_int (by decide +kernel) (pa_cons (pe_ix (r := rIxL K) ix_list (pv 0) pe_int (fun _ _ => rfl)) pa_nil)) pe_int) (pv 3)) (pe_ix (r := rIxL K) ix_list (pv 0) pe_int (fun _ _ => rfl))) pa_nil)) pe_int) (pg_sub (pv 0) pe_int set_list))
      (pss_one (ps_ret (pe_op op_mod (pe_op op_fdiv (pe_op op_mod (pe_callTy call_int1 (by rfl) T.z_int (by decide +kernel) (pa_cons (pe_op op_add (pe_op op_mul (pe_callTy call_int1 (by rfl) T.z_int (by decide +kernel) (pa_cons (pe_ix (r := rIxL K) ix_list (pv 0) pe_int (fun _ _ => rfl)) pa_nil)) pe_int) (pe_op op_mul (pe_ix (r := rIxL K) ix_list (pv 0) pe_int (fun _ _ => rfl)) pe_int)) pa_nil)) pe_int) pe_int) (pv 1)))))))))), ?_⟩
    walk_at "go"
    · rename_i h
      rcases gl with _ | ⟨z, gl⟩
      · simp at h
      have hg1 : (upd H b (.lst [.ref g, .ref u, .int (m + 1), .int r])) g = some (.lst (.int z :: gl.map V.int)) := upd_oth n1.symm hg
      have hb1 : (upd H b (.lst [.ref g, .ref u, .int (m + 1), .int r])) b = some (.lst [.ref g, .ref u, .int (m + 1), .int r]) := upd_same
      have hu : (upd H b (.lst [.ref g, .ref u, .int (m + 1), .int r])) u = some (.lst (sl.map V.int)) := upd_oth n2.symm hs
      have f1 : Fr [b, g] H (upd H b (.lst [.ref g, .ref u, .int (m + 1), .int r])) := Fr.in0
      generalize upd H b (.lst [.ref g, .ref u, .int (m + 1), .int r]) = H1 at hg1 hb1 hu f1 ⊢
      refine iIxL (SqL.of hg1) (atI_nat (j := 0) rfl) ?_
      walk_at "go"
      refine iSetL (j := 0) (ys := .int (z.fdiv n) :: gl.map V.int) hg1 ix0 rfl ?_
      have hg2 : (upd H1 g (.lst (.int (z.fdiv n) :: gl.map V.int))) g = some (.lst (.int (z.fdiv n) :: gl.map V.int)) := upd_same
      have hb2 : (upd H1 g (.lst (.int (z.fdiv n) :: gl.map V.int))) b = some (.lst [.ref g, .ref u, .int (m + 1), .int r]) := upd_oth n1 hb1
      have hs2 : (upd H1 g (.lst (.int (z.fdiv n) :: gl.map V.int))) u = some (.lst (sl.map V.int)) := upd_oth n3.symm hu
      have f2 : Fr [b, g] H (upd H1 g (.lst (.int (z.fdiv n) :: gl.map V.int))) := Fr.trans f1 Fr.in1
      show _
      generalize upd H1 g (.lst (.int (z.fdiv n) :: gl.map V.int)) = H2 at hg2 hb2 hs2 f2 ⊢
      rw [List.length_cons] at l1
      walk_at "go"
      · refine iPopAt (r := 0) hg2 rfl (by rw [List.length_cons, List.length_map]; omega) ?_
        walk_at "go"
        exact fin _ _ ⟨gl, sl, _, _, upd_oth n1 hb2, upd_same, upd_oth n3.symm hs2, n1, n2, n3, by omega, l2⟩ (Fr.trans f2 Fr.in1)
      · exact fin _ _ ⟨z.fdiv n :: gl, sl, _, _, hb2, hg2, hs2, n1, n2, n3, by rw [List.length_cons]; omega, l2⟩ f2
    · exact fin _ _ ⟨gl, sl, _, _, upd_same, upd_oth n1.symm hg, upd_oth n2.symm hs, n1, n2, n3, l1, l2⟩ Fr.in0
    · rename_i h1 h2
      rw [List.length_map] at h2 ⊢
      have hlt : 0 < sl.length := by omega
      have hm := Int.emod_nonneg (m + 1) (b := (sl.length : Int)) (by omega)
      have hm2 := Int.emod_lt_of_pos (m + 1) (b := (sl.length : Int)) (by omega)
      obtain ⟨j, hj⟩ : ∃ j : Nat, (m + 1) % (sl.length : Int) = (j : Int) := ⟨((m + 1) % (sl.length : Int)).toNat, by omega⟩
      rw [hj]
      have hjl : j < sl.length := by omega
      refine iIxL (SqL.of (upd_oth n2.symm hs)) (v := .int sl[j]) (atI_nat (by rw [List.getElem?_map, List.getElem?_eq_getElem hjl]; rfl)) ?_
      walk_at "go"
      exact fin _ _ ⟨gl, sl, _, _, upd_same, upd_oth n1.symm (upd_oth n1.symm hg), upd_oth n2.symm (upd_oth n2.symm hs), n1, n2, n3, l1, l2⟩ (Fr.trans Fr.in0 Fr.in0)
/-- a list of pairs of signs -/
structure PrAt (H : Hp) (p : Addr) (qs : List (Addr × Nat × Nat)) : Prop where
  l : H p = some (.lst (qs.map fun q => V.ref q.1))
  t : ∀ q ∈ qs, H q.1 = some (.tup [.str (S [q.2.1]), .str (S [q.2.2])])
theorem PrAt.same {H H' : Hp} {p : Addr} {qs : List (Addr × Nat × Nat)} (h : PrAt H p qs) (s : Same H H') : PrAt H' p qs := ⟨s _ _ h.l, fun q hq => s _ _ (h.t q hq)⟩
theorem PrAt.fr {H H' : Hp} {p : Addr} {qs : List (Addr × Nat × Nat)} {L : List Addr} (h : PrAt H p qs) (f : Fr L H H') (hp : p ∉ L) (hq : ∀ q ∈ qs, q.1 ∉ L) : PrAt H' p qs := ⟨f _ _ hp h.l, fun q hm => f _ _ (hq q hm) (h.t q hm)⟩
structure AlOk (l v : List Nat) : Prop where
  dl : Differ l azL
  h1 : 1 ≤ l.length
  h4 : l.length ≤ 4
  vn : v.Nodup
  vl : ∀ c ∈ v, c ∈ l
theorem cut_perm {q : List Nat} {r c : Nat} (h : q[r]? = some c) : (c :: (q.take r ++ q.drop (r + 1))).Perm q := by
  have hr : r < q.length := (List.getElem?_eq_some_iff.mp h).1
  have hc : q[r] = c := (List.getElem?_eq_some_iff.mp h).2
  have e : q.take r ++ c :: q.drop (r + 1) = q := by
    rw [← hc, ← List.drop_eq_getElem_cons hr, List.take_append_drop]
  exact List.perm_middle.symm.trans (List.Perm.of_eq e)
def spNames : Sp := fun vs H Q _ => ∃ (b g u : Addr) (n : Nat), vs = [.ref b, .int (n : Int)] ∧ BagB H b g u ∧ 1 ≤ n ∧ n ≤ 4 ∧ ∀ (p : Addr) (l v : List Nat) (H' : Hp), H p = none → p ≠ b → p ≠ g → p ≠ u → H' p = some (.lst [.str (S l), .str (S v)]) → AlOk l v → l.length = n → BagB H' b g u → Fr [b, g] H H' → Q (.ref p) H'
theorem scNames : FnScope ["_law_bag_here", "_law_count", "_law_rest", "_law_letters", "_law_vowels", "_law_k", "_law_at"] ["_law_bag_here", "_law_count"] (defScope sNames) := ⟨rfl, rfl, rfl, by decide +kernel, rfl, by decide +kernel, by decide +kernel⟩
theorem ok_names (T : Fns K mg a d) : FnOk P w K mg base CX0 2 a.aNames d.dNames ["_law_bag_here", "_law_count"] spNames := by
  have GTake : FnOk P w K mg base CX0 1 a.aTake d.dTake ["_law_bag_here", "_law_size"] spTake := ok_take T
  refine T.FNames.ok scNames (fun vs H Q E h => ?_) (fun cdv A outer s H vs Q E hr h => ?_)
  · obtain ⟨b, g, u, n, rfl, _⟩ := h
    rfl
  · obtain ⟨b, g, u, n, rfl, hB, hn1, hn4, k⟩ := h
    refine ⟨_, ((pss_cons (ps_set (i := 2) scNames.nd rfl (Or.inl rfl) (pe_strS (l := kStrE1_0) kStrE1_0_eq))
      (pss_cons (ps_set (i := 3) scNames.nd rfl (Or.inl rfl) (pe_strS (l := []) (by decide +kernel)))
      (pss_cons (ps_set (i := 4) scNames.nd rfl (Or.inl rfl) (pe_strS (l := []) (by decide +kernel)))
      (pss_cons (ps_for PassesOwn.never rfl (pi_range1 (by rfl) T.z_range (pa_cons (pv 1) pa_nil)) (pg_name (i := 5) scNames.nd rfl (Or.inl rfl)) (pss_cons (ps_set (i := 6) scNames.nd rfl (Or.inl rfl) (pe_call GTake (hr.mono (by decide)) (by rfl) T.gTake T.FTake.kp T.bTake .nil pass0 (pa_cons (pv 0) (pa_cons (pe_callB call_lenS (by rfl) T.z_len (by decide +kernel) (pa_cons (pv 2) pa_nil)) pa_nil))))
      (pss_cons (ps_set (i := 3) scNames.nd rfl (Or.inl rfl) (pe_op op_addS (pv 3) (pe_ix ix_str (pv 2) (pv 6) (fun _ _ => rfl))))
      (pss_cons (ps_if (pt_cmpR op_eq (pe_call GTake (hr.mono (by decide)) (by rfl) T.gTake T.FTake.kp T.bTake .nil pass0 (pa_cons (pv 0) (pa_cons pe_int pa_nil))) pe_int (nomark _)) (pss_one (ps_set (i := 4) scNames.nd rfl (Or.inl rfl) (pe_op op_addS (pe_ix ix_str (pv 2) (pv 6) (fun _ _ => rfl)) (pv 4)))) pss_nil)
      (pss_one (ps_set (i := 2) scNames.nd rfl (Or.inl rfl) (pe_op op_addS (pe_slice sl_str (pv 2) po_none (po_some (pv 6))) (pe_slice sl_str (pv 2) (po_some (pe_op op_add (pv 6) pe_int)) po_none))))))))
      (pss_one (ps_ret (pe_lst (pa_cons (pv 3) (pa_cons (pv 4) pa_nil)))))))))), ?_⟩
    rw [show kStrE1_0 = azL from by decide +kernel]
    walk_at "go"
    refine for_R (fun i σ H' => Stop (∃ (rs l v : List Nat) (v5 v6 : Option V), σ = [some (.ref b), some (.int (n : Int)), some (.str (S rs)), some (.str (S l)), some (.str (S v)), v5, v6] ∧ l.length = i ∧ (l ++ rs).Perm azL ∧ v.Nodup ∧ (∀ c ∈ v, c ∈ l) ∧ BagB H' b g u ∧ Fr [b, g] H H'))
      ⟨azL, [], [], none, none, rfl, rfl, List.Perm.refl _, List.nodup_nil, (fun c hc => nomatch hc), hB, Fr.refl _ _⟩ ?_ ?_
    · rintro i σ H1 hi ⟨rs, l, v, v5, v6, rfl, hl, hper, hvn, hvl, hB1, f1⟩
      have hlen : l.length + rs.length = 26 := by rw [← az_len, ← hper.length_eq, List.length_append]
      have hvs := len_of_sub hvn hvl
      walk_at "go"
      refine ⟨b, g, u, rs.length, rfl, hB1, by omega, by omega, fun r H2 hr2 hB2 f2 => ?_⟩
      have hc : rs[r]? = some rs[r] := List.getElem?_eq_getElem hr2
      have hcm := List.getElem_mem hr2
      generalize rs[r] = c at hc hcm
      have hper2 : (l ++ [c] ++ (rs.take r ++ rs.drop (r + 1))).Perm azL := by
        rw [List.append_assoc]
        exact ((cut_perm hc).append_left l).trans hper
      have hcl : c ∉ l := fun m => (List.nodup_append.mp (hper.nodup_iff.mpr az_nodup)).2.2 c m c hcm rfl
      have f3 := Fr.trans f1 f2
      walk_at "go"
      refine ⟨b, g, u, 2, rfl, hB2, by decide, by decide, fun r2 H3 hr3 hB3 f4 => ?_⟩
      walk_at "go"
      · exact ⟨_, l ++ [c], [c] ++ v, _, _, rfl, by simp [hl], hper2, List.nodup_cons.mpr ⟨fun m => hcl (hvl c m), hvn⟩, (fun x hx => by
          rcases List.mem_cons.mp hx with e | e
          · rw [e]; exact List.mem_append_right _ (List.mem_singleton.mpr rfl)
          · exact List.mem_append_left _ (hvl x e)), hB3, Fr.trans f3 f4⟩
      · exact ⟨_, l ++ [c], v, _, _, rfl, by simp [hl], hper2, hvn, (fun x hx => List.mem_append_left _ (hvl x hx)), hB3, Fr.trans f3 f4⟩
    · rintro σ H1 ⟨rs, l, v, v5, v6, rfl, hl, hper, hvn, hvl, hB1, f1⟩
      walk_at "go"
      rename_i p hp
      have hnd := List.nodup_append.mp (hper.nodup_iff.mpr az_nodup)
      have np := hB1.ne hp
      exact k p l v _ (f1.none (by simp [np.1, np.2.1]) hp) np.1 np.2.1 np.2.2 upd_same ⟨⟨hnd.1, fun c hc => hper.mem_iff.mp (List.mem_append_left _ hc)⟩, by omega, by omega, hvn, hvl⟩ (by omega) (hB1.laid hp) (Fr.trans f1 (Fr.upd_new hp))
end
end
section
set_option Elab.async false
set_option linter.all false
set_option maxRecDepth 100000
set_option maxHeartbeats 4000000
open PySem PySem.Spec PyProof.Rows L2 NSet
/-! k21: what a table is -/
def Asc (l : List Nat) : Prop := l.Pairwise (· < ·)
def plt (p q : Nat × Nat) : Prop := p.1 < q.1 ∨ (p.1 = q.1 ∧ p.2 < q.2)
theorem uniq {α : Type} {r : α → α → Prop} (irr : ∀ a, ¬ r a a) (asy : ∀ a b, r a b → ¬ r b a) : ∀ {l m : List α}, l.Pairwise r → m.Pairwise r → (∀ x, x ∈ l ↔ x ∈ m) → l = m
  | [], [], _, _, _ => rfl
  | [], b :: m, _, _, h => nomatch (h b).mpr List.mem_cons_self
  | a :: l, [], _, _, h => nomatch (h a).mp List.mem_cons_self
  | a :: l, b :: m, h1, h2, h => by
    obtain ⟨p1, q1⟩ := List.pairwise_cons.mp h1
    obtain ⟨p2, q2⟩ := List.pairwise_cons.mp h2
    have e : a = b := by
      rcases List.mem_cons.mp ((h a).mp List.mem_cons_self) with z | z
      · exact z
      rcases List.mem_cons.mp ((h b).mpr List.mem_cons_self) with z2 | z2
      · exact z2.symm
      exact absurd (p1 b z2) (asy _ _ (p2 a z))
    subst e
    rw [uniq irr asy q1 q2 fun x => ⟨fun hx => by
      rcases List.mem_cons.mp ((h x).mp (List.mem_cons_of_mem _ hx)) with z | z
      · exact absurd (z ▸ p1 x hx) (irr _)
      · exact z, fun hx => by
      rcases List.mem_cons.mp ((h x).mpr (List.mem_cons_of_mem _ hx)) with z | z
      · exact absurd (z ▸ p2 x hx) (irr _)
      · exact z⟩]
theorem plt_irr (a : Nat × Nat) : ¬ plt a a := by unfold plt; omega
theorem plt_asy (a b : Nat × Nat) : plt a b → ¬ plt b a := by unfold plt; omega
theorem uniqA {l m : List Nat} (h1 : Asc l) (h2 : Asc m) (h : ∀ x, x ∈ l ↔ x ∈ m) : l = m := uniq (r := (· < ·)) (fun a => by omega) (fun a b => by omega) h1 h2 h
abbrev Rel := Nat → Nat → Bool
def canL (sg : List Nat) (R : Rel) : List (Nat × Nat) := sg.flatMap fun s => (sg.filter (R s)).map fun t => (s, t)
def outsL (sg : List Nat) (R : Rel) : List (List Nat) := sg.map fun s => sg.filter (R s)
def relQ (l : List (Nat × Nat)) : Rel := fun s t => decide ((s, t) ∈ l)
def Agr (sg : List Nat) (A B : Rel) : Prop := ∀ s ∈ sg, ∀ t ∈ sg, A s t = B s t
theorem mem_can {sg : List Nat} {R : Rel} {p : Nat × Nat} : p ∈ canL sg R ↔ p.1 ∈ sg ∧ p.2 ∈ sg ∧ R p.1 p.2 = true := by
  unfold canL
  rw [List.mem_flatMap]
  constructor
  · rintro ⟨s, hs, h⟩
    obtain ⟨t, ht, e⟩ := List.mem_map.mp h
    obtain ⟨h1, h2⟩ := List.mem_filter.mp ht
    subst e
    exact ⟨hs, h1, h2⟩
  · rintro ⟨h1, h2, h3⟩
    exact ⟨p.1, h1, List.mem_map.mpr ⟨p.2, List.mem_filter.mpr ⟨h2, h3⟩, rfl⟩⟩
theorem can_plt {sg : List Nat} {R : Rel} (h : Asc sg) : (canL sg R).Pairwise plt := by
  unfold canL
  rw [List.pairwise_flatMap]
  refine ⟨fun s hs => List.pairwise_map.mpr ((h.sublist List.filter_sublist).imp fun q => .inr ⟨rfl, q⟩), ?_⟩
  refine h.imp fun {a b} q x hx y hy => ?_
  obtain ⟨t, _, e⟩ := List.mem_map.mp hx
  obtain ⟨u, _, e2⟩ := List.mem_map.mp hy
  rw [← e, ← e2]
  exact .inl q
theorem Asc.nd {l : List Nat} (h : Asc l) : l.Nodup := h.imp fun q => by omega
theorem flt_agr {sg : List Nat} {A B : Rel} (h : Agr sg A B) {s : Nat} (hs : s ∈ sg) : sg.filter (A s) = sg.filter (B s) := List.filter_congr fun t ht => h s hs t ht
theorem outs_agr {sg : List Nat} {A B : Rel} : outsL sg A = outsL sg B ↔ Agr sg A B := by
  constructor
  · intro h s hs t ht
    have e := List.map_inj_left.mp h s hs
    have k : t ∈ sg.filter (A s) ↔ t ∈ sg.filter (B s) := by rw [e]
    rw [List.mem_filter, List.mem_filter] at k
    rw [Bool.eq_iff_iff]
    exact ⟨fun z => (k.mp ⟨ht, z⟩).2, fun z => (k.mpr ⟨ht, z⟩).2⟩
  · intro h
    exact List.map_congr_left fun s hs => flt_agr h hs
theorem can_iff {sg : List Nat} {A B : Rel} (h : Asc sg) : canL sg A = canL sg B ↔ Agr sg A B := by
  constructor
  · intro e s hs t ht
    have k : (s, t) ∈ canL sg A ↔ (s, t) ∈ canL sg B := by rw [e]
    rw [mem_can, mem_can] at k
    rw [Bool.eq_iff_iff]
    exact ⟨fun z => (k.mp ⟨hs, ht, z⟩).2.2, fun z => (k.mpr ⟨hs, ht, z⟩).2.2⟩
  · intro e
    exact uniq plt_irr plt_asy (can_plt h) (can_plt h) fun x => by
      rw [mem_can, mem_can]
      exact ⟨fun ⟨a, b, c⟩ => ⟨a, b, by rw [← e _ a _ b]; exact c⟩, fun ⟨a, b, c⟩ => ⟨a, b, by rw [e _ a _ b]; exact c⟩⟩
/-- what set and sorted make of good pairs -/
theorem can_of {sg : List Nat} {l m : List (Nat × Nat)} (h : Asc sg) (hm : m.Pairwise plt) (e : ∀ x, x ∈ m ↔ x ∈ l) (hl : ∀ x ∈ l, x.1 ∈ sg ∧ x.2 ∈ sg) : m = canL sg (relQ l) :=
  uniq plt_irr plt_asy hm (can_plt h) fun x => by
    rw [e, mem_can]
    unfold relQ
    rw [decide_eq_true_iff]
    exact ⟨fun z => ⟨(hl x z).1, (hl x z).2, z⟩, fun z => z.2.2⟩
theorem can_row {sg : List Nat} {R : Rel} (h : Asc sg) {c : Nat} (hc : c ∈ sg) : ((canL sg R).filter fun p => decide (p.1 = c)).map (·.2) = sg.filter (R c) := by
  refine uniqA ?_ (h.sublist List.filter_sublist) fun x => ?_
  · unfold Asc
    rw [List.pairwise_map]
    refine ((can_plt h).sublist List.filter_sublist).imp_of_mem fun {a b} ha hb q => ?_
    have e1 := of_decide_eq_true (List.mem_filter.mp ha).2
    have e2 := of_decide_eq_true (List.mem_filter.mp hb).2
    unfold plt at q
    omega
  · rw [List.mem_map, List.mem_filter]
    constructor
    · rintro ⟨p, hp, rfl⟩
      obtain ⟨h1, h2⟩ := List.mem_filter.mp hp
      have e := of_decide_eq_true h2
      obtain ⟨_, b, z⟩ := mem_can.mp h1
      exact ⟨b, by rw [← e]; exact z⟩
    · rintro ⟨h1, h2⟩
      exact ⟨(c, x), List.mem_filter.mpr ⟨mem_can.mpr ⟨hc, h1, h2⟩, decide_eq_true rfl⟩, rfl⟩
theorem len_sub {α : Type} [DecidableEq α] : ∀ {v l : List α}, v.Nodup → (∀ c ∈ v, c ∈ l) → v.length ≤ l.length
  | [], _, _, _ => Nat.zero_le _
  | a :: v, l, hn, h => by
    obtain ⟨n1, n2⟩ := List.nodup_cons.mp hn
    have ha := h a List.mem_cons_self
    have ih := len_sub (v := v) (l := l.erase a) n2 fun c hc => by
      have : c ≠ a := fun e => n1 (by rw [← e]; exact hc)
      rw [List.mem_erase_of_ne this]
      exact h c (List.mem_cons_of_mem _ hc)
    have := List.length_erase_of_mem ha
    have := List.length_pos_of_mem ha
    rw [List.length_cons]
    omega
theorem can_len {sg : List Nat} {R : Rel} (h : Asc sg) : (canL sg R).length ≤ sg.length * sg.length := by
  unfold canL
  have : ∀ l : List Nat, (l.flatMap fun s => (sg.filter (R s)).map fun t => (s, t)).length ≤ l.length * sg.length := by
    intro l
    induction l with
    | nil => simp
    | cons a l ih =>
      rw [List.flatMap_cons, List.length_append, List.length_map, List.length_cons, Nat.succ_mul]
      have := List.length_filter_le (R a) sg
      omega
  exact this sg
/-- distinct pairs of few signs are few -/
theorem few_pairs {sg : List Nat} {m : List (Nat × Nat)} (hn : m.Nodup) (hm : ∀ x ∈ m, x.1 ∈ sg ∧ x.2 ∈ sg) : m.length ≤ sg.length * sg.length := by
  have h1 : ∀ x ∈ m, x ∈ canL sg (fun _ _ => true) := fun x hx => mem_can.mpr ⟨(hm x hx).1, (hm x hx).2, rfl⟩
  have h2 := len_sub hn h1
  have : ∀ l : List Nat, (l.flatMap fun s => (sg.filter (fun _ => true)).map fun t => (s, t)).length ≤ l.length * sg.length := by
    intro l
    induction l with
    | nil => simp
    | cons a l ih =>
      rw [List.flatMap_cons, List.length_append, List.length_map, List.length_cons, Nat.succ_mul]
      have := List.length_filter_le (fun _ => true) sg
      omega
  exact Nat.le_trans h2 (this sg)
def compR (sg : List Nat) (A B : Rel) : Rel := fun s u => sg.any fun m => A s m && B m u
def orR (A B : Rel) : Rel := fun s t => A s t || B s t
def andR (A B : Rel) : Rel := fun s t => A s t && B s t
def invR (A : Rel) : Rel := fun s t => A t s
def inR (sg : List Nat) (A B : Rel) : Bool := decide (∀ s ∈ sg, ∀ t ∈ sg, A s t = true → B s t = true)
/-- keys of pairs -/
def kp (q : Nat × Nat) : List Cell := [.inr (S [q.1]), .inr (S [q.2])]
theorem kp_inj {a b : Nat × Nat} (h : kp a = kp b) : a = b := by
  unfold kp at h
  injection h with h1 h2
  injection h2 with h2 h3
  injection h1 with h1
  injection h2 with h2
  have e1 := congrArg (fun s : Str => s.cps.toList) h1
  have e2 := congrArg (fun s : Str => s.cps.toList) h2
  simp only [S_cps] at e1 e2
  exact Prod.ext (List.cons.inj e1).1 (List.cons.inj e2).1
theorem plt_of_order {ms : List (Nat × Nat)} (o : ms.Pairwise fun q r => lexLt itemOrd ((kp r).map kc) ((kp q).map kc) = false) (n : ms.Nodup) : ms.Pairwise plt := by
  refine (o.and n).imp fun {a b} h => ?_
  obtain ⟨h1, h2⟩ := h
  have h3 : lexLt itemOrd ((kp b).map kc) ((kp a).map kc) = (decide (b.1 < a.1) || (!decide (a.1 < b.1) && decide (b.2 < a.2))) := by
    unfold kp
    simp only [List.map_cons, List.map_nil, kc, S_cps, PyProof.Rows.lexLt, PyProof.Rows.itemLt, PyProof.Rows.strKind]
    simp [List.cons_lt_cons_iff]
  rw [h3] at h1
  simp at h1
  unfold plt
  by_cases e : a.1 = b.1
  · refine .inr ⟨e, ?_⟩
    have := h1.2 (by omega)
    rcases Nat.lt_or_eq_of_le this with z | z
    · exact z
    · exact absurd (Prod.ext e z) h2
  · exact .inl (by omega)
structure SgOk (sg : List Nat) : Prop where
  a : Asc sg
  l : sg.length ≤ 5
  p : 0 < sg.length
  c : ∀ c ∈ sg, c < 128
/-- an alphabet, by its signs and its vowels -/
def AlG (C : Addr) (H : Hp) (al : Addr) (sg W : List Nat) : Prop := ∃ l v, IsAl C H al l v ∧ 45 :: srtL l = sg ∧ srtL v = W
theorem AlG.same {C al : Addr} {H H' : Hp} {sg W : List Nat} (h : AlG C H al sg W) (s : Same H H') : AlG C H' al sg W := by
  obtain ⟨l, v, h1, z⟩ := h
  exact ⟨l, v, h1.same s, z⟩
theorem AlG.ins {C al : Addr} {H : Hp} {sg W : List Nat} (h : AlG C H al sg W) : ∃ dx l v, H al = some (.ins C dx [("letters", .str (S (srtL l))), ("vowels", .str (S (srtL v))), ("consonants", .str (S (consL l v))), ("signs", .str (S sg))]) := by
  obtain ⟨l, v, ⟨dx, h1⟩, e, z⟩ := h
  subst e
  exact ⟨dx, l, v, h1⟩
structure TbL (a : Ad) (H : Hp) (t al : Addr) (sg W : List Nat) (R : Rel) (lp : Addr) (qs : List (Addr × Nat × Nat)) : Prop where
  t : ∃ dx, H t = some (.ins a.cTable dx [("alphabet", .ref al), ("_pairs", .ref lp)])
  al : AlG a.cAlphabet H al sg W
  p : PrAt H lp qs
  c : qs.map (·.2) = canL sg R
def Tb (a : Ad) (H : Hp) (t al : Addr) (sg W : List Nat) (R : Rel) : Prop := ∃ lp qs, TbL a H t al sg W R lp qs
theorem TbL.same {a : Ad} {H H' : Hp} {t al lp : Addr} {sg W : List Nat} {R : Rel} {qs : List (Addr × Nat × Nat)} (h : TbL a H t al sg W R lp qs) (s : Same H H') : TbL a H' t al sg W R lp qs := by
  obtain ⟨⟨dx, h1⟩, h2, h3, h4⟩ := h
  exact ⟨⟨dx, s _ _ h1⟩, h2.same s, h3.same s, h4⟩
theorem Tb.same {a : Ad} {H H' : Hp} {t al : Addr} {sg W : List Nat} {R : Rel} (h : Tb a H t al sg W R) (s : Same H H') : Tb a H' t al sg W R := by
  obtain ⟨lp, qs, h⟩ := h
  exact ⟨lp, qs, h.same s⟩
theorem Tb.agr {a : Ad} {H : Hp} {t al : Addr} {sg W : List Nat} {R R' : Rel} (h : Tb a H t al sg W R) (ha : Asc sg) (g : Agr sg R R') : Tb a H t al sg W R' := by
  obtain ⟨lp, qs, h1, h2, h3, h4⟩ := h
  exact ⟨lp, qs, h1, h2, h3, by rw [h4, (can_iff ha).mpr g]⟩
theorem TbL.mem {a : Ad} {H : Hp} {t al lp : Addr} {sg W : List Nat} {R : Rel} {qs : List (Addr × Nat × Nat)} (h : TbL a H t al sg W R lp qs) {q : Addr × Nat × Nat} (hq : q ∈ qs) : q.2.1 ∈ sg ∧ q.2.2 ∈ sg ∧ R q.2.1 q.2.2 = true :=
  mem_can.mp (by rw [← h.c]; exact List.mem_map.mpr ⟨q, hq, rfl⟩)
theorem TbL.len {a : Ad} {H : Hp} {t al lp : Addr} {sg W : List Nat} {R : Rel} {qs : List (Addr × Nat × Nat)} (h : TbL a H t al sg W R lp qs) (g : SgOk sg) : qs.length ≤ 25 := by
  have h1 := can_len (R := R) g.a
  rw [← h.c, List.length_map] at h1
  have h2 := g.l
  have := Nat.mul_le_mul h2 h2
  omega
/-- rows of outs -/
def RowAt (H : Hp) (p : Addr) (sg : List Nat) (R : Rel) : Prop := H p = some (.lst ((outsL sg R).map fun r => V.str (S r)))
theorem RowAt.same {H H' : Hp} {p : Addr} {sg : List Nat} {R : Rel} (h : RowAt H p sg R) (s : Same H H') : RowAt H' p sg R := s _ _ h
theorem iGTup {K : PySem.W.Frag} {n : Nat} {t : TGs} {x : Addr} {xs : List V} {σ : L2.St} {H : Hp} {Q : L2.St → Hp → Prop} (h : H x = some (.tup xs)) (hn : xs.length = n) (k : t xs σ H Q) : gTup K n t (.ref x) σ H Q := ⟨x, xs, rfl, SqT.of h, hn, k⟩
theorem iGCons {t : TG} {u : TGs} {v : V} {r : List V} {σ : L2.St} {H : Hp} {Q : L2.St → Hp → Prop} (k : t v σ H fun σ' H' => u r σ' H' Q) : gCons t u (v :: r) σ H Q := ⟨v, r, rfl, k⟩
theorem iGNil {σ : L2.St} {H : Hp} {Q : L2.St → Hp → Prop} (k : Q σ H) : gNil [] σ H Q := ⟨rfl, k⟩
/-- a new list of new pairs, so far -/
def NewP (H1 : Hp) (D : Addr) (l : List (Nat × Nat)) (H : Hp) : Prop := ∃ ms : List (Addr × Nat × Nat), PrAt H D ms ∧ ms.map (·.2) = l ∧ Same H1 H
theorem NewP.start {H1 : Hp} {D : Addr} (h : H1 D = none) : NewP H1 D [] (upd H1 D (.lst [])) := ⟨[], ⟨upd_same, fun q hq => nomatch hq⟩, rfl, Same.upd_new h⟩
theorem newp_put {H1 H : Hp} {D p : Addr} {l : List (Nat × Nat)} {ms : List (Addr × Nat × Nat)} (hm : PrAt H D ms) (e : ms.map (·.2) = l) (s : Same H1 H) (hD : H1 D = none) (hp : H p = none) (hl : l.length < 4000) (x y : Nat) {l' : List (Nat × Nat)} (el : l' = l ++ [(x, y)]) :
    (upd H p (.tup [.str (S [x]), .str (S [y])])) D = some (.lst (ms.map fun q => V.ref q.1)) ∧ (ms.map fun q => V.ref q.1).length < sizeLine ∧ NewP H1 D l' (upd (upd H p (.tup [.str (S [x]), .str (S [y])])) D (.lst ((ms.map fun q => V.ref q.1) ++ [.ref p]))) := by
  subst el
  have hpD : p ≠ D := (ne_of_none hm.l hp).symm
  refine ⟨?_, ?_, ms ++ [(p, x, y)], ⟨?_, fun q hq => ?_⟩, ?_, fun c o hc => ?_⟩
  · rw [upd_ne hpD.symm]; exact hm.l
  · rw [← e, List.length_map] at hl
    rw [List.length_map, sizeLine_eq]; omega
  · rw [upd_same, List.map_append]; rfl
  · have hqD : q.1 ≠ D := by
      intro z
      rcases List.mem_append.mp hq with m | m
      · have := hm.t q m
        rw [z, hm.l] at this
        cases this
      · rw [List.mem_singleton.mp m] at z
        exact hpD z
    rw [upd_ne hqD]
    rcases List.mem_append.mp hq with m | m
    · have := hm.t q m
      rw [upd_ne (ne_of_none this hp)]
      exact this
    · rw [List.mem_singleton.mp m, upd_same]
  · rw [List.map_append, e]; rfl
  · have hcD : c ≠ D := fun z => by rw [z, hD] at hc; cases hc
    have h2 := s _ _ hc
    rw [upd_ne hcD, upd_ne (ne_of_none h2 hp)]
    exact h2
theorem unmap_in {α β : Type} (f : α → β) {m : List α} : ∀ L : List β, (∀ x ∈ L, x ∈ m.map f) → ∃ ms : List α, L = ms.map f ∧ ∀ q ∈ ms, q ∈ m
  | [], _ => ⟨[], rfl, fun q hq => nomatch hq⟩
  | x :: L, h => by
    obtain ⟨ms, e, g⟩ := unmap_in f L fun y hy => h y (List.mem_cons_of_mem _ hy)
    obtain ⟨q, hq, e2⟩ := List.mem_map.mp (h x List.mem_cons_self)
    exact ⟨q :: ms, by rw [e, List.map_cons, e2], fun z hz => by
      rcases List.mem_cons.mp hz with w | w
      · rw [w]; exact hq
      · exact g z w⟩
def keyP (q : Addr × Nat × Nat) : Addr × List Cell := (q.1, kp q.2)
theorem nodup_keys {ms : List (Addr × Nat × Nat)} (h : ((ms.map keyP).map (·.2)).Nodup) : (ms.map (·.2)).Nodup := by
  have e : (ms.map keyP).map (·.2) = (ms.map (·.2)).map kp := by rw [List.map_map, List.map_map]; rfl
  rw [e] at h
  exact List.Pairwise.imp (fun q z => q (by rw [z])) (List.pairwise_map.mp h)
theorem few_keys {sg : List Nat} (hs : SgOk sg) {qs : List (Addr × Nat × Nat)} (hq : ∀ q ∈ qs, q.2.1 ∈ sg ∧ q.2.2 ∈ sg) (L : List (Addr × List Cell)) (hn : (L.map (·.2)).Nodup) (hi : ∀ x ∈ L, x ∈ qs.map keyP) : L.length < 63 := by
  obtain ⟨ms, rfl, g⟩ := unmap_in keyP L hi
  have h1 := few_pairs (sg := sg) (nodup_keys hn) fun x hx => by
    obtain ⟨q, hq2, e⟩ := List.mem_map.mp hx
    rw [← e]
    exact hq q (g q hq2)
  rw [List.length_map] at h1 ⊢
  have := Nat.mul_le_mul hs.l hs.l
  omega
theorem set_sort {sg : List Nat} (hs : SgOk sg) {qs : List (Addr × Nat × Nat)} (hq : ∀ q ∈ qs, q.2.1 ∈ sg ∧ q.2.2 ∈ sg) {L L' : List (Addr × List Cell)} (hi : ∀ x ∈ L, x ∈ qs.map keyP) (hc : ∀ x ∈ qs.map keyP, x.2 ∈ L.map (·.2))
    (pm : L'.Perm L) (nd : (L'.map (·.2)).Nodup) (od : InOrder L') : ∃ ms : List (Addr × Nat × Nat), L' = ms.map keyP ∧ (∀ q ∈ ms, q ∈ qs) ∧ ms.map (·.2) = canL sg (relQ (qs.map (·.2))) := by
  obtain ⟨ms, rfl, g⟩ := unmap_in keyP L' fun x hx => hi x (pm.mem_iff.mp hx)
  have nd2 := nodup_keys nd
  refine ⟨ms, rfl, g, can_of hs.a (plt_of_order ?_ nd2) (fun x => ⟨fun hx => ?_, fun hx => ?_⟩) fun x hx => ?_⟩
  · unfold InOrder at od
    rw [List.pairwise_map] at od ⊢
    exact od
  · obtain ⟨q, h1, e⟩ := List.mem_map.mp hx
    exact List.mem_map.mpr ⟨q, g q h1, e⟩
  · obtain ⟨q, h1, e⟩ := List.mem_map.mp hx
    have h2 := hc (keyP q) (List.mem_map.mpr ⟨q, h1, rfl⟩)
    rw [← (pm.map (·.2)).mem_iff] at h2
    obtain ⟨z, h3, e3⟩ := List.mem_map.mp h2
    obtain ⟨q2, h4, e4⟩ := List.mem_map.mp h3
    rw [← e4] at e3
    have e5 : q2.2 = q.2 := kp_inj e3
    exact List.mem_map.mpr ⟨q2, h4, by rw [e5, e]⟩
  · obtain ⟨q, h1, e⟩ := List.mem_map.mp hx
    rw [← e]
    exact hq q h1
end
section
set_option Elab.async false
set_option linter.all false
set_option maxRecDepth 100000
set_option maxHeartbeats 4000000
open PySem PySem.Spec PyProof.Rows L2 NSet

local macro_rules | `(tactic| walk_at "side") => `(tactic| exact .inl (by assumption))

section
variable {P : Program} {w : World} {K : PySem.W.Frag} {mg : Str → Option Value} {base : Heap} {a : Ad} {d : Fd}
def spIsSign (a : Ad) : Sp := fun vs H Q _ => ∃ (al : Addr) (c : Nat) (sg W : List Nat), vs = [.ref al, .str (S [c])] ∧ AlG a.cAlphabet H al sg W ∧ sg.length ≤ 5 ∧ Q (.bl (decide (c ∈ sg))) H
theorem scIsSign : FnScope ["self", "text"] ["self", "text"] (defScope sIsSign) := ⟨rfl, rfl, rfl, by decide +kernel, rfl, by decide +kernel, by decide +kernel⟩
theorem ok_isSign (T : Fns K mg a d) : FnOk P w K mg base CX0 1 a.aIsSign d.dIsSign ["self", "text"] (spIsSign a) := by
  refine T.FIsSign.ok scIsSign (fun vs H Q E h => ?_) (fun cdv A outer s H vs Q E hr h => ?_)
  · obtain ⟨al, c, sg, W, rfl, _⟩ := h
    rfl
  · obtain ⟨al, c, sg, W, rfl, ⟨l, v, ⟨dx, hal⟩, e1, e2⟩, hl, k⟩ := h
    subst e1
    refine ⟨_, ((pss_one (ps_ret (pe_and (pe_cmpR op_eq (pe_callB call_lenS (by rfl) T.z_len (by decide +kernel) (pa_cons (pv 1) pa_nil)) pe_int (nomark _)) (pe_one (pe_cmpR op_inS (pv 1) (pe_fld (pv 0) rfl) rfl)))))), ?_⟩
    have nS := T.nS
    have hcl := T.clA
    unfold alF at hal
    walk_at "go"
    exact k
/-- all alphabets alike or Mixed -/
def Alike (sg W sg2 W2 : List Nat) : Prop := sg = sg2 ∧ W = W2
instance (sg W sg2 W2 : List Nat) : Decidable (Alike sg W sg2 W2) := by unfold Alike; infer_instance
theorem alike_eq {l2 v2 l v : List Nat} : decide (Alike (45 :: srtL l2) (srtL v2) (45 :: srtL l) (srtL v)) = AlEq l2 v2 l v := by
  rw [Bool.eq_iff_iff, decide_eq_true_iff]
  unfold Alike AlEq
  simp
end
end
section
set_option Elab.async false
set_option linter.all false
set_option maxRecDepth 100000
set_option maxHeartbeats 4000000
open PySem PySem.Spec PyProof.Rows L2 NSet

local macro_rules | `(tactic| walk_at "side") => `(tactic| exact .inl (by assumption))
local macro_rules | `(tactic| walk_at "go1") => `(tactic| (with_reducible refine iGTup (by assumption) rfl ?_))
local macro_rules | `(tactic| walk_at "go1") => `(tactic| (with_reducible refine iGCons ?_))
local macro_rules | `(tactic| walk_at "go1") => `(tactic| (with_reducible refine iGNil ?_))

section
variable {P : Program} {w : World} {K : PySem.W.Frag} {mg : Str → Option Value} {base : Heap} {a : Ad} {d : Fd}
def relP (qs : List (Addr × Nat × Nat)) : Rel := relQ (qs.map (·.2))
def spInit (a : Ad) : Sp := fun vs H Q _ => ∃ (t al p dx : Addr) (sg W : List Nat) (qs : List (Addr × Nat × Nat)), vs = [.ref t, .ref al, .ref p] ∧ H t = some (.ins a.cTable dx []) ∧ AlG a.cAlphabet H al sg W ∧ SgOk sg ∧ PrAt H p qs ∧ qs.length ≤ 4000 ∧ (∀ q ∈ qs, q.2.1 ∈ sg ∧ q.2.2 ∈ sg) ∧
  ∀ lp ms H', H lp = none → Kp t H H' → (TbL a H' t al sg W (relP qs) lp ms) → Q .non H'
theorem scTInit : FnScope ["self", "alphabet", "pairs", "index", "told", "out"] ["self", "alphabet", "pairs"] (defScope sTInit) := ⟨rfl, rfl, rfl, by decide +kernel, rfl, by decide +kernel, by decide +kernel⟩
theorem ok_init (T : Fns K mg a d) : FnOk P w K mg base (L2.CX P w) 3 a.aTInit d.dTInit ["self", "alphabet", "pairs"] (spInit a) := by
  have GIsSign : FnOk P w K mg base CX0 1 a.aIsSign d.dIsSign ["self", "text"] (spIsSign a) := ok_isSign T
  have GBadPair : FnOk P w K mg base CX0 1 a.eBadPair d.eBadPair ["self", "index"] (fun _ _ _ _ => False) := ⟨fun _ _ _ _ h => h.elim, fun _ _ _ _ _ _ _ _ _ _ _ _ _ h => h.elim⟩
  refine T.FTInit.okX scTInit (fun vs H Q E h => ?_) (fun cdv A outer s H vs Q E hr h => ?_)
  · obtain ⟨t, al, p, dx, sg, W, qs, rfl, _⟩ := h
    rfl
  · obtain ⟨t, al, p, dx, sg, W, qs, rfl, ht, hal, hsg, hp, hl, hm, k⟩ := h
    refine ⟨_, ((pss_cons (ps_for (passes_of rfl) rfl (pi_enum (by rfl) T.z_enum (pa_cons (pv 2) pa_nil)) (pg_tup rfl (pgs_cons (pg_name (i := 3) scTInit.nd rfl (Or.inl rfl)) (pgs_cons (pg_tup rfl (pgs_cons (pg_name (i := 4) scTInit.nd rfl (Or.inl rfl)) (pgs_cons (pg_name (i := 5) scTInit.nd rfl (Or.inl rfl)) pgs_nil))) pgs_nil))) (pss_one (ps_if (pt_not (PW.pt (pw_and (pt_val (pe_meth (pv 1) T.clA T.mIsSign GIsSign (hr.mono (by decide)) T.bIsSign .nil pass0 (pa_cons (pv 4) pa_nil))) (pw_and1 (pt_val (pe_meth (pv 1) T.clA T.mIsSign GIsSign (hr.mono (by decide)) T.bIsSign .nil pass0 (pa_cons (pv 5) pa_nil))))))) (pss_one (ps_raise rfl (takes_of rfl rfl rfl rfl) (pmk_oex T.xBadPair.ox T.xBadPair.iC T.xBadPair.tI GBadPair (hr.mono (by decide)) T.xBadPair.bB .nil pass0 (by rfl) T.xBadPair.gB (pa_cons (pv 3) pa_nil)))) pss_nil)))
      (pss_cons (ps_fld (pv 0) (pv 1) rfl)
      (pss_one (ps_fld (pv 0) (pe_callB (cr_sortN rfl) (by rfl) T.z_sorted (by decide +kernel) (pa_cons (pe_callTy (cr_setN rfl (Nat.lt_of_succ_lt hr.unitu)) (by rfl) T.z_set (by decide +kernel) (pa_cons (pe_lc (own := [("told", 4), ("out", 5)]) (g := (gTup K 2 (gCons (gName 4) (gCons (gName 5) gNil)))) (by rfl) scTInit.nd (pi_list (pv 2)) (blkOk_by (own := [("told", 4), ("out", 5)]) (N := ["self", "alphabet", "pairs", "index", "told", "out"]) (sc := defScope sTInit) (by decide +kernel)) (fun _ _ _ _ _ => (pg_tup rfl (pgs_cons (pg_name (i := 4) scTInit.nd rfl (Or.inl rfl)) (pgs_cons (pg_name (i := 5) scTInit.nd rfl (Or.inl rfl)) pgs_nil)))) (fun _ _ _ _ _ => pts_nil) (fun _ _ _ _ _ => (pe_tup (pa_cons (pv 4) (pa_cons (pv 5) pa_nil))))) pa_nil)) pa_nil)) rfl))))), ?_⟩
    have clA := T.clA
    have hpl := hp.l
    refine ⟨_, rfl, p, _, rfl, SqL.of hpl, for_it (walk_enum (K := K) (a := p) (xs := qs.map fun q => V.ref q.1)) (fun i σ H' => Stop (∃ (v3 v4 v5 : Option V), σ = [some (.ref t), some (.ref al), some (.ref p), v3, v4, v5] ∧ Same H H')) ⟨none, none, none, rfl, fun _ _ h => h⟩ (fun i σ H' _ hP => ?_) ?_ ?_⟩
    · obtain ⟨v3, v4, v5, rfl, s⟩ := hP
      exact SqL.of (s _ _ hpl)
    · rintro i x σ H4 H5 hi ⟨v3, v4, v5, rfl, s⟩ ⟨Tp, x1, y1, rfl, hTp, rfl, hx1, hy1⟩
      cases hx1
      have hy1 : (qs.map fun q => V.ref q.1)[i]? = some y1 := hy1
      rw [List.getElem?_map] at hy1
      obtain ⟨q, hq, rfl⟩ := Option.map_eq_some_iff.mp hy1
      have hqm := List.mem_of_getElem? hq
      have s5 := Vk.Same.trans s (Same.upd_new (o := .tup [.int (i : Nat), .ref q.1]) hTp)
      have hT5 : (upd H4 Tp (.tup [.int (i : Nat), .ref q.1])) Tp = some (.tup [.int (i : Nat), .ref q.1]) := upd_same
      generalize upd H4 Tp (.tup [.int (i : Nat), .ref q.1]) = H5 at s5 hT5 ⊢
      have hqt := s5 _ _ (hp.t q hqm)
      have hal5 := hal.same s5
      obtain ⟨dxa, ll, vv, hi5⟩ := hal5.ins
      have hl5 := hsg.l
      have hm5 := hm q hqm
      walk_at "go"
      refine ⟨al, q.2.1, sg, W, rfl, hal5, hl5, ?_⟩
      rw [decide_eq_true hm5.1]
      walk_at "go"
      refine ⟨al, q.2.2, sg, W, rfl, hal5, hl5, ?_⟩
      rw [decide_eq_true hm5.2]
      walk_at "go"
      exact ⟨_, _, _, rfl, s5⟩
    · rintro σ H4 ⟨v3, v4, v5, rfl, s⟩
      have ht4 := s _ _ ht
      have hcT := T.clT
      have hnTa := T.nTa
      have hnTp := T.nTp
      have hp4 := hp.same s
      have hal4 := hal.same s
      have np4 : p ≠ t := fun z => by
        have := hp4.l
        rw [z, ht4] at this
        cases this
      have nal : al ≠ t := fun z => by
        obtain ⟨dxa, ll, vv, e⟩ := hal4.ins
        rw [z, ht4] at e
        injection (Option.some.inj e) with _ _ e3
        cases e3
      walk_at "go"
      rename_i D hD
      have n1 : putF "alphabet" (V.ref al) [] = ([("alphabet", V.ref al)] : List (Str × V)) := rfl
      rw [n1] at hD ⊢
      generalize hH1 : upd H4 t (.ins a.cTable dx [("alphabet", .ref al)]) = H1 at hD ⊢
      have kp1 : Kp t H H1 := fun c o hc e => by rw [← hH1, upd_ne hc]; exact s _ _ e
      have ht1 : H1 t = some (.ins a.cTable dx [("alphabet", .ref al)]) := by rw [← hH1]; exact upd_same
      have hp1 : PrAt H1 p qs := ⟨kp1 _ _ np4 hp.l, fun q hq => kp1 _ _ (fun z => by
        have := hp.t q hq
        rw [z, ht] at this
        cases this) (hp.t q hq)⟩
      have hal1 : AlG a.cAlphabet H1 al sg W := by
        obtain ⟨l, v, ⟨dxa, e⟩, z⟩ := hal
        exact ⟨l, v, ⟨dxa, kp1 _ _ nal e⟩, z⟩
      refine lc_list (K := K) (a := p) (xs := qs.map fun q => V.ref q.1) (fun i H' => NewP H1 D ((qs.map (·.2)).take i) H') (NewP.start hD) (fun i H' _ h => SqL.of (by obtain ⟨_, _, _, s⟩ := h; exact s _ _ hp1.l)) ?_ ?_
      · rintro i x H5 hi hP
        rw [List.getElem?_map] at hi
        obtain ⟨q, hq, rfl⟩ := Option.map_eq_some_iff.mp hi
        have hqm := List.mem_of_getElem? hq
        have hil := (List.getElem?_eq_some_iff.mp hq).1
        obtain ⟨ms, hms, ems, s5⟩ := id hP
        have hqt := s5 _ _ (hp1.t q hqm)
        walk_at "go"
        rename_i pp hpp
        exact newp_put (l' := (qs.map (·.2)).take (i + 1)) hms ems s5 hD hpp (by rw [List.length_take]; omega) q.2.1 q.2.2 (by
          rw [List.take_add_one, List.getElem?_map, hq]
          rfl)
      · rintro H5 ⟨ms, hms, ems, s5⟩
        rw [List.length_map, List.take_of_length_le (by rw [List.length_map]; exact Nat.le_refl _)] at ems
        have hmq : ∀ q ∈ ms, q.2.1 ∈ sg ∧ q.2.2 ∈ sg := fun q hq => by
          have : q.2 ∈ qs.map (·.2) := by rw [← ems]; exact List.mem_map.mpr ⟨q, hq, rfl⟩
          obtain ⟨z, hz, e⟩ := List.mem_map.mp this
          rw [← e]
          exact hm z hz
        refine ⟨D, ms.map keyP, rfl, SqL.of (by rw [List.map_map]; exact hms.l), fun x hx => ?_, few_keys hsg hmq, fun st L hst hnd hin hcov => ?_⟩
        · obtain ⟨q, hq, rfl⟩ := List.mem_map.mp hx
          exact SqT.of (hms.t q hq)
        walk_at "go"
        show rSortN K w [V.ref st] (upd H5 st (NSet.SetN w st L)) _
        have s6 : Same H5 (upd H5 st (NSet.SetN w st L)) := Same.upd_new hst
        have hst6 : (upd H5 st (NSet.SetN w st L)) st = some (NSet.SetN w st L) := upd_same
        generalize upd H5 st (NSet.SetN w st L) = H6 at s6 hst6 ⊢
        refine ⟨st, L, fun _ => true, rfl, hst6, fun x hx => ?_, fun L' lp pm nd lt od hlp => ?_⟩
        · obtain ⟨q, hq, rfl⟩ := List.mem_map.mp (hin x hx)
          exact ⟨SqT.of (s6 _ _ (hms.t q hq)), ⟨rfl, rfl, trivial⟩, by unfold keyP kp; simp⟩
        obtain ⟨ns, eL, gns, ens⟩ := set_sort hsg hmq hin hcov pm nd od
        rw [ems] at ens
        subst eL
        have s7 : Same H6 (upd H6 lp (.lst ((ns.map keyP).map fun q => V.ref q.1))) := Same.upd_new hlp
        have hlp7 : (upd H6 lp (.lst ((ns.map keyP).map fun q => V.ref q.1))) lp = some (.lst (ns.map fun q => V.ref q.1)) := by rw [upd_same, List.map_map]; rfl
        generalize upd H6 lp (.lst ((ns.map keyP).map fun q => V.ref q.1)) = H7 at s7 hlp7 ⊢
        have s57 := Vk.Same.trans s5 (Vk.Same.trans s6 s7)
        have ht7 := s57 _ _ ht1
        have hal7 := hal1.same s57
        walk_at "go"
        have n2 : putF "_pairs" (V.ref lp) [("alphabet", V.ref al)] = ([("alphabet", V.ref al), ("_pairs", V.ref lp)] : List (Str × V)) := by
          show (if ("alphabet" : Str) = "_pairs" then _ else (("alphabet" : Str), V.ref al) :: putF "_pairs" (V.ref lp) []) = _
          rw [if_neg (by decide +kernel)]
          rfl
        rw [n2]
        have h16 := Vk.Same.trans s5 s6
        have nlt : lp ≠ t := fun z => by
          rw [z, h16 _ _ ht1] at hlp
          cases hlp
        have nqt : ∀ q ∈ ns, q.1 ≠ t := fun q hq z => by
          have := s57 
          have h8 := Vk.Same.trans s6 s7 _ _ (hms.t q (gns q hq))
          rw [z, ht7] at h8
          cases h8
        refine k lp ns _ ?_ (Kp.trans (Kp.trans kp1 (Vk.Same.kp s57 t)) (Kp.upd t H7 _)) ⟨⟨dx, upd_same⟩, ?_, ⟨by rw [upd_ne nlt]; exact hlp7, fun q hq => by rw [upd_ne (nqt q hq)]; exact Vk.Same.trans s6 s7 _ _ (hms.t q (gns q hq))⟩, ens⟩
        · cases hh : H lp with
          | none => rfl
          | some o =>
            rw [h16 _ _ (kp1 _ _ nlt hh)] at hlp
            cases hlp
        · obtain ⟨l, v, ⟨dxa, e⟩, z⟩ := hal7
          exact ⟨l, v, ⟨dxa, by rw [upd_ne nal]; exact e⟩, z⟩
end
end
section
set_option Elab.async false
set_option linter.all false
set_option maxRecDepth 100000
set_option maxHeartbeats 4000000
open PySem PySem.Spec PyProof.Rows L2 NSet

local macro_rules | `(tactic| walk_at "side") => `(tactic| exact .inl (by assumption))
local macro_rules | `(tactic| walk_at "go1") => `(tactic| (with_reducible refine iGTup (by assumption) rfl ?_))
local macro_rules | `(tactic| walk_at "go1") => `(tactic| (with_reducible refine iGCons ?_))
local macro_rules | `(tactic| walk_at "go1") => `(tactic| (with_reducible refine iGNil ?_))
local macro_rules | `(tactic| walk_at "go1") => `(tactic| (with_reducible refine iMakeV ?_))
local macro_rules | `(tactic| walk_at "go1") => `(tactic| (with_reducible refine iMakeD ?_))
local macro_rules | `(tactic| walk_at "go1") => `(tactic| (with_reducible refine iLc2S ?_))
local macro_rules | `(tactic| walk_at "go1") => `(tactic| (with_reducible refine iLc2L ?_))
local macro_rules | `(tactic| walk_at "go1") => `(tactic| (with_reducible refine iIStr ?_))

section
variable {P : Program} {w : World} {K : PySem.W.Frag} {mg : Str → Option Value} {base : Heap} {a : Ad} {d : Fd}
/-- what Table(..) asks: one place for all makers -/
theorem iMk {a : Ad} {t al p dx : Addr} {H0 : Hp} {sg W : List Nat} {qs : List (Addr × Nat × Nat)} {Q : VK} {E : XK} (ht : H0 t = none) (hd : H0 dx = none) (hn : dx ≠ t) (hal : AlG a.cAlphabet H0 al sg W) (hs : SgOk sg) (hp : PrAt H0 p qs) (hl : qs.length ≤ 4000) (hm : ∀ q ∈ qs, q.2.1 ∈ sg ∧ q.2.2 ∈ sg)
    (k : ∀ lp ms H', H0 lp = none → Same H0 H' → TbL a H' t al sg W (relP qs) lp ms → Q (.ref t) H') : spInit a [.ref t, .ref al, .ref p] (upd (upd H0 dx (.own t)) t (.ins a.cTable dx [])) (fun v H2 => v = .non ∧ Q (.ref t) H2) E := by
  have s1 : Same H0 (upd (upd H0 dx (.own t)) t (.ins a.cTable dx [])) := fun c o hc => by
    rw [upd_ne (fun z => by rw [z, ht] at hc; cases hc), upd_ne (fun z => by rw [z, hd] at hc; cases hc)]
    exact hc
  refine ⟨t, al, p, dx, sg, W, qs, rfl, upd_same, hal.same s1, hs, hp.same s1, hl, hm, fun lp ms H' h1 h2 h3 => ⟨rfl, k lp ms H' (Same.free s1 h1) (fun c o hc => ?_) h3⟩⟩
  exact h2 c o (fun z => by rw [z, ht] at hc; cases hc) (s1 c o hc)
theorem fm_len (sg : List Nat) : ∀ l : List Nat, (l.flatMap fun s => sg.map fun t => (s, t)).length ≤ l.length * sg.length
  | [] => by simp
  | a :: l => by
    rw [List.flatMap_cons, List.length_append, List.length_map, List.length_cons, Nat.succ_mul]
    have := fm_len sg l
    omega
theorem mem_ms {ms : List (Addr × Nat × Nat)} {l : List (Nat × Nat)} (e : ms.map (·.2) = l) {q : Addr × Nat × Nat} (hq : q ∈ ms) : q.2 ∈ l := by
  rw [← e]
  exact List.mem_map.mpr ⟨q, hq, rfl⟩
end
end
section
set_option Elab.async false
set_option linter.all false
set_option maxRecDepth 100000
set_option maxHeartbeats 4000000
open PySem PySem.Spec PyProof.Rows L2 NSet

local macro_rules | `(tactic| walk_at "side") => `(tactic| exact .inl (by assumption))
local macro_rules | `(tactic| walk_at "go1") => `(tactic| (with_reducible refine iGTup (by assumption) rfl ?_))
local macro_rules | `(tactic| walk_at "go1") => `(tactic| (with_reducible refine iGCons ?_))
local macro_rules | `(tactic| walk_at "go1") => `(tactic| (with_reducible refine iGNil ?_))
local macro_rules | `(tactic| walk_at "go1") => `(tactic| (with_reducible refine iMakeV ?_))
local macro_rules | `(tactic| walk_at "go1") => `(tactic| (with_reducible refine iMakeD ?_))
local macro_rules | `(tactic| walk_at "go1") => `(tactic| (with_reducible refine iLc2S ?_))
local macro_rules | `(tactic| walk_at "go1") => `(tactic| (with_reducible refine iLc2L ?_))
local macro_rules | `(tactic| walk_at "go1") => `(tactic| (with_reducible refine iIStr ?_))

/-! pairs and rows as data -/
theorem okS1 {c : Nat} (h : c < 0x110000) : PyData.strOk (S [c]) = true := by
  show [c].toArray.all (fun c => decide (c < 0x110000)) = true
  simp
  exact h
def dq (q : Nat × Nat) : PyData := .tuple [.str (S [q.1]), .str (S [q.2])]
theorem dp_tup {K : PySem.W.Frag} {H : Hp} {x : Addr} {q : Nat × Nat} (h : H x = some (.tup [.str (S [q.1]), .str (S [q.2])])) : Dp K H (.ref x) (dq q) := .tup (SqT.of h) (.cons (.str _) (.cons (.str _) .nil))
theorem dp_allp {K : PySem.W.Frag} {H : Hp} : ∀ qs : List (Addr × Nat × Nat), (∀ q ∈ qs, H q.1 = some (.tup [.str (S [q.2.1]), .str (S [q.2.2])])) → DpAll K H (qs.map fun q => V.ref q.1) ((qs.map (·.2)).map dq)
  | [], _ => .nil
  | q :: qs, h => .cons (dp_tup (h q List.mem_cons_self)) (dp_allp qs fun z hz => h z (List.mem_cons_of_mem _ hz))
theorem PrAt.dp {K : PySem.W.Frag} {H : Hp} {p : Addr} {qs : List (Addr × Nat × Nat)} (h : PrAt H p qs) : Dp K H (.ref p) (.list ((qs.map (·.2)).map dq)) := .lst (SqL.of h.l) (dp_allp qs h.t)
theorem can_dq {q : Nat × Nat} (h : q.1 < 128 ∧ q.2 < 128) : PyData.canLay0 (dq q) = true := by
  simp [dq, PyData.canLay0, PyData.canLayAll0, okS1 (show q.1 < 0x110000 by omega), okS1 (show q.2 < 0x110000 by omega)]
theorem dep_dq {q : Nat × Nat} : PyData.depth (dq q) = 1 := by
  simp [dq, PyData.depth, PyData.depthAll]
theorem shaped_dq {q : Nat × Nat} (h : q.1 < 128 ∧ q.2 < 128) : SeqAt.shaped (dq q) = true := by
  simp [SeqAt.shaped, can_dq h, dep_dq]
theorem can_dqs : ∀ l : List (Nat × Nat), (∀ q ∈ l, q.1 < 128 ∧ q.2 < 128) → PyData.canLayAll0 (l.map dq) = true
  | [], _ => by simp [PyData.canLayAll0]
  | q :: l, h => by simp [PyData.canLayAll0, can_dq (h q List.mem_cons_self), can_dqs l fun z hz => h z (List.mem_cons_of_mem _ hz)]
theorem dep_dqs : ∀ l : List (Nat × Nat), PyData.depthAll (l.map dq) ≤ 1
  | [] => by simp [PyData.depthAll]
  | q :: l => by
    have := dep_dqs l
    simp [PyData.depthAll, dep_dq]
    omega
theorem shaped_dqs {l : List (Nat × Nat)} (h : ∀ q ∈ l, q.1 < 128 ∧ q.2 < 128) : SeqAt.shaped (.list (l.map dq)) = true := by
  have := dep_dqs l
  simp [SeqAt.shaped, PyData.canLay0, PyData.depth, can_dqs l h]
  omega
theorem S1_eq (a b : Nat) : (S [a] == S [b]) = decide (a = b) := by
  rw [Bool.eq_iff_iff, beq_iff_eq, decide_eq_true_iff, S_inj]
  simp
theorem eqv_dq (a b : Nat × Nat) : PyData.eqv (dq a) (dq b) = decide (a = b) := by
  obtain ⟨a1, a2⟩ := a
  obtain ⟨b1, b2⟩ := b
  simp [dq, PyData.eqv, PyData.eqvAll, S1_eq]
theorem eqv_dqs : ∀ l m : List (Nat × Nat), PyData.eqvAll (l.map dq) (m.map dq) = decide (l = m)
  | [], [] => by simp [PyData.eqvAll]
  | [], _ :: _ => by simp [PyData.eqvAll]
  | _ :: _, [] => by simp [PyData.eqvAll]
  | a :: l, b :: m => by simp [PyData.eqvAll, eqv_dq, eqv_dqs l m]
theorem eqv_dql (l m : List (Nat × Nat)) : PyData.eqv (.list (l.map dq)) (.list (m.map dq)) = decide (l = m) := by
  show PyData.eqvAll _ _ = _
  exact eqv_dqs l m
theorem any_dq (l : List (Nat × Nat)) (q : Nat × Nat) : ((l.map dq).any fun z => PyData.eqv z (dq q)) = decide (q ∈ l) := by
  rw [List.any_map, Bool.eq_iff_iff, List.any_eq_true, decide_eq_true_iff]
  constructor
  · rintro ⟨x, hx, e⟩
    have e2 : PyData.eqv (dq x) (dq q) = true := e
    rw [eqv_dq, decide_eq_true_iff] at e2
    rw [← e2]
    exact hx
  · intro h
    exact ⟨q, h, show PyData.eqv (dq q) (dq q) = true by rw [eqv_dq, decide_eq_true_iff]⟩
theorem TbL.low {a : Ad} {H : Hp} {t al lp : Addr} {sg W : List Nat} {R : Rel} {qs : List (Addr × Nat × Nat)} (h : TbL a H t al sg W R lp qs) (g : SgOk sg) : ∀ q ∈ qs.map (·.2), q.1 < 128 ∧ q.2 < 128 := fun q hq => by
  rw [h.c] at hq
  obtain ⟨h1, h2, _⟩ := mem_can.mp hq
  exact ⟨g.c _ h1, g.c _ h2⟩
section
variable {P : Program} {w : World} {K : PySem.W.Frag} {mg : Str → Option Value} {base : Heap} {a : Ad} {d : Fd}
theorem isi_T (T : Fns K mg a d) {x dx : Addr} {fs : List (Str × V)} {H : Hp} {Q : VK} (h : H x = some (.ins a.cTable dx fs)) (k : Q (.bl true) H) : rIsi K [.ref x, .ref a.cTable] H Q := by
  refine ⟨_, _, _, _, true, rfl, .own _, .base (.ins h T.clT T.icT T.igO T.itO T.imT), ?_, k⟩
  show PySem.W.kitOne K (.ref a.cTable) (.ref a.cTable) = some true
  unfold PySem.W.kitOne
  rw [if_pos (beq_iff_eq.mpr rfl)]
theorem eq_al {H : Hp} {al2 al : Addr} {sg2 W2 sg W : List Nat} {Q : VK} (eqA : PySem.W.notFirst K a.cAlphabet (.ref a.cAlphabet) = true) (h1 : AlG a.cAlphabet H al2 sg2 W2) (h2 : AlG a.cAlphabet H al sg W) (k : Q (.bl (decide (Alike sg2 W2 sg W))) H) :
    rOwnI K a.cAlphabet (spEq a.cAlphabet) E0 (.ref al2) (.ref al) H Q := by
  obtain ⟨l2, v2, hal2, e1, e2⟩ := h1
  obtain ⟨l, v, hal, e3, e4⟩ := h2
  obtain ⟨dy, z2⟩ := id hal2
  obtain ⟨dz, z3⟩ := id hal
  refine ⟨al2, dy, _, al, a.cAlphabet, dz, _, rfl, rfl, z2, z3, eqA, al2, al, l2, v2, l, v, rfl, hal2, hal, ?_⟩
  rw [← alike_eq, e1, e2, e3, e4]
  exact k
def spGet (a : Ad) : Sp := fun vs H Q _ => ∃ (t al : Addr) (c : Nat) (sg W : List Nat) (R : Rel), vs = [.ref t, .str (S [c])] ∧ Tb a H t al sg W R ∧ SgOk sg ∧ c ∈ sg ∧ ∀ H', Same H H' → Q (.str (S (sg.filter (R c)))) H'
theorem scTGet : FnScope ["self", "sign", "told", "out"] ["self", "sign"] (defScope sTGet) := ⟨rfl, rfl, rfl, by decide +kernel, rfl, by decide +kernel, by decide +kernel⟩
theorem ok_get (T : Fns K mg a d) : FnOk P w K mg base (L2.CX P w) 3 a.aTGet d.dTGet ["self", "sign"] (spGet a) := by
  have GIsSign : FnOk P w K mg base CX0 1 a.aIsSign d.dIsSign ["self", "text"] (spIsSign a) := ok_isSign T
  have GUnknownSign : FnOk P w K mg base CX0 1 a.eUnk d.eUnk ["self", "sign"] (fun _ _ _ _ => False) := ⟨fun _ _ _ _ h => h.elim, fun _ _ _ _ _ _ _ _ _ _ _ _ _ h => h.elim⟩
  refine T.FTGet.okX scTGet (fun vs H Q E h => ?_) (fun cdv A outer s H vs Q E hr h => ?_)
  · obtain ⟨t, al, c, sg, W, R, rfl, _⟩ := h
    rfl
  · obtain ⟨t, al, c, sg, W, R, rfl, ⟨lp, qs, hT⟩, hsg, hc, k⟩ := h
    obtain ⟨⟨dx, ht⟩, hal, hp, ec⟩ := id hT
    obtain ⟨dxa, ll, vv, hi⟩ := hal.ins
    have clA := T.clA
    have clT := T.clT
    have nTa := T.nTa
    have nTp := T.nTp
    have hl5 := hsg.l
    refine ⟨_, ((pss_cons (ps_if (pt_not (pt_val (pe_meth (pe_fld (pv 0) rfl) T.clA T.mIsSign GIsSign (hr.mono (by decide)) T.bIsSign .nil pass0 (pa_cons (pv 1) pa_nil)))) (pss_one (ps_raise rfl (takes_of rfl rfl rfl rfl) (pmk_oex T.xUnknownSign.ox T.xUnknownSign.iC T.xUnknownSign.tI GUnknownSign (hr.mono (by decide)) T.xUnknownSign.bB .nil pass0 (by rfl) T.xUnknownSign.gB (pa_cons (pv 1) pa_nil)))) pss_nil)
      (pss_one (ps_ret (pe_join (pe_strS (l := []) (by decide +kernel)) (pe_lc (own := [("told", 2), ("out", 3)]) (g := (gTup K 2 (gCons (gName 2) (gCons (gName 3) gNil)))) (by rfl) scTGet.nd (pi_list (pe_fld (pv 0) rfl)) (blkOk_by (own := [("told", 2), ("out", 3)]) (N := ["self", "sign", "told", "out"]) (sc := defScope sTGet) (by decide +kernel)) (fun _ _ _ _ _ => (pg_tup rfl (pgs_cons (pg_name (i := 2) scTGet.nd rfl (Or.inl rfl)) (pgs_cons (pg_name (i := 3) scTGet.nd rfl (Or.inl rfl)) pgs_nil)))) (fun _ _ _ _ _ => (pts_one (pt_cmpR op_eq (pv 2) (pv 1) (nomark _)))) (fun _ _ _ _ _ => (pv 3)))))))), ?_⟩
    walk_at "go"
    refine ⟨al, c, sg, W, rfl, hal, hl5, ?_⟩
    rw [decide_eq_true hc]
    have hpl := hp.l
    walk_at "go"
    rename_i D hD
    refine lc_list (K := K) (a := lp) (xs := qs.map fun q => V.ref q.1) (fun i H' => H' D = some (.lst ((((qs.take i).map (·.2)).filter fun q => decide (q.1 = c)).map fun q => V.str (S [q.2]))) ∧ Same H H') ⟨upd_same, Same.upd_new hD⟩ (fun i H' _ h => SqL.of (h.2 _ _ hpl)) ?_ ?_
    · rintro i x H5 hi ⟨hD5, s5⟩
      rw [List.getElem?_map] at hi
      obtain ⟨q, hq, rfl⟩ := Option.map_eq_some_iff.mp hi
      have hqm := List.mem_of_getElem? hq
      have hil := (List.getElem?_eq_some_iff.mp hq).1
      have hqt := s5 _ _ (hp.t q hqm)
      have hq25 := hT.len hsg
      have e1 : ((qs.take (i + 1)).map (·.2)).filter (fun q => decide (q.1 = c)) = ((qs.take i).map (·.2)).filter (fun q => decide (q.1 = c)) ++ if decide (q.2.1 = c) = true then [q.2] else [] := by
        rw [List.take_add_one, hq, List.map_append, List.filter_append]
        show _ ++ List.filter _ [q.2] = _
        rw [List.filter_cons, List.filter_nil]
      have hlen : (((qs.take i).map (·.2)).filter fun q => decide (q.1 = c)).length ≤ 25 := by
        have h1 := List.length_filter_le (fun q : Nat × Nat => decide (q.1 = c)) ((qs.take i).map (·.2))
        rw [List.length_map, List.length_take] at h1
        omega
      walk_at "go"
      · rename_i e
        rw [if_pos (decide_eq_true e)] at e1
        refine ⟨by rw [List.length_map, sizeLine_eq]; omega, ?_, fun b o hb => ?_⟩
        · rw [upd_same, e1, List.map_append]
          rfl
        · rw [upd_ne (fun z => by rw [z, hD] at hb; cases hb)]
          exact s5 _ _ hb
      · rename_i e
        rw [if_neg (by simpa using e), List.append_nil] at e1
        rw [e1]
        exact ⟨hD5, s5⟩
    · rintro H5 ⟨hD5, s5⟩
      have e3 : ((canL sg R).filter fun q => decide (q.1 = c)).map (fun q => V.str (S [q.2])) = (sg.filter (R c)).map fun x => V.str (S [x]) := by
        rw [← can_row hsg.a hc, List.map_map]
        rfl
      rw [List.length_map, List.take_of_length_le (Nat.le_refl _), ec, e3] at hD5
      have hj := join_S (l := sg.filter (R c)) (by have := List.length_filter_le (R c) sg; omega)
      refine ⟨S [], D, (sg.filter (R c)).map fun x => S [x], rfl, rfl, .inl (SqL.of (by rw [hD5, List.map_map]; rfl)), hj.1, ?_⟩
      rw [hj.2]
      exact k H5 s5
def spLen (a : Ad) : Sp := fun vs H Q _ => ∃ (t al : Addr) (sg W : List Nat) (R : Rel), vs = [.ref t] ∧ Tb a H t al sg W R ∧ SgOk sg ∧ Q (.int ((canL sg R).length : Int)) H
theorem scTLen : FnScope ["self"] ["self"] (defScope sTLen) := ⟨rfl, rfl, rfl, by decide +kernel, rfl, by decide +kernel, by decide +kernel⟩
theorem ok_len (T : Fns K mg a d) : FnOk P w K mg base CX0 1 a.aTLen d.dTLen ["self"] (spLen a) := by
  refine T.FTLen.ok scTLen (fun vs H Q E h => ?_) (fun cdv A outer s H vs Q E hr h => ?_)
  · obtain ⟨t, al, sg, W, R, rfl, _⟩ := h
    rfl
  · obtain ⟨t, al, sg, W, R, rfl, ⟨lp, qs, hT⟩, hsg, k⟩ := h
    obtain ⟨⟨dx, ht⟩, hal, hp, ec⟩ := id hT
    have clT := T.clT
    have nTp := T.nTp
    have hpl := hp.l
    refine ⟨_, ((pss_one (ps_ret (pe_callB call_len_seq (by rfl) T.z_len (by decide +kernel) (pa_cons (pe_fld (pv 0) rfl) pa_nil))))), ?_⟩
    walk_at "go"
    have e : (canL sg R).length = qs.length := by rw [← ec, List.length_map]
    rw [List.length_map, ← e]
    exact k
theorem scTPairs : FnScope ["self"] ["self"] (defScope sTPairs) := ⟨rfl, rfl, rfl, by decide +kernel, rfl, by decide +kernel, by decide +kernel⟩
def spPairsN (a : Ad) : Sp := fun vs H Q _ => ∃ (t al : Addr) (sg W : List Nat) (R : Rel), vs = [.ref t] ∧ Tb a H t al sg W R ∧ SgOk sg ∧ ∀ p ms H', H p = none → PrAt H' p ms → ms.map (·.2) = canL sg R → Same H H' → Q (.ref p) H'
theorem ok_pairsN (T : Fns K mg a d) : FnOk P w K mg base CX0 1 a.aTPairs d.dTPairs ["self"] (spPairsN a) := by
  refine T.FTPairs.ok scTPairs (fun vs H Q E h => ?_) (fun cdv A outer s H vs Q E hr h => ?_)
  · obtain ⟨t, al, sg, W, R, rfl, _⟩ := h
    rfl
  · obtain ⟨t, al, sg, W, R, rfl, ⟨lp, qs, hT⟩, hsg, k⟩ := h
    obtain ⟨⟨dx, ht⟩, hal, hp, ec⟩ := id hT
    have clT := T.clT
    have nTp := T.nTp
    have hpl := hp.l
    refine ⟨_, ((pss_one (ps_ret (pe_callTy call_list_of (by rfl) T.z_list (by decide +kernel) (pa_cons (pe_fld (pv 0) rfl) pa_nil))))), ?_⟩
    walk_at "go"
    rename_i p hpn
    have s1 : Same H (upd H p (.lst (qs.map fun q => V.ref q.1))) := Same.upd_new hpn
    exact k p qs _ hpn ⟨upd_same, fun q hq => s1 _ _ (hp.t q hq)⟩ ec s1
end
end
section
set_option Elab.async false
set_option linter.all false
set_option maxRecDepth 100000
set_option maxHeartbeats 4000000
open PySem PySem.Spec PyProof.Rows L2 NSet

local macro_rules | `(tactic| walk_at "side") => `(tactic| exact .inl (by assumption))
local macro_rules | `(tactic| walk_at "go1") => `(tactic| (with_reducible refine iGTup (by assumption) rfl ?_))
local macro_rules | `(tactic| walk_at "go1") => `(tactic| (with_reducible refine iGCons ?_))
local macro_rules | `(tactic| walk_at "go1") => `(tactic| (with_reducible refine iGNil ?_))
local macro_rules | `(tactic| walk_at "go1") => `(tactic| (with_reducible refine iMakeV ?_))
local macro_rules | `(tactic| walk_at "go1") => `(tactic| (with_reducible refine iMakeD ?_))
local macro_rules | `(tactic| walk_at "go1") => `(tactic| (with_reducible refine iLc2S ?_))
local macro_rules | `(tactic| walk_at "go1") => `(tactic| (with_reducible refine iLc2L ?_))
local macro_rules | `(tactic| walk_at "go1") => `(tactic| (with_reducible refine iIStr ?_))

theorem iIxI {C : Addr} {sp : Sp} {E : L2.St → XK} {ta tb : TE} {σ : L2.St} {H : Hp} {Q : VK} (h : ta σ H fun x H1 => tb σ H1 fun y H2 => ∃ a dx fs, x = .ref a ∧ H2 a = some (.ins C dx fs) ∧ sp [x, y] H2 Q (E σ)) : tIxI C sp E ta tb σ H Q := h
local macro_rules | `(tactic| walk_at "go1") => `(tactic| (with_reducible refine iIxI ?_))
section
variable {P : Program} {w : World} {K : PySem.W.Frag} {mg : Str → Option Value} {base : Heap} {a : Ad} {d : Fd}
theorem NewP.same {H1 H H' : Hp} {D : Addr} {l : List (Nat × Nat)} (h : NewP H1 D l H) (s : Same H H') : NewP H1 D l H' := by
  obtain ⟨ms, h1, h2, h3⟩ := h
  exact ⟨ms, h1.same s, h2, Vk.Same.trans h3 s⟩
theorem rel_of {sg : List Nat} {R : Rel} {l : List (Nat × Nat)} (hc : l = canL sg R) {s t : Nat} (hs : s ∈ sg) (ht : t ∈ sg) : (s, t) ∈ l ↔ R s t = true := by
  rw [hc, mem_can]
  exact ⟨fun h => h.2.2, fun h => ⟨hs, ht, h⟩⟩
def mulL (sg : List Nat) (B : Rel) (l : List (Nat × Nat)) : List (Nat × Nat) := l.flatMap fun q => (sg.filter (B q.2)).map fun o => (q.1, o)
theorem mul_len (sg : List Nat) (B : Rel) : ∀ l : List (Nat × Nat), (mulL sg B l).length ≤ l.length * sg.length
  | [] => by simp [mulL]
  | q :: l => by
    have := mul_len sg B l
    have h2 := List.length_filter_le (B q.2) sg
    unfold mulL at this ⊢
    rw [List.flatMap_cons, List.length_append, List.length_map, List.length_cons, Nat.succ_mul]
    omega
theorem mem_mul {sg : List Nat} {B : Rel} {l : List (Nat × Nat)} {s u : Nat} : (s, u) ∈ mulL sg B l ↔ ∃ m, (s, m) ∈ l ∧ u ∈ sg ∧ B m u = true := by
  unfold mulL
  rw [List.mem_flatMap]
  constructor
  · rintro ⟨q, hq, h⟩
    obtain ⟨o, ho, e⟩ := List.mem_map.mp h
    cases e
    obtain ⟨h1, h2⟩ := List.mem_filter.mp ho
    exact ⟨q.2, hq, h1, h2⟩
  · rintro ⟨m, h1, h2, h3⟩
    exact ⟨(s, m), h1, List.mem_map.mpr ⟨u, List.mem_filter.mpr ⟨h2, h3⟩, rfl⟩⟩
end
end
section
set_option Elab.async false
set_option linter.all false
set_option maxRecDepth 100000
set_option maxHeartbeats 4000000
open PySem PySem.Spec PyProof.Rows L2 NSet

local macro_rules | `(tactic| walk_at "side") => `(tactic| exact .inl (by assumption))
local macro_rules | `(tactic| walk_at "go1") => `(tactic| (with_reducible refine iGTup (by assumption) rfl ?_))
local macro_rules | `(tactic| walk_at "go1") => `(tactic| (with_reducible refine iGCons ?_))
local macro_rules | `(tactic| walk_at "go1") => `(tactic| (with_reducible refine iGNil ?_))
local macro_rules | `(tactic| walk_at "go1") => `(tactic| (with_reducible refine iMakeV ?_))
local macro_rules | `(tactic| walk_at "go1") => `(tactic| (with_reducible refine iMakeD ?_))
local macro_rules | `(tactic| walk_at "go1") => `(tactic| (with_reducible refine iLc2S ?_))
local macro_rules | `(tactic| walk_at "go1") => `(tactic| (with_reducible refine iLc2L ?_))
local macro_rules | `(tactic| walk_at "go1") => `(tactic| (with_reducible refine iIStr ?_))
local macro_rules | `(tactic| walk_at "go1") => `(tactic| (with_reducible refine iIxI ?_))

section
variable {P : Program} {w : World} {K : PySem.W.Frag} {mg : Str → Option Value} {base : Heap} {a : Ad} {d : Fd}
theorem cut63 (xs : List Int) : ∃ ys : List Int, cutV (xs.map V.int) none (some 63) = ys.map V.int ∧ ys.length ≤ 63 := by
  unfold cutV
  rw [← List.map_drop, ← List.map_take]
  refine ⟨_, rfl, ?_⟩
  rw [List.length_take]
  have : HT.sIx (xs.map V.int).length (xs.map V.int).length (some 63) ≤ 63 := by
    unfold HT.sIx
    simp
    omega
  omega
def spBag (K : PySem.W.Frag) : Sp := fun vs H Q _ => ∃ (s : Addr) (xs : List Int), vs = [.ref s] ∧ SqL K H s (xs.map V.int) ∧ xs.length ≤ 3000 ∧ ∀ (b g u : Addr) (H' : Hp), H b = none → H g = none → H u = none → BagB H' b g u → Same H H' → Q (.ref b) H'
theorem scBag : FnScope ["_law_script", "_law_great", "_law_cell", "_law_small"] ["_law_script"] (defScope sBag) := ⟨rfl, rfl, rfl, by decide +kernel, rfl, by decide +kernel, by decide +kernel⟩
theorem ok_bag (T : Fns K mg a d) : FnOk P w K mg base CX0 1 a.aBag d.dBag ["_law_script"] (spBag K) := by
  refine T.FBag.ok scBag (fun vs H Q E h => ?_) (fun cdv A outer s H vs Q E hr h => ?_)
  · obtain ⟨s, xs, rfl, _⟩ := h
    rfl
  · obtain ⟨sc, xs, rfl, hs, hl, k⟩ := h
    refine ⟨_, ((pss_cons (ps_setLc (i := 1) (own := [("_law_cell", 2)]) (g := gName 2) (by rfl) scBag.nd rfl rfl (by rfl) (pi_list (pe_slice sl_list (pv 0) po_none (po_some pe_int))) (blkOk_by (own := [("_law_cell", 2)]) (N := ["_law_script", "_law_great", "_law_cell", "_law_small"]) (sc := defScope sBag) (by decide +kernel)) (fun _ _ _ _ _ => pg_name (i := 2) scBag.nd rfl (Or.inl rfl)) (fun _ _ _ _ _ => (pts_one (pt_cmpR op_gt (pv 2) (pe_op op_pow pe_int pe_int) (nomark _)))) (fun _ _ _ _ _ => (pe_op op_sub (pe_callTy call_int1 (by rfl) T.z_int (by decide +kernel) (pa_cons (pv 2) pa_nil)) (pe_op op_pow pe_int pe_int))))
      (pss_cons (ps_setLc (i := 3) (own := [("_law_cell", 2)]) (g := gName 2) (by rfl) scBag.nd rfl rfl (by rfl) (pi_list (pe_slice sl_list (pv 0) po_none (po_some pe_int))) (blkOk_by (own := [("_law_cell", 2)]) (N := ["_law_script", "_law_great", "_law_cell", "_law_small"]) (sc := defScope sBag) (by decide +kernel)) (fun _ _ _ _ _ => pg_name (i := 2) scBag.nd rfl (Or.inl rfl)) (fun _ _ _ _ _ => (pts_one (pt_cmpR op_le (pv 2) (pe_op op_pow pe_int pe_int) (nomark _)))) (fun _ _ _ _ _ => (pe_op op_mod (pe_callTy call_int1 (by rfl) T.z_int (by decide +kernel) (pa_cons (pv 2) pa_nil)) pe_int)))
      (pss_one (ps_ret (pe_lst (pa_cons (pv 1) (pa_cons (pv 3) (pa_cons pe_int (pa_cons pe_int pa_nil)))))))))), ?_⟩
    walk_at "go"
    rename_i ps hps D hD
    obtain ⟨ys, hc, hy⟩ := cut63 xs
    rw [hc] at hD ⊢
    have s1 : Same H (upd H ps (.lst (ys.map V.int))) := Same.upd_new hps
    have h1 : (upd H ps (.lst (ys.map V.int))) ps = some (.lst (ys.map V.int)) := upd_same
    generalize upd H ps (.lst (ys.map V.int)) = H1 at s1 h1 hD ⊢
    refine lc_list (K := K) (a := ps) (xs := ys.map V.int) (fun i H' => ∃ gl : List Int, H' D = some (.lst (gl.map V.int)) ∧ gl.length ≤ i ∧ Same H1 H') ⟨[], upd_same, Nat.le_refl _, Same.upd_new hD⟩ (fun i H' _ h => SqL.of (by obtain ⟨_, _, _, s⟩ := h; exact s _ _ h1)) ?_ ?_
    · rintro i x H5 hi ⟨gl, hgl, hll, s5⟩
      rw [List.getElem?_map] at hi
      obtain ⟨z, hz, rfl⟩ := Option.map_eq_some_iff.mp hi
      have hil := (List.getElem?_eq_some_iff.mp hz).1
      walk_at "go"
      · refine ⟨by rw [List.length_map, sizeLine_eq]; omega, gl ++ [z - 10 ^ Int.toNat 18], by rw [upd_same, List.map_append]; rfl, by rw [List.length_append]; simpa using hll, fun b o hb => ?_⟩
        rw [upd_ne (fun e => by rw [e, hD] at hb; cases hb)]
        exact s5 _ _ hb
      · exact s5
    · rintro H5 ⟨gl, hgl, hll, s5⟩
      rw [List.length_map] at hll
      have hs5 := SqL.same hs (Vk.Same.trans s1 s5)
      walk_at "go"
      rename_i ps2 hps2 D2 hD2
      obtain ⟨ys2, hc2, hy2⟩ := cut63 xs
      rw [hc2] at hD2 ⊢
      have s6 : Same H5 (upd H5 ps2 (.lst (ys2.map V.int))) := Same.upd_new hps2
      have h6 : (upd H5 ps2 (.lst (ys2.map V.int))) ps2 = some (.lst (ys2.map V.int)) := upd_same
      generalize upd H5 ps2 (.lst (ys2.map V.int)) = H6 at s6 h6 hD2 ⊢
      refine lc_list (K := K) (a := ps2) (xs := ys2.map V.int) (fun i H' => ∃ sl : List Int, H' D2 = some (.lst (sl.map V.int)) ∧ sl.length ≤ i ∧ Same H6 H') ⟨[], upd_same, Nat.le_refl _, Same.upd_new hD2⟩ (fun i H' _ h => SqL.of (by obtain ⟨_, _, _, s⟩ := h; exact s _ _ h6)) ?_ ?_
      · rintro i x H7 hi ⟨sl, hsl, hsll, s7⟩
        rw [List.getElem?_map] at hi
        obtain ⟨z, hz, rfl⟩ := Option.map_eq_some_iff.mp hi
        have hil := (List.getElem?_eq_some_iff.mp hz).1
        walk_at "go"
        · refine ⟨by rw [List.length_map, sizeLine_eq]; omega, sl ++ [z % 2147483647], by rw [upd_same, List.map_append]; rfl, by rw [List.length_append]; simpa using hsll, fun b o hb => ?_⟩
          rw [upd_ne (fun e => by rw [e, hD2] at hb; cases hb)]
          exact s7 _ _ hb
        · exact s7
      · rintro H7 ⟨sl, hsl, hsll, s7⟩
        rw [List.length_map] at hsll
        have hg7 := s7 _ _ (s6 _ _ hgl)
        have hDD : D ≠ D2 := fun e => by
          rw [← e, s6 _ _ hgl] at hD2
          cases hD2
        have s17 := Vk.Same.trans s5 (Vk.Same.trans s6 s7)
        walk_at "go"
        rename_i b hb
        have nb1 : b ≠ D := (ne_of_none hg7 hb).symm
        have nb2 : b ≠ D2 := (ne_of_none hsl hb).symm
        have s07 := Vk.Same.trans s1 s17
        exact k b D D2 _ (Same.free s07 hb) (Same.free s1 hD) (Same.free (Vk.Same.trans s1 (Vk.Same.trans s5 s6)) hD2) ⟨gl, sl, 0, 11, upd_same, by rw [upd_ne nb1.symm]; exact hg7, by rw [upd_ne nb2.symm]; exact hsl, nb1, nb2, hDD, by omega, by omega⟩ (Vk.Same.trans s07 (Same.upd_new hb))
def spSigns : Sp := fun vs H Q _ => ∃ (l : List Nat), vs = [.str (S l)] ∧ l.length ≤ 4 ∧ ∀ H', Same H H' → Q (.str (S (45 :: srtL l))) H'
theorem scSigns : FnScope ["_law_letters", "_law_one"] ["_law_letters"] (defScope sSigns) := ⟨rfl, rfl, rfl, by decide +kernel, rfl, by decide +kernel, by decide +kernel⟩
theorem ok_signs (T : Fns K mg a d) : FnOk P w K mg base CX0 1 a.aSigns d.dSigns ["_law_letters"] spSigns := by
  refine T.FSigns.ok scSigns (fun vs H Q E h => ?_) (fun cdv A outer s H vs Q E hr h => ?_)
  · obtain ⟨l, rfl, _⟩ := h
    rfl
  · obtain ⟨l, rfl, hl, k⟩ := h
    refine ⟨_, ((pss_one (ps_ret (pe_op op_addS (pe_strS (l := [45]) (by decide +kernel)) (pe_join (pe_strS (l := []) (by decide +kernel)) (pe_callB cr_sortedS (by rfl) T.z_sorted (by decide +kernel) (pa_cons (pe_lc (own := [("_law_one", 1)]) (g := gName 1) (by rfl) scSigns.nd (pi_str (pv 0)) (blkOk_by (own := [("_law_one", 1)]) (N := ["_law_letters", "_law_one"]) (sc := defScope sSigns) (by decide +kernel)) (fun _ _ _ _ _ => pg_name (i := 1) scSigns.nd rfl (Or.inl rfl)) (fun _ _ _ _ _ => pts_nil) (fun _ _ _ _ _ => (pe_callTy SkE.call_str_str (by rfl) T.z_str (by decide +kernel) (pa_cons (pv 1) pa_nil)))) pa_nil))))))), ?_⟩
    walk_at "go"
    rename_i D hD
    refine lcg_S (fun i H' => H' D = some (.lst ((l.take i).map fun c => V.str (S [c]))) ∧ Same H H') ⟨upd_same, Same.upd_new hD⟩ (fun _ => rfl) (fun i c H' hc hP => ?_) (fun H' hP => ?_)
    · have hil := (List.getElem?_eq_some_iff.mp hc).1
      obtain ⟨h1, s1⟩ := hP
      walk_at "go"
      refine ⟨by rw [List.length_map, List.length_take, sizeLine_eq]; omega, ?_, fun b o hb => ?_⟩
      · rw [upd_same, List.take_add_one, hc, List.map_append]
        rfl
      · rw [upd_ne (fun e => by rw [e, hD] at hb; cases hb)]
        exact s1 _ _ hb
    · obtain ⟨h1, s1⟩ := hP
      rw [List.take_length] at h1
      walk_at "go"
      refine ⟨D, l.map fun c => S [c], rfl, SqL.of (by rw [h1, List.map_map]; rfl), by rw [List.length_map]; omega, fun ys q pm so hq => ?_⟩
      have e := sorted_signs pm so
      subst e
      have hj := join_S (l := srtL l) (by rw [srtL_len]; omega)
      refine ⟨S [], q, (srtL l).map fun c => S [c], rfl, rfl, .inl (SqL.of upd_same), hj.1, ?_⟩
      rw [hj.2]
      have s2 : Same H (upd H' q (.lst (((srtL l).map fun c => S [c]).map V.str))) := Vk.Same.trans s1 (Same.upd_new hq)
      generalize upd H' q (.lst (((srtL l).map fun c => S [c]).map V.str)) = H2 at s2 ⊢
      exact ⟨[45], srtL l, rfl, rfl, by rw [srtL_len]; show 1 + _ ≤ _; omega, k H2 s2⟩
def rowsP (sg : List Nat) (R : Rel) (l : List Nat) : List (Nat × Nat) := l.flatMap fun s => (sg.filter (R s)).map fun o => (s, o)
theorem rows_len (sg : List Nat) (R : Rel) : ∀ l : List Nat, (rowsP sg R l).length ≤ l.length * sg.length
  | [] => by simp [rowsP]
  | a :: l => by
    have := rows_len sg R l
    have h2 := List.length_filter_le (R a) sg
    unfold rowsP at this ⊢
    rw [List.flatMap_cons, List.length_append, List.length_map, List.length_cons, Nat.succ_mul]
    omega
end
end
section
set_option Elab.async false
set_option linter.all false
set_option maxRecDepth 100000
set_option maxHeartbeats 4000000
open PySem PySem.Spec PyProof.Rows L2 NSet

local macro_rules | `(tactic| walk_at "side") => `(tactic| exact .inl (by assumption))
local macro_rules | `(tactic| walk_at "go1") => `(tactic| (with_reducible refine iGTup (by assumption) rfl ?_))
local macro_rules | `(tactic| walk_at "go1") => `(tactic| (with_reducible refine iGCons ?_))
local macro_rules | `(tactic| walk_at "go1") => `(tactic| (with_reducible refine iGNil ?_))
local macro_rules | `(tactic| walk_at "go1") => `(tactic| (with_reducible refine iMakeV ?_))
local macro_rules | `(tactic| walk_at "go1") => `(tactic| (with_reducible refine iMakeD ?_))
local macro_rules | `(tactic| walk_at "go1") => `(tactic| (with_reducible refine iLc2S ?_))
local macro_rules | `(tactic| walk_at "go1") => `(tactic| (with_reducible refine iLc2L ?_))
local macro_rules | `(tactic| walk_at "go1") => `(tactic| (with_reducible refine iIStr ?_))
local macro_rules | `(tactic| walk_at "go1") => `(tactic| (with_reducible refine iIxI ?_))
local macro_rules | `(tactic| walk_at "go1") => `(tactic| (with_reducible refine iCMeth ?_))

section
variable {P : Program} {w : World} {K : PySem.W.Frag} {mg : Str → Option Value} {base : Heap} {a : Ad} {d : Fd}
theorem _root_.L2.Room.unit1 {k : Nat} {A : Around} (r : Room k A) : A.units + 1 < cLine := by have := r.units; omega
def Tx (t : List Nat) : Prop := t.length ≤ 100 ∧ ∀ c ∈ t, c < 0x110000
theorem repr_tx {t : List Nat} (h : Tx t) : (reprText (S t)).length ≤ 1002 := by
  have h1 := PySem.StrLaws.reprText_len (S t) (fun c hc => by
    rw [S_cps] at hc
    have := h.2 c hc
    omega)
  rw [S_len] at h1
  have := h.1
  omega
theorem al2 (a b : Str) : (a ++ b).length = a.length + b.length := by
  show (a.cps ++ b.cps).size = _
  rw [Array.size_append]
  rfl
theorem sl4 {n : Nat} (h : n ≤ 4000) : n ≤ sizeLine := by rw [sizeLine_eq]; omega
theorem e0l : Str.empty.length = 0 := by decide +kernel
theorem emp_S : (Str.empty : Str) = S [] := by decide +kernel
def PostE (B b : Addr) (E : XK) (H1 : Hp) : VK := fun v H2 => v = .non ∧ ∃ (d : Addr) (fs : List (Str × V)), H2 b = some (exo b B (some d)) ∧ H2 d = some (exd d fs) ∧ H1 d = none ∧ E (.ref B) (some d) (upd (del H2 b) d (.xd fs))
theorem raise1 {B b : Addr} {H0 H1 : Hp} {E : XK} {f : Str} {y : V} (hb : H1 b = none) (s : Same H0 H1) (k : ∀ d H', H0 d = none → H' d = some (.xd [(f, y)]) → Same H0 H' → E (.ref B) (some d) H') :
    ∀ dx, (upd H1 b (exo b B none)) dx = none → dx ≠ b → PostE B b E H1 .non (upd (upd (upd H1 b (exo b B none)) dx (exd dx [(f, y)])) b (exo b B (some dx))) := by
  intro d hd hn
  refine ⟨rfl, d, [(f, y)], upd_same, ?_, ?_, ?_⟩
  · rw [upd_ne hn, upd_same]
  · rw [upd_ne hn] at hd
    exact hd
  · have h1 : H1 d = none := by
      rw [upd_ne hn] at hd
      exact hd
    exact k d _ (L2.Same.free s h1) upd_same (Vk.Same.trans s (kp_exc hb hd hn))
def spErr (C : Addr) (f : Str) : Sp := fun vs H Q _ => ∃ (a : Addr) (t : List Nat), vs = [.ref a, .str (S t)] ∧ Tx t ∧ H a = some (exo a C none) ∧
  ∀ dx, H dx = none → dx ≠ a → Q .non (upd (upd H dx (exd dx [(f, .str (S t))])) a (exo a C (some dx)))
abbrev sEUnknownSign : Stmt := inClass (top 6) 0
theorem scUnknownSign : SScope ["self", "sign"] (defScope sEUnknownSign) := ⟨rfl, rfl, rfl, by decide +kernel, by decide +kernel, by decide +kernel, fun x h => (show ∀ y ∈ (defScope sEUnknownSign).names, y.2 = .free → y.1 = "__class__" by decide +kernel) _ (PySem.mem_of_lookup h) rfl, by decide +kernel, by decide +kernel⟩
theorem ok_eUnknownSign {f C cc cda : Addr} {dV kV doc pm ct oc : Value} {an od : Option Addr} {osl : Array (Option Value)} (T : SupC P K mg C cc cda) (hp : PySem.W.findIn K (.ref C) "sign" = some none)
    (lk : K.lookup f = some ⟨oc, od, .func (PySem.W.ksFn "__init__" "UnknownSign.__init__" (defArgs sEUnknownSign) (defBody sEUnknownSign) (defScope sEUnknownSign) dV kV doc pm an (.ref cda) ct cc), osl⟩) (hcd : PySem.W.codeIn K (.ref cda) "UnknownSign.__init__" = true) :
    FnOk P w K mg base CX0 1 f (PySem.W.ksFn "__init__" "UnknownSign.__init__" (defArgs sEUnknownSign) (defBody sEUnknownSign) (defScope sEUnknownSign) dV kV doc pm an (.ref cda) ct cc) ["self", "sign"] (spErr C "sign") := by
  refine fn_super (self := "self") (N' := ["sign"]) T lk hcd scUnknownSign rfl rfl rfl rfl (fun _ => rfl) (fun _ => rfl) (fun vs H Q E h => ?_) (fun A outer s H vs Q E hr h => ?_)
  · obtain ⟨a, z, rfl, _⟩ := h
    rfl
  · obtain ⟨a, z, rfl, hz, ha, k⟩ := h
    refine ⟨_, _, pe_joined (.cons pe_str (.cons (pe_fmtR (pv 1)) .nil)), pss_one (ps_ost (pv 0) (pv 1)), ⟨a, rfl, ha⟩, ?_⟩
    have e1 : (PySem.Str.ofString "not a sign of the alphabet: ").length ≤ 100 := by decide +kernel
    have hz2 := repr_tx hz
    refine ⟨_, rfl, sl4 ?_, _, rfl, .inl ⟨S z, rfl, sl4 (by omega), _, rfl, sl4 ?_, ⟨a, rfl, ha⟩, ?_⟩⟩
    · rw [al2, e0l]
      omega
    · rw [al2, al2, e0l]
      omega
    · exact ⟨_, rfl, _, rfl, a, C, rfl, T.oex, hp, .inl ⟨ha, fun dx hd hn => k dx hd hn⟩⟩
abbrev sEBadPerson : Stmt := inClass (top 7) 0
theorem scBadPerson : SScope ["self", "part"] (defScope sEBadPerson) := ⟨rfl, rfl, rfl, by decide +kernel, by decide +kernel, by decide +kernel, fun x h => (show ∀ y ∈ (defScope sEBadPerson).names, y.2 = .free → y.1 = "__class__" by decide +kernel) _ (PySem.mem_of_lookup h) rfl, by decide +kernel, by decide +kernel⟩
theorem ok_eBadPerson {f C cc cda : Addr} {dV kV doc pm ct oc : Value} {an od : Option Addr} {osl : Array (Option Value)} (T : SupC P K mg C cc cda) (hp : PySem.W.findIn K (.ref C) "part" = some none)
    (lk : K.lookup f = some ⟨oc, od, .func (PySem.W.ksFn "__init__" "BadPerson.__init__" (defArgs sEBadPerson) (defBody sEBadPerson) (defScope sEBadPerson) dV kV doc pm an (.ref cda) ct cc), osl⟩) (hcd : PySem.W.codeIn K (.ref cda) "BadPerson.__init__" = true) :
    FnOk P w K mg base CX0 1 f (PySem.W.ksFn "__init__" "BadPerson.__init__" (defArgs sEBadPerson) (defBody sEBadPerson) (defScope sEBadPerson) dV kV doc pm an (.ref cda) ct cc) ["self", "part"] (spErr C "part") := by
  refine fn_super (self := "self") (N' := ["part"]) T lk hcd scBadPerson rfl rfl rfl rfl (fun _ => rfl) (fun _ => rfl) (fun vs H Q E h => ?_) (fun A outer s H vs Q E hr h => ?_)
  · obtain ⟨a, z, rfl, _⟩ := h
    rfl
  · obtain ⟨a, z, rfl, hz, ha, k⟩ := h
    refine ⟨_, _, pe_joined (.cons pe_str (.cons (pe_fmt (pv 1)) .nil)), pss_one (ps_ost (pv 0) (pv 1)), ⟨a, rfl, ha⟩, ?_⟩
    have e1 : (PySem.Str.ofString "not what a person ").length ≤ 100 := by decide +kernel
    have hz2 := hz.1
    have hz3 : (S z).length = z.length := S_len z
    refine ⟨_, rfl, sl4 ?_, _, rfl, .inl ⟨S z, rfl, sl4 (by omega), _, rfl, sl4 ?_, ⟨a, rfl, ha⟩, ?_⟩⟩
    · rw [al2, e0l]
      omega
    · rw [al2, al2, e0l]
      omega
    · exact ⟨_, rfl, _, rfl, a, C, rfl, T.oex, hp, .inl ⟨ha, fun dx hd hn => k dx hd hn⟩⟩
/-! texts of an alphabet; the signs of a text in their order -/
def txtB (sg t : List Nat) : Bool := decide (∀ c ∈ t, c ∈ sg)
def spIsText (a : Ad) : Sp := fun vs H Q _ => ∃ (al : Addr) (sg W t : List Nat), vs = [.ref al, .str (S t)] ∧ AlG a.cAlphabet H al sg W ∧ t.length ≤ 4000 ∧ ∀ H', Same H H' → Q (.bl (txtB sg t)) H'
theorem scIsText : FnScope ["self", "text", "sign"] ["self", "text"] (defScope sIsText) := ⟨rfl, rfl, rfl, by decide +kernel, rfl, by decide +kernel, by decide +kernel⟩
theorem ok_isText (T : Fns K mg a d) : FnOk P w K mg base CX0 1 a.aIsText d.dIsText ["self", "text"] (spIsText a) := by
  have hcl := T.clA
  have hnS := T.nS
  refine T.FIsText.ok scIsText (fun vs H Q E h => ?_) (fun cdv A0 outer s H vs Q E hr h => ?_)
  · obtain ⟨al, sg, W, t, rfl, _⟩ := h
    rfl
  · obtain ⟨al, sg, W, t, rfl, hal, ht, k⟩ := h
    obtain ⟨dx, l, v, hal⟩ := hal.ins
    refine ⟨_, ((pss_one (ps_ret (pe_callB (cr_all rfl) (by rfl) T.z_all (by decide +kernel) (pa_cons (pe_lc (own := [("sign", 2)]) (g := gName 2) (by rfl) scIsText.nd (pi_str (pv 1)) (blkOk_by (own := [("sign", 2)]) (N := ["self", "text", "sign"]) (sc := defScope sIsText) (by decide +kernel)) (fun _ _ _ _ _ => pg_name (i := 2) scIsText.nd rfl (Or.inl rfl)) (fun _ _ _ _ _ => pts_nil) (fun _ _ _ _ _ => (pe_cmpR op_inS (pv 2) (pe_fldK (K := K) (by rfl) (pv 0) (by rfl)) rfl))) pa_nil))))), ?_⟩
    refine ⟨_, rfl, _, rfl, fun D hD => lc_text (fun _ => true) (fun c => V.bl (decide (c ∈ sg))) (by omega) (fun _ => rfl) (fun _ _ _ _ _ q => q) (fun c hc _ H2 Q2 off q => ?_) ?_⟩
    · have hal2 := (off al (ne_of_none hal hD)).trans hal
      exact ⟨_, rfl, _, rfl, al, a.cAlphabet, dx, _, _, rfl, hal2, hcl, hnS, rfl, c, sg, rfl, rfl, by simpa using q⟩
    · refine ⟨D, t.map (fun c => decide (c ∈ sg)), rfl, ?_, ?_⟩
      · rw [List.map_map]
        refine SqL.of ?_
        rw [upd_same, List.filter_eq_self.mpr (fun _ _ => rfl)]
        rfl
      · have e3 : (t.map fun c => decide (c ∈ sg)).all id = txtB sg t := by
          unfold txtB
          rw [Bool.eq_iff_iff]
          simp
        rw [e3]
        exact k _ (upd_laid hD)
def spInOrder : Sp := fun vs H Q _ => ∃ t : List Nat, vs = [.str (S t)] ∧ t.length ≤ 60 ∧ ∀ H', Same H H' → Q (.str (S (TSet.ordL t))) H'
theorem scInOrder : FnScope ["signs"] ["signs"] (defScope sInOrder) := ⟨rfl, rfl, rfl, by decide +kernel, rfl, by decide +kernel, by decide +kernel⟩
theorem ok_inOrder (T : Fns K mg a d) : FnOk P w K mg base CX0 1 a.aInOrder d.dInOrder ["signs"] spInOrder := by
  refine T.FInOrder.ok scInOrder (fun vs H Q E h => ?_) (fun cdv A0 outer s H vs Q E hr h => ?_)
  · obtain ⟨t, rfl, _⟩ := h
    rfl
  · obtain ⟨t, rfl, ht, k⟩ := h
    refine ⟨_, ((pss_one (ps_ret (pe_join (pe_strS (l := []) (by decide +kernel)) (pe_callB (TSet.cr_sortTx rfl) (by rfl) T.z_sorted (by decide +kernel) (pa_cons (pe_callTy (TSet.cr_setTx rfl) (by rfl) T.z_set (by decide +kernel) (pa_cons (pv 0) pa_nil)) pa_nil)))))), ?_⟩
    have e0 : (PySem.Str.ofString "" : Str) = S [] := by decide +kernel
    have hl := TSet.ord_len t
    walk_at "go"
    refine ⟨t, rfl, by omega, fun st hst => ?_⟩
    refine ⟨st, t, rfl, upd_same, by omega, fun lp hlp => ?_⟩
    have s1 : Same H (upd (upd H st (TSet.TxO w st t)) lp (.lst ((TSet.ordL t).map fun c => V.str (S [c])))) := Vk.Same.trans (Same.upd_new hst) (Same.upd_new hlp)
    refine ⟨S [], lp, (TSet.ordL t).map fun c => S [c], rfl, rfl, .inl (SqL.of ?_), ?_, ?_⟩
    · rw [upd_same, List.map_map]
      rfl
    · exact (join_S (by omega)).1
    · show Q _ _
      rw [join_signs]
      exact k _ s1
end
end
section
set_option Elab.async false
set_option linter.all false
set_option maxRecDepth 100000
set_option maxHeartbeats 4000000
open PySem PySem.Spec PyProof.Rows L2 NSet

local macro_rules | `(tactic| walk_at "side") => `(tactic| exact .inl (by assumption))
local macro_rules | `(tactic| walk_at "go1") => `(tactic| (with_reducible refine iGTup (by assumption) rfl ?_))
local macro_rules | `(tactic| walk_at "go1") => `(tactic| (with_reducible refine iGCons ?_))
local macro_rules | `(tactic| walk_at "go1") => `(tactic| (with_reducible refine iGNil ?_))
local macro_rules | `(tactic| walk_at "go1") => `(tactic| (with_reducible refine iMakeV ?_))
local macro_rules | `(tactic| walk_at "go1") => `(tactic| (with_reducible refine iMakeD ?_))
local macro_rules | `(tactic| walk_at "go1") => `(tactic| (with_reducible refine iLc2S ?_))
local macro_rules | `(tactic| walk_at "go1") => `(tactic| (with_reducible refine iLc2L ?_))
local macro_rules | `(tactic| walk_at "go1") => `(tactic| (with_reducible refine iIStr ?_))
local macro_rules | `(tactic| walk_at "go1") => `(tactic| (with_reducible refine iIxI ?_))
local macro_rules | `(tactic| walk_at "go1") => `(tactic| (with_reducible refine iCMeth ?_))

section
variable {P : Program} {w : World} {K : PySem.W.Frag} {mg : Str → Option Value} {base : Heap} {a : Ad} {d : Fd}
/-! k23: what a person is -/
def cP (a : Ad) : Nat → Addr
  | 0 => a.cPerson
  | 1 => a.cKnower
  | 2 => a.cDoubter
  | _ => a.cKD
def fSaid (a : Ad) : Nat → Addr
  | 0 => a.aPSaid
  | 1 => a.aKSaid
  | 2 => a.aDSaid
  | _ => a.aKDSaid
def fInit (a : Ad) : Nat → Addr
  | 0 => a.aPInit
  | 1 => a.aKInit
  | 2 => a.aPInit
  | _ => a.aKInit
/-- the classes of people, as the head gives them -/
structure Px (K : PySem.W.Frag) (a : Ad) : Prop where
  cl : ∀ i, i < 4 → Cls K (cP a i)
  nA : ∀ i, i < 4 → NoAttr K (cP a i) "alphabet"
  nH : ∀ i, i < 4 → NoAttr K (cP a i) "_hears"
  nS : ∀ i, i < 4 → NoAttr K (cP a i) "_says"
  nK : ∀ i, i < 4 → NoAttr K (cP a i) "_known"
  mHeard : ∀ i, i < 4 → Meth K (cP a i) "heard" a.aPHeard
  mSaid : ∀ i, i < 4 → Meth K (cP a i) "said" (fSaid a i)
  pTable : ∀ i, i < 4 → PropOf K (cP a i) "table" a.pTable a.aPTable
  pKnown : ∀ i, i < 2 → PropOf K (cP a (2 * i + 1)) "known" a.pKnown a.aKKnown
  mak : ∀ i, i < 4 → Mk K (cP a i) (fInit a i)
  ic : ∀ i, i < 4 → PySem.W.findIn K (.ref (cP a i)) "__class__" = some (some (.builtin "object.__class__"))
  im : ∀ i, i < 4 → PySem.W.mroIn K (cP a i) (.type "object") = some true
  kit : ∀ i j, i < 4 → j < 4 → PySem.W.kitOne K (.ref (cP a i)) (.ref (cP a j)) = some (decide (j = 0 ∨ j = i ∨ i = 3))
abbrev KV1 : Type := Key × V
/-- a dict from signs -/
def sk {β : Type} (f : β → V) (sg : List Nat) (ys : List β) : List (Key × V) := (sg.zip ys).map fun q => (.inr (S [q.1]), f q.2)
def hk (sg he : List Nat) : List (Key × V) := sk (fun c => V.str (S [c])) sg he
def yk (sg : List Nat) (sa : List (List Nat)) : List (Key × V) := sk (fun t => V.str (S (TSet.ordL t))) sg sa
theorem S_inj1 {t u : List Nat} (h : S t = S u) : t = u := by
  have := congrArg (fun y : Str => y.cps.toList) h
  simpa [S_cps] using this
theorem sk_get {β : Type} {f : β → V} : ∀ {sg : List Nat} {ys : List β} {i c : Nat} {y : β}, sg.Nodup → sg[i]? = some c → ys[i]? = some y → valV (sk f sg ys) (.inr (S [c])) = some (f y)
  | [], _, _, _, _, _, h, _ => by simp at h
  | _, [], _, _, _, _, _, h => by simp at h
  | b :: sg, z :: ys, 0, c, y, _, h1, h2 => by
    cases h1
    cases h2
    unfold valV sk
    rw [List.zip_cons_cons, List.map_cons, List.find?_cons_of_pos (by simp)]
    rfl
  | b :: sg, z :: ys, i + 1, c, y, hn, h1, h2 => by
    have h1 : sg[i]? = some c := h1
    have h2 : ys[i]? = some y := h2
    have hb : b ≠ c := fun e => (List.nodup_cons.mp hn).1 (e ▸ List.mem_of_getElem? h1)
    have hne : ¬ (decide ((Sum.inr (S [b]) : Key) = Sum.inr (S [c])) = true) := fun e => by
      have e := Sum.inr.inj (of_decide_eq_true e)
      have e := S_inj1 e
      exact hb (List.cons.inj e).1
    have ih := sk_get (f := f) (List.nodup_cons.mp hn).2 h1 h2
    unfold valV sk at ih ⊢
    rw [List.zip_cons_cons, List.map_cons, List.find?_cons_of_neg (p := fun kv : Key × V => decide (kv.1 = .inr (S [c]))) (a := (.inr (S [b]), f z)) hne]
    exact ih
theorem sk_none {β : Type} {f : β → V} {t : List Nat} : ∀ {sg : List Nat} {ys : List β}, (∀ c ∈ sg, t ≠ [c]) → valV (sk f sg ys) (.inr (S t)) = none
  | [], _, _ => rfl
  | _ :: _, [], _ => rfl
  | b :: sg, z :: ys, h => by
    have hne : ¬ (decide ((Sum.inr (S [b]) : Key) = Sum.inr (S t)) = true) := fun e => by
      have e := S_inj1 (Sum.inr.inj (of_decide_eq_true e))
      exact h b List.mem_cons_self e.symm
    have ih := sk_none (f := f) (ys := ys) (fun c hc => h c (List.mem_cons_of_mem _ hc))
    unfold valV sk at ih ⊢
    rw [List.zip_cons_cons, List.map_cons, List.find?_cons_of_neg (p := fun kv : Key × V => decide (kv.1 = .inr (S t))) (a := (.inr (S [b]), f z)) hne]
    exact ih
theorem put_new {kvs : List (Key × V)} {k : Key} {v : V} (h : ∀ p ∈ kvs, p.1 ≠ k) : putK kvs k v = kvs ++ [(k, v)] := by
  unfold putK
  rw [if_neg]
  intro e
  obtain ⟨p, hp, q⟩ := List.any_eq_true.mp e
  exact h p hp (of_decide_eq_true q)
theorem merge_new : ∀ (more kvs : List (Key × V)), ((kvs ++ more).map (·.1)).Nodup → mergeK kvs more = kvs ++ more
  | [], kvs, _ => by simp [mergeK]
  | p :: more, kvs, h => by
    have e : putK kvs p.1 p.2 = kvs ++ [p] := put_new fun q hq z => by
      rw [List.map_append, List.nodup_append] at h
      exact h.2.2 q.1 (List.mem_map.mpr ⟨q, hq, rfl⟩) p.1 (List.mem_map.mpr ⟨p, List.mem_cons_self, rfl⟩) z
    show mergeK (putK kvs p.1 p.2) more = _
    rw [e, merge_new more (kvs ++ [p]) (by rw [List.append_assoc]; exact h), List.append_assoc]
    rfl
theorem sk_keys {β : Type} {f : β → V} : ∀ (sg : List Nat) (ys : List β), ((sk f sg ys).map (·.1)).Sublist (sg.map fun c => (Sum.inr (S [c]) : Key))
  | [], _ => by simp [sk]
  | _ :: _, [] => by simp [sk]
  | b :: sg, z :: ys => by
    have ih := sk_keys (f := f) sg ys
    unfold sk at ih ⊢
    simp only [List.zip_cons_cons, List.map_cons]
    exact ih.cons_cons _
theorem keys_nd {sg : List Nat} (h : sg.Nodup) : (sg.map fun c => (Sum.inr (S [c]) : Key)).Nodup := by
  refine List.pairwise_map.mpr (h.imp fun {x y} hxy e => hxy ?_)
  have e := S_inj1 (Sum.inr.inj e)
  exact (List.cons.inj e).1
theorem sk_nd {β : Type} {f : β → V} {sg : List Nat} {ys : List β} (h : sg.Nodup) : ((sk f sg ys).map (·.1)).Nodup := (keys_nd h).sublist (sk_keys sg ys)
theorem zipP_sk (sg he : List Nat) : zipP (S sg) (S he) = hk sg he := by
  unfold zipP hk sk
  rw [S_cps, S_cps]
  rfl
theorem hk_merge {sg he : List Nat} (h : sg.Nodup) : mergeK [] (zipP (S sg) (S he)) = hk sg he := by
  rw [zipP_sk]
  exact merge_new (hk sg he) [] (show ((hk sg he).map (·.1)).Nodup from sk_nd h)
theorem sk_take {β : Type} {f : β → V} {sg : List Nat} {ys : List β} {i c : Nat} {y : β} (h1 : sg[i]? = some c) (h2 : ys[i]? = some y) : sk f (sg.take (i + 1)) (ys.take (i + 1)) = sk f (sg.take i) (ys.take i) ++ [(.inr (S [c]), f y)] := by
  have l1 := (List.getElem?_eq_some_iff.mp h1).1
  have l2 := (List.getElem?_eq_some_iff.mp h2).1
  unfold sk
  rw [List.take_add_one, List.take_add_one, h1, h2]
  rw [List.zip_append (by rw [List.length_take, List.length_take]; omega), List.map_append]
  rfl
theorem sk_step {β : Type} {f : β → V} {sg : List Nat} {ys : List β} {i c : Nat} {y : β} (hn : sg.Nodup) (h1 : sg[i]? = some c) (h2 : ys[i]? = some y) : putK (sk f (sg.take i) (ys.take i)) (.inr (S [c])) (f y) = sk f (sg.take (i + 1)) (ys.take (i + 1)) := by
  rw [sk_take h1 h2]
  refine put_new fun p hp e => ?_
  have hm : p.1 ∈ (sg.take i).map fun c => (Sum.inr (S [c]) : Key) := (sk_keys (f := f) _ _).subset (List.mem_map.mpr ⟨p, hp, rfl⟩)
  obtain ⟨x, hx, ex⟩ := List.mem_map.mp hm
  have ex := (List.cons.inj (S_inj1 (Sum.inr.inj (ex.trans e)))).1
  subst ex
  obtain ⟨j, hj⟩ := List.mem_iff_getElem?.mp hx
  rw [List.getElem?_take] at hj
  split at hj
  · rename_i hji
    have := (List.getElem?_inj (List.getElem?_eq_some_iff.mp hj).1 hn).mp (hj.trans h1.symm)
    omega
  · cases hj
theorem sk_len {β : Type} {f : β → V} (sg : List Nat) (ys : List β) : (sk f sg ys).length ≤ sg.length := by
  unfold sk
  simp
  omega
/-- the walk of a dict comprehension over zip(text, list) -/
theorem dc_zipS {x : Str} {b : Addr} {ys : List V} {g : TG} {tt : TT} {tk tv : TE} {vs : List Nat} {σ : L2.St} {H1 : Hp} {D : Addr} {Qd : Hp → Prop} (Pv : Nat → Hp → Prop) (h0 : Pv 0 (upd H1 D (.dK []))) (hz : ys.length = x.cps.size) (hl : ∀ i H, Pv i H → SqL K H b ys)
    (hs : ∀ i c y T H, x.cps[i]? = some c → ys[i]? = some y → Pv i H → H T = none → g (.ref T) (wipe σ vs) (upd H T (.tup [.str ⟨#[c]⟩, y])) fun σ2 H2 => wipe σ2 vs = wipe σ vs ∧ tt σ2 H2 fun b H3 =>
      if b = true then tk σ2 H3 fun y H4 => tv σ2 H4 fun z H5 => ∃ kvs k, y = kV k ∧ H5 D = some (.dK kvs) ∧ kvs.length < sizeLine ∧ Pv (i + 1) (upd H5 D (.dK (putK kvs k z))) else Pv (i + 1) H3) (hd : ∀ H, Pv ys.length H → Qd H) :
    ∃ W : Nat → Nat → Hp → Prop, (∃ m, W 0 m (upd H1 D (.dK []))) ∧ ∀ i m H, W i m H →
      ((IzS K x b).stop i H ∧ Qd H) ∨ ((IzS K x b).go i H ∧ ∃ Nx : Hp → Prop, (∀ H', Nx H' → ∃ m', m' < m ∧ W (i + 1) m' H') ∧ ∀ x' H', (IzS K x b).yld i H x' H' → g x' (wipe σ vs) H' fun σ2 H2 => wipe σ2 vs = wipe σ vs ∧ tt σ2 H2 fun b H3 =>
        if b = true then tk σ2 H3 fun y H4 => tv σ2 H4 fun z H5 => ∃ kvs k, y = kV k ∧ H5 D = some (.dK kvs) ∧ kvs.length < sizeLine ∧ Nx (upd H5 D (.dK (putK kvs k z))) else Nx H3) := by
  refine ⟨fun i m H => m = ys.length - i ∧ i ≤ ys.length ∧ Pv i H, ⟨ys.length, by simp, Nat.zero_le _, h0⟩, ?_⟩
  rintro i m H ⟨rfl, hi, p⟩
  have q := hl i H p
  by_cases hlt : i < ys.length
  · refine .inr ⟨⟨ys, ys[i], q, by simp [hlt], by omega⟩, Pv (i + 1), fun H' p' => ⟨ys.length - (i + 1), by omega, rfl, hlt, p'⟩, fun x' H' y => ?_⟩
    obtain ⟨T, c, y, e, hT, hc, eH, hy⟩ := y
    subst e eH
    exact hs i c y T _ hc (hy ys q) p hT
  · have e : i = ys.length := by omega
    subst e
    exact .inl ⟨⟨ys, q, by omega, Nat.le_refl _, .inl hz⟩, hd H p⟩
end
end
section
set_option Elab.async false
set_option linter.all false
set_option maxRecDepth 100000
set_option maxHeartbeats 4000000
open PySem PySem.Spec PyProof.Rows L2 NSet

local macro_rules | `(tactic| walk_at "side") => `(tactic| exact .inl (by assumption))
local macro_rules | `(tactic| walk_at "go1") => `(tactic| (with_reducible refine iGTup (by assumption) rfl ?_))
local macro_rules | `(tactic| walk_at "go1") => `(tactic| (with_reducible refine iGCons ?_))
local macro_rules | `(tactic| walk_at "go1") => `(tactic| (with_reducible refine iGNil ?_))
local macro_rules | `(tactic| walk_at "go1") => `(tactic| (with_reducible refine iMakeV ?_))
local macro_rules | `(tactic| walk_at "go1") => `(tactic| (with_reducible refine iMakeD ?_))
local macro_rules | `(tactic| walk_at "go1") => `(tactic| (with_reducible refine iLc2S ?_))
local macro_rules | `(tactic| walk_at "go1") => `(tactic| (with_reducible refine iLc2L ?_))
local macro_rules | `(tactic| walk_at "go1") => `(tactic| (with_reducible refine iIStr ?_))
local macro_rules | `(tactic| walk_at "go1") => `(tactic| (with_reducible refine iIxI ?_))
local macro_rules | `(tactic| walk_at "go1") => `(tactic| (with_reducible refine iCMeth ?_))
def kStrN3_0 : List Nat := [104, 101, 97, 114, 115]
theorem kStrN3_0_eq : PySem.Str.ofString "hears" = S kStrN3_0 := by decide +kernel
section
variable {P : Program} {w : World} {K : PySem.W.Frag} {mg : Str → Option Value} {base : Heap} {a : Ad} {d : Fd}
/-! k23: Person.__init__ -/
structure DatOk (sg he : List Nat) (sa : List (List Nat)) : Prop where
  lh : he.length = sg.length
  mh : ∀ c ∈ he, c ∈ sg
  ls : sa.length = sg.length
  ms : ∀ s ∈ sa, s ≠ [] ∧ (∀ c ∈ s, c ∈ sg) ∧ s.length ≤ 50
def sayB (sg s : List Nat) : Bool := decide (s ≠ []) && txtB sg s
theorem DatOk.say {sg he : List Nat} {sa : List (List Nat)} (h : DatOk sg he sa) : (sa.map (sayB sg)).all id = true := by
  rw [List.all_map, List.all_eq_true]
  intro s hs
  obtain ⟨h1, h2, _⟩ := h.ms s hs
  show (decide (s ≠ []) && txtB sg s) = true
  rw [decide_eq_true h1, show txtB sg s = true from decide_eq_true h2]
  rfl
def spPInit (a : Ad) : Sp := fun vs H Q _ => ∃ (p al sl i dx : Addr) (sg W he : List Nat) (sa : List (List Nat)), vs = [.ref p, .ref al, .str (S he), .ref sl] ∧ i < 4 ∧ H p = some (.ins (cP a i) dx []) ∧ AlG a.cAlphabet H al sg W ∧ SgOk sg ∧ H sl = some (.lst (sa.map fun t => V.str (S t))) ∧ DatOk sg he sa ∧
  ∀ hd sd H', Kp p H H' → H' p = some (.ins (cP a i) dx [("alphabet", .ref al), ("_hears", .ref hd), ("_says", .ref sd)]) → H' hd = some (.dK (hk sg he)) → H' sd = some (.dK (yk sg sa)) → Q .non H'
theorem scPInit : FnScope ["self", "alphabet", "hears", "says", "signs", "saying", "sign"] ["self", "alphabet", "hears", "says"] (defScope sPInit) := ⟨rfl, rfl, rfl, by decide +kernel, rfl, by decide +kernel, by decide +kernel⟩
theorem ok_pInit (T : Fns K mg a d) (M : Px K a) : FnOk P w K mg base (L2.CX P w) 3 a.aPInit d.dPInit ["self", "alphabet", "hears", "says"] (spPInit a) := by
  have GIsText : FnOk P w K mg base CX0 1 a.aIsText d.dIsText ["self", "text"] (spIsText a) := ok_isText T
  have GInOrder : FnOk P w K mg base CX0 1 a.aInOrder d.dInOrder ["signs"] spInOrder := ok_inOrder T
  have GBadPerson : FnOk P w K mg base CX0 1 a.eBadPerson d.eBadPerson ["self", "part"] (fun _ _ _ _ => False) := ⟨fun _ _ _ _ h => h.elim, fun _ _ _ _ _ _ _ _ _ _ _ _ _ h => h.elim⟩
  refine T.FPInit.okX scPInit (fun vs H Q E h => ?_) (fun cdv A outer s H vs Q E hr h => ?_)
  · obtain ⟨p, al, sl, i, dx, sg, W, he, sa, rfl, _⟩ := h
    rfl
  · obtain ⟨p, al, sl, i, dx, sg, W, he, sa, rfl, hi, hp, hal, hsg, hsl, hd, k⟩ := h
    refine ⟨_, ((pss_cons (ps_set (i := 4) scPInit.nd rfl (Or.inl rfl) (pe_fld (pv 1) rfl))
      (pss_cons (ps_if (PW.pt (pw_or (pt_cmpR op_ne (pe_callB call_lenS (by rfl) T.z_len (by decide +kernel) (pa_cons (pv 2) pa_nil)) (pe_callB call_lenS (by rfl) T.z_len (by decide +kernel) (pa_cons (pv 4) pa_nil)) (nomark _)) (pw_or1 (pt_not (pt_val (pe_meth (pv 1) T.clA T.mIsText GIsText (hr.mono (by decide)) T.bIsText .nil pass0 (pa_cons (pv 2) pa_nil))))))) (pss_one (ps_raise rfl (takes_of rfl rfl rfl rfl) (pmk_oex T.xBadPerson.ox T.xBadPerson.iC T.xBadPerson.tI GBadPerson (hr.mono (by decide)) T.xBadPerson.bB .nil pass0 (by rfl) T.xBadPerson.gB (pa_cons (pe_strS (l := kStrN3_0) kStrN3_0_eq) pa_nil)))) pss_nil)
      (pss_cons (ps_if (PW.pt (pw_or (pt_cmpR op_ne (pe_callB call_len_seq (by rfl) T.z_len (by decide +kernel) (pa_cons (pv 3) pa_nil)) (pe_callB call_lenS (by rfl) T.z_len (by decide +kernel) (pa_cons (pv 4) pa_nil)) (nomark _)) (pw_or1 (pt_not (pt_val (pe_callB (cr_all rfl) (by rfl) T.z_all (by decide +kernel) (pa_cons (pe_lc (own := [("saying", 5)]) (g := gName 5) (by rfl) scPInit.nd (pi_list (pv 3)) (blkOk_by (own := [("saying", 5)]) (N := ["self", "alphabet", "hears", "says", "signs", "saying", "sign"]) (sc := defScope sPInit) (by decide +kernel)) (fun _ _ _ _ _ => pg_name (i := 5) scPInit.nd rfl (Or.inl rfl)) (fun _ _ _ _ _ => pts_nil) (fun _ _ _ _ _ => (pe_and (pe_cmpR op_ne (pv 5) (pe_strS (l := []) (by decide +kernel)) (nomark _)) (pe_one (pe_meth (pv 1) T.clA T.mIsText GIsText (hr.mono (by decide)) T.bIsText .nil pass0 (pa_cons (pv 5) pa_nil)))))) pa_nil))))))) (pss_one (ps_raise rfl (takes_of rfl rfl rfl rfl) (pmk_oex T.xBadPerson.ox T.xBadPerson.iC T.xBadPerson.tI GBadPerson (hr.mono (by decide)) T.xBadPerson.bB .nil pass0 (by rfl) T.xBadPerson.gB (pa_cons (pe_strS (l := [115, 97, 121, 115]) (by decide +kernel)) pa_nil)))) pss_nil)
      (pss_cons (ps_fld (pv 0) (pv 1) rfl)
      (pss_cons (ps_fld (pv 0) (pe_dzip (by rfl) (by rfl) T.z_dict (by rfl) T.z_zip (pa_cons (pv 4) (pa_cons (pv 2) pa_nil))) rfl)
      (pss_one (ps_fld (pv 0) (pe_dc (own := [("sign", 6), ("saying", 5)]) (g := (gTup K 2 (gCons (gName 6) (gCons (gName 5) gNil)))) (by rfl) scPInit.nd (pi_zipS (by rfl) T.z_zip (pa_cons (pv 4) (pa_cons (pv 3) pa_nil))) (blkOk_by (own := [("sign", 6), ("saying", 5)]) (N := ["self", "alphabet", "hears", "says", "signs", "saying", "sign"]) (sc := defScope sPInit) (by decide +kernel)) (fun _ _ _ _ _ => (pg_tup rfl (pgs_cons (pg_name (i := 6) scPInit.nd rfl (Or.inl rfl)) (pgs_cons (pg_name (i := 5) scPInit.nd rfl (Or.inl rfl)) pgs_nil)))) (fun _ _ _ _ _ => pts_nil) (fun _ _ _ _ _ => (pv 6)) (fun _ _ _ _ _ => (pe_call GInOrder (hr.mono (by decide)) (by rfl) T.gInOrder T.FInOrder.kp T.bInOrder .nil pass0 (pa_cons (pv 5) pa_nil)))) rfl)))))))), ?_⟩
    obtain ⟨dxa, ll, vv, hi5⟩ := hal.ins
    have clA := T.clA
    have hnS := T.nS
    have ls := hsg.l
    have lh := hd.lh
    have lsa := hd.ls
    walk_at "go"
    refine ⟨al, sg, W, he, rfl, hal, by omega, fun H1 s1 => ?_⟩
    rw [show txtB sg he = true from decide_eq_true hd.mh]
    have hsl1 := s1 _ _ hsl
    walk_at "go"
    · exfalso
      rename_i hh
      simp at hh
      omega
    rename_i D hD
    refine lcg_L (xs := sa.map fun t => V.str (S t)) (fun i H' => Stop (H' D = some (.lst ((sa.take i).map fun t => V.bl (sayB sg t))) ∧ Same H1 H')) ⟨upd_same, Same.upd_new hD⟩ (fun _ => rfl) (fun i H' _ h => SqL.of (by obtain ⟨_, s⟩ := h; exact s _ _ hsl1)) ?_ ?_
    · rintro i x H5 hi ⟨h8, s8⟩
      rw [List.getElem?_map] at hi
      obtain ⟨t, ht, rfl⟩ := Option.map_eq_some_iff.mp hi
      have htm := hd.ms t (List.mem_of_getElem? ht)
      have hil := (List.getElem?_eq_some_iff.mp ht).1
      have s15 := Vk.Same.trans s1 s8
      have hal5 := hal.same s15
      have et : (sa.take i ++ [t]) = sa.take (i + 1) := by rw [List.take_add_one, ht]; rfl
      have lsz : ((sa.take i).map fun t => V.bl (sayB sg t)).length < sizeLine := by rw [List.length_map, List.length_take, sizeLine_eq]; omega
      have fin : ∀ (b : Bool) (H6 : Hp), b = sayB sg t → Same H5 H6 → Stop (upd H6 D (.lst (((sa.take i).map fun t => V.bl (sayB sg t)) ++ [V.bl b])) D = some (.lst ((sa.take (i + 1)).map fun t => V.bl (sayB sg t))) ∧ Same H1 (upd H6 D (.lst (((sa.take i).map fun t => V.bl (sayB sg t)) ++ [V.bl b])))) := fun b H6 e s6 => by
        refine ⟨?_, fun c o hc => ?_⟩
        · rw [upd_same, ← et, List.map_append, e]
          rfl
        · rw [upd_ne (fun z => by rw [z, hD] at hc; cases hc)]
          exact s6 _ _ (s8 _ _ hc)
      walk_at "go"
      · rename_i hne
        refine ⟨al, sg, W, t, rfl, hal5, by omega, fun H6 s6 => ⟨_, s6 _ _ h8, lsz, fin _ _ ?_ s6⟩⟩
        have : t ≠ [] := htm.1
        unfold sayB
        rw [decide_eq_true this]
        rfl
      · rename_i hne
        exact absurd hne htm.1
    · rintro H5 ⟨h8, s8⟩
      rw [List.length_map, List.take_length] at h8
      have s15 := Vk.Same.trans s1 s8
      have hp5 := s15 _ _ hp
      have hsl5 := s15 _ _ hsl
      have hal5 := hal.same s15
      have hcl := M.cl i hi
      have hnA := M.nA i hi
      have hnH := M.nH i hi
      have hnS := M.nS i hi
      walk_at "go"
      refine ⟨D, sa.map (sayB sg), rfl, SqL.of (by rw [h8, List.map_map]; rfl), ?_⟩
      rw [hd.say]
      walk_at "go"
      have ea : putF "alphabet" (V.ref al) [] = ([("alphabet", V.ref al)] : List (Str × V)) := rfl
      rw [ea]
      refine iDZip ?_
      walk_at "go"
      have sz1 : min (S sg).cps.size (S he).cps.size ≤ sizeLine := by
        show min (S sg).length (S he).length ≤ _
        rw [S_len, S_len]
        exact sl4 (by omega)
      refine ⟨sz1, fun hdp hhd => ?_⟩
      rw [hk_merge hsg.a.nd]
      have nhd : hdp ≠ p := fun z => by rw [z, upd_same] at hhd; cases hhd
      have nal : al ≠ p := fun z => by
        obtain ⟨_, _, _, e⟩ := hal5.ins
        rw [z, hp5] at e
        injection (Option.some.inj e) with _ _ e3
        cases e3
      have nsl : sl ≠ p := fun z => by rw [z, hp5] at hsl5; cases hsl5
      have kp6 : Kp p H (upd H5 p (.ins (cP a i) dx [("alphabet", V.ref al)])) := fun c o hc e => by rw [upd_ne hc]; exact s15 _ _ e
      have hp6 : (upd H5 p (.ins (cP a i) dx [("alphabet", V.ref al)])) p = some (.ins (cP a i) dx [("alphabet", V.ref al)]) := upd_same
      generalize upd H5 p (.ins (cP a i) dx [("alphabet", V.ref al)]) = H6 at kp6 hp6 hhd ⊢
      have s7 : Same H6 (upd H6 hdp (.dK (hk sg he))) := Same.upd_new hhd
      have hp7 := s7 _ _ hp6
      have hh7 : (upd H6 hdp (.dK (hk sg he))) hdp = some (.dK (hk sg he)) := upd_same
      generalize upd H6 hdp (.dK (hk sg he)) = H7 at s7 hp7 hh7 ⊢
      walk_at "go"
      have eb : putF "_hears" (V.ref hdp) [("alphabet", V.ref al)] = ([("alphabet", V.ref al), ("_hears", V.ref hdp)] : List (Str × V)) := by
        show (if ("alphabet" : Str) = "_hears" then _ else (("alphabet" : Str), V.ref al) :: putF "_hears" (V.ref hdp) []) = _
        rw [if_neg (by decide +kernel)]
        rfl
      rw [eb]
      have kp7 := Kp.trans kp6 (Vk.Same.kp s7 p)
      have kp8 : Kp p H (upd H7 p (.ins (cP a i) dx [("alphabet", V.ref al), ("_hears", V.ref hdp)])) := Kp.trans kp7 (Kp.upd p H7 _)
      have hp8 : (upd H7 p (.ins (cP a i) dx [("alphabet", V.ref al), ("_hears", V.ref hdp)])) p = some (.ins (cP a i) dx [("alphabet", V.ref al), ("_hears", V.ref hdp)]) := upd_same
      have hh8 : (upd H7 p (.ins (cP a i) dx [("alphabet", V.ref al), ("_hears", V.ref hdp)])) hdp = some (.dK (hk sg he)) := by rw [upd_ne nhd]; exact hh7
      generalize upd H7 p (.ins (cP a i) dx [("alphabet", V.ref al), ("_hears", V.ref hdp)]) = H8 at kp8 hp8 hh8 ⊢
      have hsl8 := kp8 _ _ nsl hsl
      have hal8 : AlG a.cAlphabet H8 al sg W := by
        obtain ⟨l, v, ⟨dxa, e⟩, z⟩ := hal
        exact ⟨l, v, ⟨dxa, kp8 _ _ nal e⟩, z⟩
      refine ⟨_, rfl, _, rfl, S sg, sl, _, rfl, SqL.of hsl8, fun D2 hD2 => dc_zipS (x := S sg) (ys := sa.map fun t => V.str (S t)) (fun i H' => Stop (H' D2 = some (.dK (yk (sg.take i) (sa.take i))) ∧ Same H8 H')) ⟨upd_same, Same.upd_new hD2⟩ (by rw [List.length_map]; show _ = (S sg).length; rw [S_len]; exact lsa) (fun i H' h => SqL.of (by obtain ⟨_, s⟩ := h; exact s _ _ hsl8)) ?_ ?_⟩
      · rintro i c y T2 H9 hc hy ⟨h9, s9⟩ hT2
        rw [List.getElem?_map] at hy
        obtain ⟨t, ht, rfl⟩ := Option.map_eq_some_iff.mp hy
        have htm := hd.ms t (List.mem_of_getElem? ht)
        have hcs : sg[i]? = some c := by simpa [S_cps, S] using hc
        have hT3 : (upd H9 T2 (.tup [.str ⟨#[c]⟩, .str (S t)])) T2 = some (.tup [.str ⟨#[c]⟩, .str (S t)]) := upd_same
        have s10 : Same H9 (upd H9 T2 (.tup [.str ⟨#[c]⟩, .str (S t)])) := Same.upd_new hT2
        have h10 := s10 _ _ h9
        generalize upd H9 T2 (.tup [.str ⟨#[c]⟩, .str (S t)]) = H10 at hT3 s10 h10 ⊢
        walk_at "go"
        refine ⟨t, rfl, by omega, fun H11 s11 => ⟨_, .inr (S [c]), rfl, s11 _ _ h10, ?_, ?_, fun cc o hcc => ?_⟩⟩
        · have := sk_len (f := fun t => V.str (S (TSet.ordL t))) (sg.take i) (sa.take i)
          have l2 : (sg.take i).length ≤ sg.length := by rw [List.length_take]; omega
          show (sk (fun t => V.str (S (TSet.ordL t))) (sg.take i) (sa.take i)).length < _
          rw [sizeLine_eq]
          omega
        · rw [upd_same]
          have e := sk_step (f := fun t => V.str (S (TSet.ordL t))) hsg.a.nd hcs ht
          unfold yk
          rw [e]
        · rw [upd_ne (fun z => by rw [z, hD2] at hcc; cases hcc)]
          exact s11 _ _ (s10 _ _ (s9 _ _ hcc))
      · rintro H9 ⟨h9, s9⟩
        rw [List.length_map, List.take_length, List.take_of_length_le (by omega)] at h9
        have hp9 := s9 _ _ hp8
        walk_at "go"
        have ec : putF "_says" (V.ref D2) [("alphabet", V.ref al), ("_hears", V.ref hdp)] = ([("alphabet", V.ref al), ("_hears", V.ref hdp), ("_says", V.ref D2)] : List (Str × V)) := by
          show (if ("alphabet" : Str) = "_says" then _ else (("alphabet" : Str), V.ref al) :: (if ("_hears" : Str) = "_says" then _ else (("_hears" : Str), V.ref hdp) :: putF "_says" (V.ref D2) [])) = _
          rw [if_neg (by decide +kernel), if_neg (by decide +kernel)]
          rfl
        rw [ec]
        have nD2 : D2 ≠ p := fun z => by rw [z, hp8] at hD2; cases hD2
        refine k hdp D2 _ (Kp.trans kp8 (Kp.trans (Vk.Same.kp s9 p) (Kp.upd p H9 _))) upd_same ?_ ?_
        · rw [upd_ne nhd]
          exact s9 _ _ hh8
        · rw [upd_ne nD2]
          exact h9
end
end
section
set_option Elab.async false
set_option linter.all false
set_option maxRecDepth 100000
set_option maxHeartbeats 4000000
open PySem PySem.Spec PyProof.Rows L2 NSet

local macro_rules | `(tactic| walk_at "side") => `(tactic| exact .inl (by assumption))
local macro_rules | `(tactic| walk_at "go1") => `(tactic| (with_reducible refine iGTup (by assumption) rfl ?_))
local macro_rules | `(tactic| walk_at "go1") => `(tactic| (with_reducible refine iGCons ?_))
local macro_rules | `(tactic| walk_at "go1") => `(tactic| (with_reducible refine iGNil ?_))
local macro_rules | `(tactic| walk_at "go1") => `(tactic| (with_reducible refine iMakeV ?_))
local macro_rules | `(tactic| walk_at "go1") => `(tactic| (with_reducible refine iMakeD ?_))
local macro_rules | `(tactic| walk_at "go1") => `(tactic| (with_reducible refine iLc2S ?_))
local macro_rules | `(tactic| walk_at "go1") => `(tactic| (with_reducible refine iLc2L ?_))
local macro_rules | `(tactic| walk_at "go1") => `(tactic| (with_reducible refine iIStr ?_))
local macro_rules | `(tactic| walk_at "go1") => `(tactic| (with_reducible refine iIxI ?_))
local macro_rules | `(tactic| walk_at "go1") => `(tactic| (with_reducible refine iCMeth ?_))
def kStrN4_0 : List Nat := [104, 101, 97, 114, 115]
theorem kStrN4_0_eq : PySem.Str.ofString "hears" = S kStrN4_0 := by decide +kernel
section
variable {P : Program} {w : World} {K : PySem.W.Frag} {mg : Str → Option Value} {base : Heap} {a : Ad} {d : Fd}
/-! k23: Person.__init__ that raises -/
def wHears : List Nat := [104, 101, 97, 114, 115]
def wSays : List Nat := [115, 97, 121, 115]
def wKnows : List Nat := [107, 110, 111, 119, 115]
def herB (sg he : List Nat) : Bool := decide (he.length = sg.length) && txtB sg he
def sasB (sg : List Nat) (sa : List (List Nat)) : Bool := decide (sa.length = sg.length) && (sa.map (sayB sg)).all id
def Wrong (sg he : List Nat) (sa : List (List Nat)) (part : List Nat) : Prop := (part = wHears ∧ herB sg he = false) ∨ (part = wSays ∧ herB sg he = true ∧ sasB sg sa = false)
def spPInitX (a : Ad) : Sp := fun vs H _ E => ∃ (p al sl dx : Addr) (i : Nat) (sg W he part : List Nat) (sa : List (List Nat)), vs = [.ref p, .ref al, .str (S he), .ref sl] ∧ i < 4 ∧ H p = some (.ins (cP a i) dx []) ∧ AlG a.cAlphabet H al sg W ∧ SgOk sg ∧ H sl = some (.lst (sa.map fun t => V.str (S t))) ∧ he.length ≤ 100 ∧ sa.length ≤ 100 ∧ (∀ s ∈ sa, s.length ≤ 100) ∧ Wrong sg he sa part ∧
  ∀ dd H', H dd = none → H' dd = some (.xd [("part", .str (S part))]) → Same H H' → E (.ref a.cBadPerson) (some dd) H'
theorem ok_pInitX (T : Fns K mg a d) (M : Px K a) (GBadPerson : FnOk P w K mg base CX0 1 a.eBadPerson d.eBadPerson ["self", "part"] (spErr a.cBadPerson "part")) : FnOk P w K mg base (L2.CX P w) 3 a.aPInit d.dPInit ["self", "alphabet", "hears", "says"] (spPInitX a) := by
  have GIsText : FnOk P w K mg base CX0 1 a.aIsText d.dIsText ["self", "text"] (spIsText a) := ok_isText T
  have GInOrder : FnOk P w K mg base CX0 1 a.aInOrder d.dInOrder ["signs"] spInOrder := ok_inOrder T
  refine T.FPInit.okX scPInit (fun vs H Q E h => ?_) (fun cdv A outer s H vs Q E hr h => ?_)
  · obtain ⟨p, al, sl, dx, i, sg, W, he, part, sa, rfl, _⟩ := h
    rfl
  · obtain ⟨p, al, sl, dx, i, sg, W, he, part, sa, rfl, hi, hp, hal, hsg, hsl, hhe, hsa, hea, hd, k⟩ := h
    refine ⟨_, ((pss_cons (ps_set (i := 4) scPInit.nd rfl (Or.inl rfl) (pe_fld (pv 1) rfl))
      (pss_cons (ps_if (PW.pt (pw_or (pt_cmpR op_ne (pe_callB call_lenS (by rfl) T.z_len (by decide +kernel) (pa_cons (pv 2) pa_nil)) (pe_callB call_lenS (by rfl) T.z_len (by decide +kernel) (pa_cons (pv 4) pa_nil)) (nomark _)) (pw_or1 (pt_not (pt_val (pe_meth (pv 1) T.clA T.mIsText GIsText (hr.mono (by decide)) T.bIsText .nil pass0 (pa_cons (pv 2) pa_nil))))))) (pss_one (ps_raise rfl (takes_of rfl rfl rfl rfl) (pmk_oex T.xBadPerson.ox T.xBadPerson.iC T.xBadPerson.tI GBadPerson (hr.mono (by decide)) T.xBadPerson.bB .nil pass0 (by rfl) T.xBadPerson.gB (pa_cons (pe_strS (l := kStrN4_0) kStrN4_0_eq) pa_nil)))) pss_nil)
      (pss_cons (ps_if (PW.pt (pw_or (pt_cmpR op_ne (pe_callB call_len_seq (by rfl) T.z_len (by decide +kernel) (pa_cons (pv 3) pa_nil)) (pe_callB call_lenS (by rfl) T.z_len (by decide +kernel) (pa_cons (pv 4) pa_nil)) (nomark _)) (pw_or1 (pt_not (pt_val (pe_callB (cr_all rfl) (by rfl) T.z_all (by decide +kernel) (pa_cons (pe_lc (own := [("saying", 5)]) (g := gName 5) (by rfl) scPInit.nd (pi_list (pv 3)) (blkOk_by (own := [("saying", 5)]) (N := ["self", "alphabet", "hears", "says", "signs", "saying", "sign"]) (sc := defScope sPInit) (by decide +kernel)) (fun _ _ _ _ _ => pg_name (i := 5) scPInit.nd rfl (Or.inl rfl)) (fun _ _ _ _ _ => pts_nil) (fun _ _ _ _ _ => (pe_and (pe_cmpR op_ne (pv 5) (pe_strS (l := []) (by decide +kernel)) (nomark _)) (pe_one (pe_meth (pv 1) T.clA T.mIsText GIsText (hr.mono (by decide)) T.bIsText .nil pass0 (pa_cons (pv 5) pa_nil)))))) pa_nil))))))) (pss_one (ps_raise rfl (takes_of rfl rfl rfl rfl) (pmk_oex T.xBadPerson.ox T.xBadPerson.iC T.xBadPerson.tI GBadPerson (hr.mono (by decide)) T.xBadPerson.bB .nil pass0 (by rfl) T.xBadPerson.gB (pa_cons (pe_strS (l := [115, 97, 121, 115]) (by decide +kernel)) pa_nil)))) pss_nil)
      (pss_cons (ps_fld (pv 0) (pv 1) rfl)
      (pss_cons (ps_fld (pv 0) (pe_dzip (by rfl) (by rfl) T.z_dict (by rfl) T.z_zip (pa_cons (pv 4) (pa_cons (pv 2) pa_nil))) rfl)
      (pss_one (ps_fld (pv 0) (pe_dc (own := [("sign", 6), ("saying", 5)]) (g := (gTup K 2 (gCons (gName 6) (gCons (gName 5) gNil)))) (by rfl) scPInit.nd (pi_zipS (by rfl) T.z_zip (pa_cons (pv 4) (pa_cons (pv 3) pa_nil))) (blkOk_by (own := [("sign", 6), ("saying", 5)]) (N := ["self", "alphabet", "hears", "says", "signs", "saying", "sign"]) (sc := defScope sPInit) (by decide +kernel)) (fun _ _ _ _ _ => (pg_tup rfl (pgs_cons (pg_name (i := 6) scPInit.nd rfl (Or.inl rfl)) (pgs_cons (pg_name (i := 5) scPInit.nd rfl (Or.inl rfl)) pgs_nil)))) (fun _ _ _ _ _ => pts_nil) (fun _ _ _ _ _ => (pv 6)) (fun _ _ _ _ _ => (pe_call GInOrder (hr.mono (by decide)) (by rfl) T.gInOrder T.FInOrder.kp T.bInOrder .nil pass0 (pa_cons (pv 5) pa_nil)))) rfl)))))))), ?_⟩
    obtain ⟨dxa, ll, vv, hi5⟩ := hal.ins
    have clA := T.clA
    have hnS := T.nS
    have ls := hsg.l
    have tx1 : Tx wHears := ⟨by decide, by decide⟩
    have tx2 : Tx wSays := ⟨by decide, by decide⟩
    have raise : ∀ (H1 : Hp) (z : List Nat), z = part → Tx z → Same H H1 → tMkO a.cBadPerson (spErr a.cBadPerson "part") [] (tCons (tC (V.str (S z))) tNil) (List.set (L2.start ["self", "alphabet", "hears", "says", "signs", "saying", "sign"] [V.ref p, V.ref al, V.str (S he), V.ref sl]) 4 (some (V.str (S sg)))) H1 fun cls d H' => E cls d H' := fun H1 z ez tz s1 => by
      subst ez
      walk_at "go"
      exact ⟨by show 1 ≤ 1000; decide, fun b hb => ⟨b, z, rfl, tz, upd_same, raise1 hb s1 fun dd H' h1 h2 h3 => k dd H' h1 h2 h3⟩⟩
    walk_at "go"
    · rename_i hne
      have hne : ¬ he.length = sg.length := by omega
      refine raise H _ ?_ tx1 (fun _ _ z => z)
      rcases hd with ⟨e, _⟩ | ⟨_, e, _⟩
      · exact e.symm
      · unfold herB at e
        rw [decide_eq_false hne] at e
        cases e
    rename_i hlen
    have hlen : he.length = sg.length := by omega
    refine ⟨al, sg, W, he, rfl, hal, by omega, fun H1 s1 => ?_⟩
    cases hb : txtB sg he with
    | false =>
      walk_at "go"
      refine raise H1 _ ?_ tx1 s1
      rcases hd with ⟨e, _⟩ | ⟨_, e, _⟩
      · exact e.symm
      · unfold herB at e
        rw [hb, Bool.and_false] at e
        cases e
    | true =>
      have hgood : herB sg he = true := by
        unfold herB
        rw [decide_eq_true hlen, hb]
        rfl
      have hpart : part = wSays ∧ sasB sg sa = false := by
        rcases hd with ⟨_, e⟩ | ⟨e1, _, e2⟩
        · rw [hgood] at e
          cases e
        · exact ⟨e1, e2⟩
      have hsl1 := s1 _ _ hsl
      walk_at "go"
      · exact raise H1 _ hpart.1.symm tx2 s1
      rename_i D hD
      refine lcg_L (xs := sa.map fun t => V.str (S t)) (fun i H' => Stop (H' D = some (.lst ((sa.take i).map fun t => V.bl (sayB sg t))) ∧ Same H1 H')) ⟨upd_same, Same.upd_new hD⟩ (fun _ => rfl) (fun i H' _ h => SqL.of (by obtain ⟨_, s⟩ := h; exact s _ _ hsl1)) ?_ ?_
      · rintro i x H5 hi ⟨h8, s8⟩
        rw [List.getElem?_map] at hi
        obtain ⟨t, ht, rfl⟩ := Option.map_eq_some_iff.mp hi
        have htm := hea t (List.mem_of_getElem? ht)
        have hil := (List.getElem?_eq_some_iff.mp ht).1
        have s15 := Vk.Same.trans s1 s8
        have hal5 := hal.same s15
        have et : (sa.take i ++ [t]) = sa.take (i + 1) := by rw [List.take_add_one, ht]; rfl
        have lsz : ((sa.take i).map fun t => V.bl (sayB sg t)).length < sizeLine := by rw [List.length_map, List.length_take, sizeLine_eq]; omega
        have fin : ∀ (b : Bool) (H6 : Hp), b = sayB sg t → Same H5 H6 → Stop (upd H6 D (.lst (((sa.take i).map fun t => V.bl (sayB sg t)) ++ [V.bl b])) D = some (.lst ((sa.take (i + 1)).map fun t => V.bl (sayB sg t))) ∧ Same H1 (upd H6 D (.lst (((sa.take i).map fun t => V.bl (sayB sg t)) ++ [V.bl b])))) := fun b H6 e s6 => by
          refine ⟨?_, fun c o hc => ?_⟩
          · rw [upd_same, ← et, List.map_append, e]
            rfl
          · rw [upd_ne (fun z => by rw [z, hD] at hc; cases hc)]
            exact s6 _ _ (s8 _ _ hc)
        walk_at "go"
        · rename_i hne
          refine ⟨al, sg, W, t, rfl, hal5, by omega, fun H6 s6 => ⟨_, s6 _ _ h8, lsz, fin _ _ ?_ s6⟩⟩
          have : t ≠ [] := by simpa using hne
          unfold sayB
          rw [decide_eq_true this]
          rfl
        · rename_i hne
          subst hne
          exact fin _ _ rfl (fun _ _ z => z)
      · rintro H5 ⟨h8, s8⟩
        rw [List.length_map, List.take_length] at h8
        have s15 := Vk.Same.trans s1 s8
        rename_i hl2
        have hl2 : sa.length = sg.length := by simp at hl2; omega
        have hall : (sa.map (sayB sg)).all id = false := by
          have := hpart.2
          unfold sasB at this
          rw [decide_eq_true hl2] at this
          exact this
        walk_at "go"
        refine ⟨D, sa.map (sayB sg), rfl, SqL.of (by rw [h8, List.map_map]; rfl), ?_⟩
        rw [hall]
        walk_at "go"
        exact raise H5 _ hpart.1.symm tx2 s15
end
end
section
set_option Elab.async false
set_option linter.all false
set_option maxRecDepth 100000
set_option maxHeartbeats 4000000
open PySem PySem.Spec PyProof.Rows L2 NSet

local macro_rules | `(tactic| walk_at "side") => `(tactic| exact .inl (by assumption))
local macro_rules | `(tactic| walk_at "go1") => `(tactic| (with_reducible refine iGTup (by assumption) rfl ?_))
local macro_rules | `(tactic| walk_at "go1") => `(tactic| (with_reducible refine iGCons ?_))
local macro_rules | `(tactic| walk_at "go1") => `(tactic| (with_reducible refine iGNil ?_))
local macro_rules | `(tactic| walk_at "go1") => `(tactic| (with_reducible refine iMakeV ?_))
local macro_rules | `(tactic| walk_at "go1") => `(tactic| (with_reducible refine iMakeD ?_))
local macro_rules | `(tactic| walk_at "go1") => `(tactic| (with_reducible refine iLc2S ?_))
local macro_rules | `(tactic| walk_at "go1") => `(tactic| (with_reducible refine iLc2L ?_))
local macro_rules | `(tactic| walk_at "go1") => `(tactic| (with_reducible refine iIStr ?_))
local macro_rules | `(tactic| walk_at "go1") => `(tactic| (with_reducible refine iIxI ?_))
local macro_rules | `(tactic| walk_at "go1") => `(tactic| (with_reducible refine iCMeth ?_))

section
variable {P : Program} {w : World} {K : PySem.W.Frag} {mg : Str → Option Value} {base : Heap} {a : Ad} {d : Fd}
local macro_rules | `(tactic| walk_at "go1") => `(tactic| (with_reducible refine iMethFam ?_))
local macro_rules | `(tactic| walk_at "go1") => `(tactic| (with_reducible refine iPropFam ?_))
/-! k23: heard, said, known -/
def moreK (i : Nat) (kn : List Nat) : List (Str × V) := if i % 2 = 1 then [("_known", .str (S (TSet.ordL kn)))] else []
structure PsB (a : Ad) (H : Hp) (p al : Addr) (i : Nat) (sg W he : List Nat) (sa : List (List Nat)) (more : List (Str × V)) : Prop where
  o : ∃ dx hd sd, H p = some (.ins (cP a i) dx (("alphabet", .ref al) :: ("_hears", .ref hd) :: ("_says", .ref sd) :: more)) ∧ H hd = some (.dK (hk sg he)) ∧ H sd = some (.dK (yk sg sa))
  al : AlG a.cAlphabet H al sg W
theorem PsB.same {a : Ad} {H H' : Hp} {p al : Addr} {i : Nat} {sg W he : List Nat} {sa : List (List Nat)} {more : List (Str × V)} (h : PsB a H p al i sg W he sa more) (s : Same H H') : PsB a H' p al i sg W he sa more := by
  obtain ⟨⟨dx, hd, sd, h1, h2, h3⟩, h4⟩ := h
  exact ⟨⟨dx, hd, sd, s _ _ h1, s _ _ h2, s _ _ h3⟩, h4.same s⟩
theorem lk_more {i : Nat} {kn : List Nat} {m : Str} (h : (m == ("_known" : Str)) = false) : (moreK i kn).lookup m = none := by
  unfold moreK
  split
  · show (match m == ("_known" : Str) with | true => _ | false => List.lookup m []) = none
    rw [h]
    rfl
  · rfl
theorem lk_ps {i : Nat} {kn : List Nat} {m : Str} {x y z : V} (h1 : (m == ("alphabet" : Str)) = false) (h2 : (m == ("_hears" : Str)) = false) (h3 : (m == ("_says" : Str)) = false) (h : (m == ("_known" : Str)) = false) :
    (("alphabet", x) :: ("_hears", y) :: ("_says", z) :: moreK i kn : List (Str × V)).lookup m = none := by
  rw [List.lookup_cons, h1, List.lookup_cons, h2, List.lookup_cons, h3]
  exact lk_more h
theorem iDGet {td ty : TE} {σ : L2.St} {H : Hp} {Q : VK} (h : td σ H fun x H1 => ty σ H1 fun y H2 => ∃ a v, x = .ref a ∧ DGet H2 a y (some v) ∧ Q v H2) : tDGet td ty σ H Q := h
theorem iDNotIn {td ty : TE} {σ : L2.St} {H : Hp} {Q : VK} (h : ty σ H fun y H1 => td σ H1 fun x H2 => ∃ a o, x = .ref a ∧ DGet H2 a y o ∧ Q (.bl (!o.isSome)) H2) : tDNotIn ty td σ H Q := h
local macro_rules | `(tactic| walk_at "go1") => `(tactic| (with_reducible refine iDGet ?_))
local macro_rules | `(tactic| walk_at "go1") => `(tactic| (with_reducible refine iDNotIn ?_))
def hearC (sg he : List Nat) (c : Nat) : Nat := he.getD (sg.idxOf c) 0
def sayC (sg : List Nat) (sa : List (List Nat)) (h : Nat) : List Nat := sa.getD (sg.idxOf h) []
theorem idx_at {sg : List Nat} {c : Nat} (h : c ∈ sg) : sg[sg.idxOf c]? = some c := by
  have hl := List.idxOf_lt_length_of_mem h
  rw [List.getElem?_eq_getElem hl, List.getElem_idxOf]
theorem hear_at {sg he : List Nat} {c : Nat} (h : c ∈ sg) (e : he.length = sg.length) : he[sg.idxOf c]? = some (hearC sg he c) := by
  have hl := List.idxOf_lt_length_of_mem h
  unfold hearC
  rw [List.getD_eq_getElem?_getD, List.getElem?_eq_getElem (by omega)]
  rfl
theorem say_at {sg : List Nat} {sa : List (List Nat)} {c : Nat} (h : c ∈ sg) (e : sa.length = sg.length) : sa[sg.idxOf c]? = some (sayC sg sa c) := by
  have hl := List.idxOf_lt_length_of_mem h
  unfold sayC
  rw [List.getD_eq_getElem?_getD, List.getElem?_eq_getElem (by omega)]
  rfl
theorem hk_get {sg he : List Nat} {c : Nat} (hn : sg.Nodup) (h : c ∈ sg) (e : he.length = sg.length) : valV (hk sg he) (.inr (S [c])) = some (.str (S [hearC sg he c])) := sk_get (f := fun c => V.str (S [c])) hn (idx_at h) (hear_at h e)
theorem yk_get {sg : List Nat} {sa : List (List Nat)} {c : Nat} (hn : sg.Nodup) (h : c ∈ sg) (e : sa.length = sg.length) : valV (yk sg sa) (.inr (S [c])) = some (.str (S (TSet.ordL (sayC sg sa c)))) := sk_get (f := fun t => V.str (S (TSet.ordL t))) hn (idx_at h) (say_at h e)
theorem DatOk.hear {sg he : List Nat} {sa : List (List Nat)} (h : DatOk sg he sa) {c : Nat} (hc : c ∈ sg) : hearC sg he c ∈ sg := h.mh _ (List.mem_of_getElem? (hear_at hc h.lh))
theorem DatOk.say' {sg he : List Nat} {sa : List (List Nat)} (h : DatOk sg he sa) {c : Nat} (hc : c ∈ sg) : sayC sg sa c ∈ sa := List.mem_of_getElem? (say_at hc h.ls)
def spHeard (a : Ad) : Sp := fun vs H Q _ => ∃ (p al : Addr) (i : Nat) (sg W he kn : List Nat) (sa : List (List Nat)) (c : Nat), vs = [.ref p, .str (S [c])] ∧ i < 4 ∧ PsB a H p al i sg W he sa (moreK i kn) ∧ SgOk sg ∧ DatOk sg he sa ∧ c ∈ sg ∧ Q (.str (S [hearC sg he c])) H
def spHeardX (a : Ad) : Sp := fun vs H _ E => ∃ (p al : Addr) (i : Nat) (sg W he kn : List Nat) (sa : List (List Nat)) (t : List Nat), vs = [.ref p, .str (S t)] ∧ i < 4 ∧ PsB a H p al i sg W he sa (moreK i kn) ∧ SgOk sg ∧ Tx t ∧ (∀ c ∈ sg, t ≠ [c]) ∧
  ∀ dd H', H dd = none → H' dd = some (.xd [("sign", .str (S t))]) → Same H H' → E (.ref a.cUnk) (some dd) H'
theorem scPHeard : FnScope ["self", "sign"] ["self", "sign"] (defScope sPHeard) := ⟨rfl, rfl, rfl, by decide +kernel, rfl, by decide +kernel, by decide +kernel⟩
theorem ok_heard (T : Fns K mg a d) (M : Px K a) : FnOk P w K mg base (L2.CX P w) 3 a.aPHeard d.dPHeard ["self", "sign"] (spHeard a) := by
  have GUnknownSign : FnOk P w K mg base CX0 1 a.eUnk d.eUnk ["self", "sign"] (fun _ _ _ _ => False) := ⟨fun _ _ _ _ h => h.elim, fun _ _ _ _ _ _ _ _ _ _ _ _ _ h => h.elim⟩
  refine T.FPHeard.okX scPHeard (fun vs H Q E h => ?_) (fun cdv A outer s H vs Q E hr h => ?_)
  · obtain ⟨p, al, i, sg, W, he, kn, sa, c, rfl, _⟩ := h
    rfl
  · obtain ⟨p, al, i, sg, W, he, kn, sa, c, rfl, hi, hp, hsg, hd, hc, k⟩ := h
    refine ⟨_, ((pss_cons (ps_if (pt_cmp (pc_dnotin hr.unit1 (pv 1) (pe_fld (pv 0) rfl))) (pss_one (ps_raise rfl (takes_of rfl rfl rfl rfl) (pmk_oex T.xUnknownSign.ox T.xUnknownSign.iC T.xUnknownSign.tI GUnknownSign (hr.mono (by decide)) T.xUnknownSign.bB .nil pass0 (by rfl) T.xUnknownSign.gB (pa_cons (pv 1) pa_nil)))) pss_nil)
      (pss_one (ps_ret (pe_dget hr.unit1 (pe_fld (pv 0) rfl) (pv 1) (fun _ _ => rfl)))))), ?_⟩
    obtain ⟨dx, hdp, sd, hp1, hp2, hp3⟩ := hp.o
    have hcl := M.cl i hi
    have hnH := M.nH i hi
    have g := DGet.k (k := .inr (S [c])) hp2
    rw [hk_get hsg.a.nd hc hd.lh] at g
    walk_at "go"
    exact k
theorem ok_heardX (T : Fns K mg a d) (M : Px K a) (GUnknownSign : FnOk P w K mg base CX0 1 a.eUnk d.eUnk ["self", "sign"] (spErr a.cUnk "sign")) : FnOk P w K mg base (L2.CX P w) 3 a.aPHeard d.dPHeard ["self", "sign"] (spHeardX a) := by
  refine T.FPHeard.okX scPHeard (fun vs H Q E h => ?_) (fun cdv A outer s H vs Q E hr h => ?_)
  · obtain ⟨p, al, i, sg, W, he, kn, sa, t, rfl, _⟩ := h
    rfl
  · obtain ⟨p, al, i, sg, W, he, kn, sa, t, rfl, hi, hp, hsg, ht, hc, k⟩ := h
    refine ⟨_, ((pss_cons (ps_if (pt_cmp (pc_dnotin hr.unit1 (pv 1) (pe_fld (pv 0) rfl))) (pss_one (ps_raise rfl (takes_of rfl rfl rfl rfl) (pmk_oex T.xUnknownSign.ox T.xUnknownSign.iC T.xUnknownSign.tI GUnknownSign (hr.mono (by decide)) T.xUnknownSign.bB .nil pass0 (by rfl) T.xUnknownSign.gB (pa_cons (pv 1) pa_nil)))) pss_nil)
      (pss_one (ps_ret (pe_dget hr.unit1 (pe_fld (pv 0) rfl) (pv 1) (fun _ _ => rfl)))))), ?_⟩
    obtain ⟨dx, hdp, sd, hp1, hp2, hp3⟩ := hp.o
    have hcl := M.cl i hi
    have hnH := M.nH i hi
    have g := DGet.k (k := .inr (S t)) hp2
    rw [show valV (hk sg he) (.inr (S t)) = none from sk_none hc] at g
    walk_at "go"
    exact ⟨_, rfl, by show 1 ≤ 1000; decide, fun b hb => ⟨b, t, rfl, ht, upd_same, raise1 hb (fun _ _ z => z) fun dd H' h1 h2 h3 => k dd H' h1 h2 h3⟩⟩
/-! said of the first class -/
def said0 (sg he : List Nat) (sa : List (List Nat)) (c : Nat) : List Nat := TSet.ordL (sayC sg sa (hearC sg he c))
def spSaid0 (a : Ad) : Sp := fun vs H Q _ => ∃ (p al : Addr) (i : Nat) (sg W he kn : List Nat) (sa : List (List Nat)) (c : Nat), vs = [.ref p, .str (S [c])] ∧ i < 4 ∧ PsB a H p al i sg W he sa (moreK i kn) ∧ SgOk sg ∧ DatOk sg he sa ∧ c ∈ sg ∧ Q (.str (S (said0 sg he sa c))) H
theorem scPSaid : FnScope ["self", "sign"] ["self", "sign"] (defScope sPSaid) := ⟨rfl, rfl, rfl, by decide +kernel, rfl, by decide +kernel, by decide +kernel⟩
theorem ok_said0 (T : Fns K mg a d) (M : Px K a) : FnOk P w K mg base (L2.CX P w) 4 a.aPSaid d.dPSaid ["self", "sign"] (spSaid0 a) := by
  have GHeard : ∀ i, i < 4 → FnOk P w K mg base (L2.CX P w) 3 a.aPHeard d.dPHeard ["self", "sign"] (spHeard a) := fun _ _ => ok_heard T M
  have bHeard : ∀ i, i < 4 → Binds K d.dPHeard ["self", "sign"] [] := fun _ _ => T.bPHeard
  refine T.FPSaid.okX scPSaid (fun vs H Q E h => ?_) (fun cdv A outer s H vs Q E hr h => ?_)
  · obtain ⟨p, al, i, sg, W, he, kn, sa, c, rfl, _⟩ := h
    rfl
  · obtain ⟨p, al, i, sg, W, he, kn, sa, c, rfl, hi, hp, hsg, hd, hc, k⟩ := h
    refine ⟨_, ((pss_one (ps_ret (pe_dget hr.unit1 (pe_fld (pv 0) rfl) (pe_methFam (pv 0) M.cl M.mHeard GHeard (hr.mono (by decide)) bHeard (passX (takes_of rfl rfl rfl rfl) (fun _ _ _ _ h => h)) (pa_cons (pv 1) pa_nil)) (fun _ _ => rfl))))), ?_⟩
    obtain ⟨dx, hdp, sd, hp1, hp2, hp3⟩ := hp.o
    have hcl := M.cl i hi
    have hnS := M.nS i hi
    have hlk : (("alphabet", V.ref al) :: ("_hears", V.ref hdp) :: ("_says", V.ref sd) :: moreK i kn : List (Str × V)).lookup ("heard" : Str) = none := lk_ps (by decide +kernel) (by decide +kernel) (by decide +kernel) (by decide +kernel)
    have g := DGet.k (k := .inr (S [hearC sg he c])) hp3
    rw [yk_get hsg.a.nd (hd.hear hc) hd.ls] at g
    walk_at "go"
    exact ⟨p, al, i, sg, W, he, kn, sa, c, rfl, hi, hp, hsg, hd, hc, _, _, rfl, g, k⟩
theorem ok_said0X (T : Fns K mg a d) (M : Px K a) (GUnknownSign : FnOk P w K mg base CX0 1 a.eUnk d.eUnk ["self", "sign"] (spErr a.cUnk "sign")) : FnOk P w K mg base (L2.CX P w) 4 a.aPSaid d.dPSaid ["self", "sign"] (spHeardX a) := by
  have GHeard : ∀ i, i < 4 → FnOk P w K mg base (L2.CX P w) 3 a.aPHeard d.dPHeard ["self", "sign"] (spHeardX a) := fun _ _ => ok_heardX T M GUnknownSign
  have bHeard : ∀ i, i < 4 → Binds K d.dPHeard ["self", "sign"] [] := fun _ _ => T.bPHeard
  refine T.FPSaid.okX scPSaid (fun vs H Q E h => ?_) (fun cdv A outer s H vs Q E hr h => ?_)
  · obtain ⟨p, al, i, sg, W, he, kn, sa, t, rfl, _⟩ := h
    rfl
  · obtain ⟨p, al, i, sg, W, he, kn, sa, t, rfl, hi, hp, hsg, ht, hc, k⟩ := h
    refine ⟨_, ((pss_one (ps_ret (pe_dget hr.unit1 (pe_fld (pv 0) rfl) (pe_methFam (pv 0) M.cl M.mHeard GHeard (hr.mono (by decide)) bHeard (passX (takes_of rfl rfl rfl rfl) (fun _ _ _ _ h => h)) (pa_cons (pv 1) pa_nil)) (fun _ _ => rfl))))), ?_⟩
    obtain ⟨dx, hdp, sd, hp1, hp2, hp3⟩ := hp.o
    have hcl := M.cl i hi
    have hnS := M.nS i hi
    have hlk : (("alphabet", V.ref al) :: ("_hears", V.ref hdp) :: ("_says", V.ref sd) :: moreK i kn : List (Str × V)).lookup ("heard" : Str) = none := lk_ps (by decide +kernel) (by decide +kernel) (by decide +kernel) (by decide +kernel)
    walk_at "go"
    exact ⟨p, al, i, sg, W, he, kn, sa, t, rfl, hi, hp, hsg, ht, hc, k⟩
/-! known -/
def spKnown (a : Ad) : Sp := fun vs H Q _ => ∃ (p al : Addr) (i : Nat) (sg W he kn : List Nat) (sa : List (List Nat)), vs = [.ref p] ∧ i < 4 ∧ i % 2 = 1 ∧ PsB a H p al i sg W he sa (moreK i kn) ∧ Q (.str (S (TSet.ordL kn))) H
theorem scKKnown : FnScope ["self"] ["self"] (defScope sKKnown) := ⟨rfl, rfl, rfl, by decide +kernel, rfl, by decide +kernel, by decide +kernel⟩
theorem ok_known (T : Fns K mg a d) (M : Px K a) : FnOk P w K mg base CX0 1 a.aKKnown d.dKKnown ["self"] (spKnown a) := by
  refine T.FKKnown.ok scKKnown (fun vs H Q E h => ?_) (fun cdv A outer s H vs Q E hr h => ?_)
  · obtain ⟨p, al, i, sg, W, he, kn, sa, rfl, _⟩ := h
    rfl
  · obtain ⟨p, al, i, sg, W, he, kn, sa, rfl, hi, hodd, hp, k⟩ := h
    refine ⟨_, ((pss_one (ps_ret (pe_fld (pv 0) rfl)))), ?_⟩
    obtain ⟨dx, hdp, sd, hp1, hp2, hp3⟩ := hp.o
    have hcl := M.cl i hi
    have hnK := M.nK i hi
    have em : moreK i kn = ([("_known", .str (S (TSet.ordL kn)))] : List (Str × V)) := by
      unfold moreK
      rw [if_pos hodd]
    rw [em] at hp1
    walk_at "go"
    exact k
end
end
section
set_option Elab.async false
set_option linter.all false
set_option maxRecDepth 100000
set_option maxHeartbeats 4000000
open PySem PySem.Spec PyProof.Rows L2 NSet

local macro_rules | `(tactic| walk_at "side") => `(tactic| exact .inl (by assumption))
local macro_rules | `(tactic| walk_at "go1") => `(tactic| (with_reducible refine iGTup (by assumption) rfl ?_))
local macro_rules | `(tactic| walk_at "go1") => `(tactic| (with_reducible refine iGCons ?_))
local macro_rules | `(tactic| walk_at "go1") => `(tactic| (with_reducible refine iGNil ?_))
local macro_rules | `(tactic| walk_at "go1") => `(tactic| (with_reducible refine iMakeV ?_))
local macro_rules | `(tactic| walk_at "go1") => `(tactic| (with_reducible refine iMakeD ?_))
local macro_rules | `(tactic| walk_at "go1") => `(tactic| (with_reducible refine iLc2S ?_))
local macro_rules | `(tactic| walk_at "go1") => `(tactic| (with_reducible refine iLc2L ?_))
local macro_rules | `(tactic| walk_at "go1") => `(tactic| (with_reducible refine iIStr ?_))
local macro_rules | `(tactic| walk_at "go1") => `(tactic| (with_reducible refine iIxI ?_))
local macro_rules | `(tactic| walk_at "go1") => `(tactic| (with_reducible refine iCMeth ?_))

section
variable {P : Program} {w : World} {K : PySem.W.Frag} {mg : Str → Option Value} {base : Heap} {a : Ad} {d : Fd}
/-! k23: the defs that say super() -/
abbrev sKInit : Stmt := inClass (top 20) 0
abbrev sKSaid : Stmt := inClass (top 20) 2
abbrev sDSaid : Stmt := inClass (top 21) 0
abbrev sKDSaid : Stmt := inClass (top 22) 0
theorem scKInit : SSc ["self", "alphabet", "hears", "says", "knows"] ["self", "alphabet", "hears", "says", "knows"] (defScope sKInit) := ⟨rfl, rfl, rfl, by decide +kernel, rfl, by decide +kernel, by decide +kernel, fun x h => (show ∀ y ∈ (defScope sKInit).names, y.2 = .free → y.1 = "__class__" by decide +kernel) _ (PySem.mem_of_lookup h) rfl, by decide +kernel, by decide +kernel⟩
theorem scKSaid : SSc ["self", "sign", "guessed"] ["self", "sign"] (defScope sKSaid) := ⟨rfl, rfl, rfl, by decide +kernel, rfl, by decide +kernel, by decide +kernel, fun x h => (show ∀ y ∈ (defScope sKSaid).names, y.2 = .free → y.1 = "__class__" by decide +kernel) _ (PySem.mem_of_lookup h) rfl, by decide +kernel, by decide +kernel⟩
theorem scDSaid : SSc ["self", "sign"] ["self", "sign"] (defScope sDSaid) := ⟨rfl, rfl, rfl, by decide +kernel, rfl, by decide +kernel, by decide +kernel, fun x h => (show ∀ y ∈ (defScope sDSaid).names, y.2 = .free → y.1 = "__class__" by decide +kernel) _ (PySem.mem_of_lookup h) rfl, by decide +kernel, by decide +kernel⟩
theorem scKDSaid : SSc ["self", "sign"] ["self", "sign"] (defScope sKDSaid) := ⟨rfl, rfl, rfl, by decide +kernel, rfl, by decide +kernel, by decide +kernel, fun x h => (show ∀ y ∈ (defScope sKDSaid).names, y.2 = .free → y.1 = "__class__" by decide +kernel) _ (PySem.mem_of_lookup h) rfl, by decide +kernel, by decide +kernel⟩
/-- what the text has written of a def that says super() -/
structure KsD (K : PySem.W.Frag) (name qual : String) (st : Stmt) (f : Addr) (fd : FuncData) (D cc cda : Addr) : Prop where
  ex : ∃ (oc : Value) (od : Option Addr) (osl : Array (Option Value)) (dV kV doc pm ct : Value) (an : Option Addr), fd = PySem.W.ksFn name qual (defArgs st) (defBody st) (defScope st) dV kV doc pm an (.ref cda) ct cc ∧
    K.lookup f = some ⟨oc, od, .func (PySem.W.ksFn name qual (defArgs st) (defBody st) (defScope st) dV kV doc pm an (.ref cda) ct cc), osl⟩
  cell : ∃ cl cld csl, K.lookup cc = some ⟨cl, cld, .cell (some (.ref D)), csl⟩
  code : PySem.W.codeIn K (.ref cda) qual = true
theorem ks_fn {D f cc cda : Addr} {fd : FuncData} {name qual : String} {st : Stmt} {N ps : List Str} {sp : Sp} {k : Nat} {CX : CXT} (Z : KsD K name qual st f fd D cc cda) (Sc : SSc N ps (defScope st)) (len : ∀ vs H Q E, sp vs H Q E → vs.length = ps.length)
    (hb : ∀ (oc : Value) (od : Option Addr) (osl : Array (Option Value)) (dV kV doc pm ct : Value) (an : Option Addr), K.lookup f = some ⟨oc, od, .func (PySem.W.ksFn name qual (defArgs st) (defBody st) (defScope st) dV kV doc pm an (.ref cda) ct cc), osl⟩ →
      ∀ (A : Around) (outer : List Env) (s : Shared) (H : Hp) (vs : List V) (Q : VK) (E : XK), Room k (A.deeper (PySem.W.ksEnv qual (defScope st) s.heap.objs.size f (.ref cda) cc)) → sp vs H Q E →
      ∃ t : TS, PBA (cxS CX P w K mg base N qual (defScope st) f cc (.ref cda) A outer s H E) (defBody st) (defBody st) t ∧ t { nx := fun _ H' => Q .non H', rt := Q } (L2.start N vs) H) :
    FnOk P w K mg base CX (k + 1) f fd ps sp := by
  obtain ⟨⟨oc, od, osl, dV, kV, doc, pm, ct, an, rfl, lk⟩, hc, hcd⟩ := Z
  exact fn_sup hc lk hcd Sc len (hb oc od osl dV kV doc pm ct an lk)
/-! Doubter.said -/
def spSaidD (a : Ad) : Sp := fun vs H Q _ => ∃ (p al : Addr) (i : Nat) (sg W he kn : List Nat) (sa : List (List Nat)) (c : Nat), vs = [.ref p, .str (S [c])] ∧ (i = 2 ∨ i = 3) ∧ PsB a H p al i sg W he sa (moreK i kn) ∧ SgOk sg ∧ DatOk sg he sa ∧ c ∈ sg ∧
  ∀ H', Same H H' → Q (.str (S (TSet.ordL (said0 sg he sa c ++ [c])))) H'
theorem ok_saidD {f cc cda : Addr} {fd : FuncData} (T : Fns K mg a d) (M : Px K a) (Z : KsD K "said" "Doubter.said" sDSaid f fd a.cDoubter cc cda) (U : ∀ i, i = 2 ∨ i = 3 → SupP P K mg (cP a i) a.cDoubter cc cda "said" a.aPSaid) :
    FnOk P w K mg base (L2.CX P w) 6 f fd ["self", "sign"] (spSaidD a) := by
  have GInOrder : FnOk P w K mg base CX0 1 a.aInOrder d.dInOrder ["signs"] spInOrder := ok_inOrder T
  have G0 : FnOk P w K mg base (L2.CX P w) 4 a.aPSaid d.dPSaid ["self", "sign"] (spSaid0 a) := ok_said0 T M
  refine ks_fn Z scDSaid (fun vs H Q E h => ?_) (fun oc od osl dV kV doc pm ct an lk A outer s H vs Q E hr h => ?_)
  · obtain ⟨p, al, i, sg, W, he, kn, sa, c, rfl, _⟩ := h
    rfl
  · obtain ⟨p, al, i, sg, W, he, kn, sa, c, rfl, hi, hp, hsg, hd, hc, k⟩ := h
    have G0r := G0.raw T.bPSaid .nil
    refine ⟨_, pba_cons (psa_ret (pea_call GInOrder (hr.mono (by decide)) (by rfl) T.gInOrder T.FInOrder.kp T.bInOrder pass0 (pea_bin op_addS (pea_super (E' := E) (U i hi) (by decide +kernel) lk scDSaid rfl rfl rfl G0r (hr.mono (by decide)) (passes_call (takes_of rfl rfl rfl rfl) (fun _ _ _ _ h => h)) (pa_cons (pv 1) pa_nil)) (pv 1)))) pss_nil, ?_⟩
    have hi4 : i < 4 := by omega
    obtain ⟨dx, hdp, sd, hp1, hp2, hp3⟩ := hp.o
    refine ⟨p, dx, _, rfl, hp1, _, rfl, p, al, i, sg, W, he, kn, sa, c, rfl, hi4, hp, hsg, hd, hc, ?_⟩
    have hst := hd.ms _ (hd.say' (hd.hear hc))
    have l1 := TSet.ord_len (sayC sg sa (hearC sg he c))
    have l2 : (said0 sg he sa c).length ≤ 50 := by unfold said0; omega
    have l3 : (said0 sg he sa c).length + [c].length ≤ 100000 := by rw [List.length_singleton]; omega
    refine ⟨_, rfl, _, _, rfl, rfl, l3, said0 sg he sa c ++ [c], rfl, by rw [List.length_append, List.length_singleton]; omega, fun H' s1 => ?_⟩
    exact k H' s1
def spHX (a : Ad) (i : Nat) : Sp := fun vs H _ E => ∃ (p al : Addr) (sg W he kn : List Nat) (sa : List (List Nat)) (t : List Nat), vs = [.ref p, .str (S t)] ∧ PsB a H p al i sg W he sa (moreK i kn) ∧ SgOk sg ∧ Tx t ∧ (∀ c ∈ sg, t ≠ [c]) ∧
  ∀ dd H', H dd = none → H' dd = some (.xd [("sign", .str (S t))]) → Same H H' → E (.ref a.cUnk) (some dd) H'
theorem ok_saidDX {f cc cda : Addr} {fd : FuncData} (T : Fns K mg a d) (M : Px K a) (GUnknownSign : FnOk P w K mg base CX0 1 a.eUnk d.eUnk ["self", "sign"] (spErr a.cUnk "sign")) (Z : KsD K "said" "Doubter.said" sDSaid f fd a.cDoubter cc cda) (U : ∀ i, i = 2 ∨ i = 3 → SupP P K mg (cP a i) a.cDoubter cc cda "said" a.aPSaid) :
    FnOk P w K mg base (L2.CX P w) 6 f fd ["self", "sign"] (fun vs H Q E => ∃ i, (i = 2 ∨ i = 3) ∧ spHX a i vs H Q E) := by
  have GInOrder : FnOk P w K mg base CX0 1 a.aInOrder d.dInOrder ["signs"] spInOrder := ok_inOrder T
  have G0 : FnOk P w K mg base (L2.CX P w) 4 a.aPSaid d.dPSaid ["self", "sign"] (spHeardX a) := ok_said0X T M GUnknownSign
  refine ks_fn Z scDSaid (fun vs H Q E h => ?_) (fun oc od osl dV kV doc pm ct an lk A outer s H vs Q E hr h => ?_)
  · obtain ⟨i, _, p, al, sg, W, he, kn, sa, t, rfl, _⟩ := h
    rfl
  · obtain ⟨i, hi, p, al, sg, W, he, kn, sa, t, rfl, hp, hsg, ht, hc, k⟩ := h
    have G0r := G0.raw T.bPSaid .nil
    refine ⟨_, pba_cons (psa_ret (pea_call GInOrder (hr.mono (by decide)) (by rfl) T.gInOrder T.FInOrder.kp T.bInOrder pass0 (pea_bin op_addS (pea_super (E' := E) (U i hi) (by decide +kernel) lk scDSaid rfl rfl rfl G0r (hr.mono (by decide)) (passes_call (takes_of rfl rfl rfl rfl) (fun _ _ _ _ h => h)) (pa_cons (pv 1) pa_nil)) (pv 1)))) pss_nil, ?_⟩
    obtain ⟨dx, hdp, sd, hp1, hp2, hp3⟩ := hp.o
    exact ⟨p, dx, _, rfl, hp1, _, rfl, p, al, i, sg, W, he, kn, sa, t, rfl, by omega, hp, hsg, ht, hc, k⟩
/-! Knower.said -/
/-- what Knower.said says behind guessed g -/
def knowL (kn : List Nat) (c : Nat) (g : List Nat) : List Nat := if c ∈ kn then [c] else g
def gueL (i : Nat) (sg he : List Nat) (sa : List (List Nat)) (c : Nat) : List Nat := if i ≥ 2 then TSet.ordL (said0 sg he sa c ++ [c]) else said0 sg he sa c
/-- the next said behind Knower -/
def spGue (a : Ad) (i : Nat) : Sp := fun vs H Q _ => ∃ (p al : Addr) (sg W he kn : List Nat) (sa : List (List Nat)) (c : Nat), vs = [.ref p, .str (S [c])] ∧ PsB a H p al i sg W he sa (moreK i kn) ∧ SgOk sg ∧ DatOk sg he sa ∧ c ∈ sg ∧
  ∀ H', Same H H' → Q (.str (S (gueL i sg he sa c))) H'
def spSaidK (a : Ad) (i : Nat) : Sp := fun vs H Q _ => ∃ (p al : Addr) (sg W he kn : List Nat) (sa : List (List Nat)) (c : Nat), vs = [.ref p, .str (S [c])] ∧ PsB a H p al i sg W he sa (moreK i kn) ∧ SgOk sg ∧ DatOk sg he sa ∧ c ∈ sg ∧
  ∀ H', Same H H' → Q (.str (S (knowL kn c (gueL i sg he sa c)))) H'
theorem ok_saidK {f cc cda : Addr} {fd : FuncData} (T : Fns K mg a d) (M : Px K a) (Z : KsD K "said" "Knower.said" sKSaid f fd a.cKnower cc cda) {g : Nat → Addr} (U : ∀ i, i = 1 ∨ i = 3 → SupP P K mg (cP a i) a.cKnower cc cda "said" (g i))
    (G : ∀ i, i = 1 ∨ i = 3 → FnR P w K mg base (L2.CX P w) 6 (g i) (spGue a i)) :
    FnOk P w K mg base (L2.CX P w) 7 f fd ["self", "sign"] (fun vs H Q E => ∃ i, (i = 1 ∨ i = 3) ∧ spSaidK a i vs H Q E) := by
  refine ks_fn Z scKSaid (fun vs H Q E h => ?_) (fun oc od osl dV kV doc pm ct an lk A outer s H vs Q E hr h => ?_)
  · obtain ⟨i, hi, p, al, sg, W, he, kn, sa, c, rfl, _⟩ := h
    rfl
  · obtain ⟨i, hi, p, al, sg, W, he, kn, sa, c, rfl, hp, hsg, hd, hc, k⟩ := h
    refine ⟨_, pba_cons (psa_set (i := 2) scKSaid.nd rfl (Or.inl rfl) (pea_super (E' := E) (U i hi) (by decide +kernel) lk scKSaid rfl rfl rfl (G i hi) (hr.mono (by decide)) (passes_call (takes_of rfl rfl rfl rfl) (fun _ _ _ _ h => h)) (pa_cons (pv 1) pa_nil))) ((pss_one (ps_ret (pe_ifExp (pt_cmpR op_inS (pv 1) (pe_fld (pv 0) rfl) rfl) (pv 1) (pv 2))))), ?_⟩
    have hi4 : i < 4 := by omega
    obtain ⟨dx, hdp, sd, hp1, hp2, hp3⟩ := hp.o
    refine ⟨p, dx, _, rfl, hp1, _, rfl, p, al, sg, W, he, kn, sa, c, rfl, hp, hsg, hd, hc, fun H' s1 => ?_⟩
    have em : moreK i kn = ([("_known", .str (S (TSet.ordL kn)))] : List (Str × V)) := by
      unfold moreK
      rw [if_pos (by omega)]
    rw [em] at hp1
    have hp4 := s1 _ _ hp1
    have hcl := M.cl i hi4
    have hnK := M.nK i hi4
    walk_at "go"
    · rename_i hin
      have hin : c ∈ kn := TSet.mem_ord.mp (by simpa using hin)
      have := k H' s1
      unfold knowL at this
      rw [if_pos hin] at this
      exact this
    · rename_i hin
      have hin : c ∉ kn := fun z => hin (by simpa using TSet.mem_ord.mpr z)
      have := k H' s1
      unfold knowL at this
      rw [if_neg hin] at this
      exact this
theorem ok_saidKX {f cc cda : Addr} {fd : FuncData} (T : Fns K mg a d) (M : Px K a) (Z : KsD K "said" "Knower.said" sKSaid f fd a.cKnower cc cda) {g : Nat → Addr} (U : ∀ i, i = 1 ∨ i = 3 → SupP P K mg (cP a i) a.cKnower cc cda "said" (g i))
    (G : ∀ i, i = 1 ∨ i = 3 → FnR P w K mg base (L2.CX P w) 6 (g i) (spHX a i)) :
    FnOk P w K mg base (L2.CX P w) 7 f fd ["self", "sign"] (fun vs H Q E => ∃ i, (i = 1 ∨ i = 3) ∧ spHX a i vs H Q E) := by
  refine ks_fn Z scKSaid (fun vs H Q E h => ?_) (fun oc od osl dV kV doc pm ct an lk A outer s H vs Q E hr h => ?_)
  · obtain ⟨i, hi, p, al, sg, W, he, kn, sa, c, rfl, _⟩ := h
    rfl
  · obtain ⟨i, hi, p, al, sg, W, he, kn, sa, t, rfl, hp, hsg, ht, hc, k⟩ := h
    refine ⟨_, pba_cons (psa_set (i := 2) scKSaid.nd rfl (Or.inl rfl) (pea_super (E' := E) (U i hi) (by decide +kernel) lk scKSaid rfl rfl rfl (G i hi) (hr.mono (by decide)) (passes_call (takes_of rfl rfl rfl rfl) (fun _ _ _ _ h => h)) (pa_cons (pv 1) pa_nil))) ((pss_one (ps_ret (pe_ifExp (pt_cmpR op_inS (pv 1) (pe_fld (pv 0) rfl) rfl) (pv 1) (pv 2))))), ?_⟩
    obtain ⟨dx, hdp, sd, hp1, hp2, hp3⟩ := id hp.o
    exact ⟨p, dx, _, rfl, hp1, _, rfl, p, al, sg, W, he, kn, sa, t, rfl, hp, hsg, ht, hc, k⟩
/-! KnowingDoubter.said -/
theorem ok_saidKD {f cc cda g : Addr} {fd : FuncData} {sp : Sp} {j : Nat} (Z : KsD K "said" "KnowingDoubter.said" sKDSaid f fd a.cKD cc cda) (U : SupP P K mg (cP a 3) a.cKD cc cda "said" g) (hsp : ∀ vs H Q E, sp vs H Q E → ∃ p x dx fs, vs = [.ref p, x] ∧ H p = some (.ins (cP a 3) dx fs))
    (G : FnR P w K mg base (L2.CX P w) j g sp) : FnOk P w K mg base (L2.CX P w) (j + 1) f fd ["self", "sign"] sp := by
  refine ks_fn Z scKDSaid (fun vs H Q E h => ?_) (fun oc od osl dV kV doc pm ct an lk A outer s H vs Q E hr h => ?_)
  · obtain ⟨p, x, dx, fs, rfl, _⟩ := hsp _ _ _ _ h
    rfl
  · obtain ⟨p, x, dx, fs, rfl, hp⟩ := hsp _ _ _ _ h
    refine ⟨_, pba_cons (psa_ret (pea_super (E' := E) U (by decide +kernel) lk scKDSaid rfl rfl rfl G hr (passes_call (takes_of rfl rfl rfl rfl) (fun _ _ _ _ h => h)) (pa_cons (pv 1) pa_nil))) pss_nil, ?_⟩
    exact ⟨p, dx, fs, rfl, hp, _, rfl, h⟩
end
end
section
set_option Elab.async false
set_option linter.all false
set_option maxRecDepth 100000
set_option maxHeartbeats 4000000
open PySem PySem.Spec PyProof.Rows L2 NSet

local macro_rules | `(tactic| walk_at "side") => `(tactic| exact .inl (by assumption))
local macro_rules | `(tactic| walk_at "go1") => `(tactic| (with_reducible refine iGTup (by assumption) rfl ?_))
local macro_rules | `(tactic| walk_at "go1") => `(tactic| (with_reducible refine iGCons ?_))
local macro_rules | `(tactic| walk_at "go1") => `(tactic| (with_reducible refine iGNil ?_))
local macro_rules | `(tactic| walk_at "go1") => `(tactic| (with_reducible refine iMakeV ?_))
local macro_rules | `(tactic| walk_at "go1") => `(tactic| (with_reducible refine iMakeD ?_))
local macro_rules | `(tactic| walk_at "go1") => `(tactic| (with_reducible refine iLc2S ?_))
local macro_rules | `(tactic| walk_at "go1") => `(tactic| (with_reducible refine iLc2L ?_))
local macro_rules | `(tactic| walk_at "go1") => `(tactic| (with_reducible refine iIStr ?_))
local macro_rules | `(tactic| walk_at "go1") => `(tactic| (with_reducible refine iIxI ?_))
local macro_rules | `(tactic| walk_at "go1") => `(tactic| (with_reducible refine iCMeth ?_))
def kStrN7_0 : List Nat := [107, 110, 111, 119, 115]
theorem kStrN7_0_eq : PySem.Str.ofString "knows" = S kStrN7_0 := by decide +kernel
section
variable {P : Program} {w : World} {K : PySem.W.Frag} {mg : Str → Option Value} {base : Heap} {a : Ad} {d : Fd}
/-! k23: Knower.__init__ -/
theorem FnOk.or {CX : CXT} {n : Nat} {f : Addr} {fd : FuncData} {ps : List Str} {sp1 sp2 : Sp} (A : FnOk P w K mg base CX n f fd ps sp1) (B : FnOk P w K mg base CX n f fd ps sp2) : FnOk P w K mg base CX n f fd ps (fun vs H Q E => sp1 vs H Q E ∨ sp2 vs H Q E) := by
  refine ⟨fun a b c d h => h.elim (A.1 a b c d) (B.1 a b c d), ?_⟩
  intro a b c d e f g i j k l m n h
  rcases h with h | h
  · exact A.2 a b c d e f g i j k l m n h
  · exact B.2 a b c d e f g i j k l m n h
def spKInit (a : Ad) : Sp := fun vs H Q _ => ∃ (p al sl dx : Addr) (i : Nat) (sg W he kn : List Nat) (sa : List (List Nat)), vs = [.ref p, .ref al, .str (S he), .ref sl, .str (S kn)] ∧ (i = 1 ∨ i = 3) ∧ H p = some (.ins (cP a i) dx []) ∧ AlG a.cAlphabet H al sg W ∧ SgOk sg ∧ H sl = some (.lst (sa.map fun t => V.str (S t))) ∧ DatOk sg he sa ∧ kn.length ≤ 50 ∧ txtB sg kn = true ∧
  ∀ H', Kp p H H' → PsB a H' p al i sg W he sa (moreK i kn) → Q .non H'
def WrongK (sg he : List Nat) (sa : List (List Nat)) (kn part : List Nat) : Prop := Wrong sg he sa part ∨ (part = wKnows ∧ DatOk sg he sa ∧ txtB sg kn = false)
def spKInitX (a : Ad) : Sp := fun vs H _ E => ∃ (p al sl dx : Addr) (i : Nat) (sg W he kn part : List Nat) (sa : List (List Nat)), vs = [.ref p, .ref al, .str (S he), .ref sl, .str (S kn)] ∧ (i = 1 ∨ i = 3) ∧ H p = some (.ins (cP a i) dx []) ∧ AlG a.cAlphabet H al sg W ∧ SgOk sg ∧ H sl = some (.lst (sa.map fun t => V.str (S t))) ∧ he.length ≤ 100 ∧ sa.length ≤ 100 ∧ (∀ s ∈ sa, s.length ≤ 100) ∧ kn.length ≤ 100 ∧ WrongK sg he sa kn part ∧
  ∀ dd H', H dd = none → H' dd = some (.xd [("part", .str (S part))]) → Kp p H H' → E (.ref a.cBadPerson) (some dd) H'
theorem ok_kInit {f cc cda : Addr} {fd : FuncData} (T : Fns K mg a d) (M : Px K a) (Z : KsD K "__init__" "Knower.__init__" sKInit f fd a.cKnower cc cda) (U : ∀ i, i = 1 ∨ i = 3 → SupP P K mg (cP a i) a.cKnower cc cda "__init__" a.aPInit) :
    FnOk P w K mg base (L2.CX P w) 5 f fd ["self", "alphabet", "hears", "says", "knows"] (spKInit a) := by
  have GIsText : FnOk P w K mg base CX0 1 a.aIsText d.dIsText ["self", "text"] (spIsText a) := ok_isText T
  have GInOrder : FnOk P w K mg base CX0 1 a.aInOrder d.dInOrder ["signs"] spInOrder := ok_inOrder T
  have GBadPerson : FnOk P w K mg base CX0 1 a.eBadPerson d.eBadPerson ["self", "part"] (fun _ _ _ _ => False) := ⟨fun _ _ _ _ h => h.elim, fun _ _ _ _ _ _ _ _ _ _ _ _ _ h => h.elim⟩
  have G0 : FnOk P w K mg base (L2.CX P w) 3 a.aPInit d.dPInit ["self", "alphabet", "hears", "says"] (spPInit a) := ok_pInit T M
  refine ks_fn Z scKInit (fun vs H Q E h => ?_) (fun oc od osl dV kV doc pm ct an lk A outer s H vs Q E hr h => ?_)
  · obtain ⟨p, al, sl, dx, i, sg, W, he, kn, sa, rfl, _⟩ := h
    rfl
  · obtain ⟨p, al, sl, dx, i, sg, W, he, kn, sa, rfl, hi, hp, hal, hsg, hsl, hd, hkn, htx, k⟩ := h
    have G0r := G0.raw T.bPInit .nil
    refine ⟨_, pba_cons (psa_expr (pea_super (E' := E) (U i hi) (by decide +kernel) lk scKInit rfl rfl rfl G0r (hr.mono (by decide)) (passes_call (takes_of rfl rfl rfl rfl) (fun _ _ _ _ h => h)) (pa_cons (pv 1) (pa_cons (pv 2) (pa_cons (pv 3) pa_nil))))) ((pss_cons (ps_if (pt_not (pt_val (pe_meth (pv 1) T.clA T.mIsText GIsText (hr.mono (by decide)) T.bIsText .nil pass0 (pa_cons (pv 4) pa_nil)))) (pss_one (ps_raise rfl (takes_of rfl rfl rfl rfl) (pmk_oex T.xBadPerson.ox T.xBadPerson.iC T.xBadPerson.tI GBadPerson (hr.mono (by decide)) T.xBadPerson.bB .nil pass0 (by rfl) T.xBadPerson.gB (pa_cons (pe_strS (l := kStrN7_0) kStrN7_0_eq) pa_nil)))) pss_nil)
      (pss_one (ps_fld (pv 0) (pe_call GInOrder (hr.mono (by decide)) (by rfl) T.gInOrder T.FInOrder.kp T.bInOrder .nil pass0 (pa_cons (pv 4) pa_nil)) rfl)))), ?_⟩
    have hi4 : i < 4 := by omega
    have nal : al ≠ p := fun z => by
      obtain ⟨_, _, _, e⟩ := hal.ins
      rw [z, hp] at e
      injection (Option.some.inj e) with _ _ e3
      cases e3
    refine ⟨p, dx, _, rfl, hp, _, rfl, _, rfl, _, rfl, p, al, sl, i, dx, sg, W, he, sa, rfl, hi4, hp, hal, hsg, hsl, hd, fun hdp sd H1 kp1 hp1 hp2 hp3 => ?_⟩
    have hal1 : AlG a.cAlphabet H1 al sg W := by
      obtain ⟨l, v, ⟨dxa, e⟩, z⟩ := hal
      exact ⟨l, v, ⟨dxa, kp1 _ _ nal e⟩, z⟩
    obtain ⟨dxa, ll, vv, hi5⟩ := hal1.ins
    have clA := T.clA
    have hcl := M.cl i hi4
    have hnK := M.nK i hi4
    have em : moreK i kn = ([("_known", .str (S (TSet.ordL kn)))] : List (Str × V)) := by
      unfold moreK
      rw [if_pos (by omega)]
    walk_at "go"
    refine ⟨al, sg, W, kn, rfl, hal1, by omega, fun H2 s2 => ?_⟩
    rw [htx]
    have hp4 := s2 _ _ hp1
    walk_at "go"
    refine ⟨kn, rfl, by omega, fun H3 s3 => ?_⟩
    have hp5 := s3 _ _ hp4
    walk_at "go"
    have ec : putF "_known" (V.str (S (TSet.ordL kn))) [("alphabet", V.ref al), ("_hears", V.ref hdp), ("_says", V.ref sd)] = (("alphabet", V.ref al) :: ("_hears", V.ref hdp) :: ("_says", V.ref sd) :: moreK i kn : List (Str × V)) := by
      rw [em]
      show (if ("alphabet" : Str) = "_known" then _ else (("alphabet" : Str), V.ref al) :: (if ("_hears" : Str) = "_known" then _ else (("_hears" : Str), V.ref hdp) :: (if ("_says" : Str) = "_known" then _ else (("_says" : Str), V.ref sd) :: putF "_known" (V.str (S (TSet.ordL kn))) []))) = _
      rw [if_neg (by decide +kernel), if_neg (by decide +kernel), if_neg (by decide +kernel)]
      rfl
    rw [ec]
    have s13 := Vk.Same.trans s2 s3
    have nh : hdp ≠ p := fun z => by rw [z, hp1] at hp2; cases hp2
    have ns : sd ≠ p := fun z => by rw [z, hp1] at hp3; cases hp3
    refine k _ (Kp.trans kp1 (Kp.trans (Vk.Same.kp s13 p) (Kp.upd p H3 _))) ⟨⟨dx, hdp, sd, upd_same, ?_, ?_⟩, ?_⟩
    · rw [upd_ne nh]
      exact s13 _ _ hp2
    · rw [upd_ne ns]
      exact s13 _ _ hp3
    · obtain ⟨l, v, ⟨dxa, e⟩, z⟩ := hal1
      exact ⟨l, v, ⟨dxa, by rw [upd_ne nal]; exact s13 _ _ e⟩, z⟩
theorem ok_kInitX {f cc cda : Addr} {fd : FuncData} (T : Fns K mg a d) (M : Px K a) (GBadPerson : FnOk P w K mg base CX0 1 a.eBadPerson d.eBadPerson ["self", "part"] (spErr a.cBadPerson "part")) (Z : KsD K "__init__" "Knower.__init__" sKInit f fd a.cKnower cc cda) (U : ∀ i, i = 1 ∨ i = 3 → SupP P K mg (cP a i) a.cKnower cc cda "__init__" a.aPInit) :
    FnOk P w K mg base (L2.CX P w) 5 f fd ["self", "alphabet", "hears", "says", "knows"] (spKInitX a) := by
  have GIsText : FnOk P w K mg base CX0 1 a.aIsText d.dIsText ["self", "text"] (spIsText a) := ok_isText T
  have GInOrder : FnOk P w K mg base CX0 1 a.aInOrder d.dInOrder ["signs"] spInOrder := ok_inOrder T
  have G0 := FnOk.or (ok_pInit (P := P) (w := w) (base := base) T M) (ok_pInitX T M GBadPerson)
  refine ks_fn Z scKInit (fun vs H Q E h => ?_) (fun oc od osl dV kV doc pm ct an lk A outer s H vs Q E hr h => ?_)
  · obtain ⟨p, al, sl, dx, i, sg, W, he, kn, part, sa, rfl, _⟩ := h
    rfl
  · obtain ⟨p, al, sl, dx, i, sg, W, he, kn, part, sa, rfl, hi, hp, hal, hsg, hsl, hhe, hsa, hea, hkn, hw, k⟩ := h
    have G0r := G0.raw T.bPInit .nil
    refine ⟨_, pba_cons (psa_expr (pea_super (E' := E) (U i hi) (by decide +kernel) lk scKInit rfl rfl rfl G0r (hr.mono (by decide)) (passes_call (takes_of rfl rfl rfl rfl) (fun _ _ _ _ h => h)) (pa_cons (pv 1) (pa_cons (pv 2) (pa_cons (pv 3) pa_nil))))) ((pss_cons (ps_if (pt_not (pt_val (pe_meth (pv 1) T.clA T.mIsText GIsText (hr.mono (by decide)) T.bIsText .nil pass0 (pa_cons (pv 4) pa_nil)))) (pss_one (ps_raise rfl (takes_of rfl rfl rfl rfl) (pmk_oex T.xBadPerson.ox T.xBadPerson.iC T.xBadPerson.tI GBadPerson (hr.mono (by decide)) T.xBadPerson.bB .nil pass0 (by rfl) T.xBadPerson.gB (pa_cons (pe_strS (l := kStrN7_0) kStrN7_0_eq) pa_nil)))) pss_nil)
      (pss_one (ps_fld (pv 0) (pe_call GInOrder (hr.mono (by decide)) (by rfl) T.gInOrder T.FInOrder.kp T.bInOrder .nil pass0 (pa_cons (pv 4) pa_nil)) rfl)))), ?_⟩
    have hi4 : i < 4 := by omega
    have nal : al ≠ p := fun z => by
      obtain ⟨_, _, _, e⟩ := hal.ins
      rw [z, hp] at e
      injection (Option.some.inj e) with _ _ e3
      cases e3
    refine ⟨p, dx, _, rfl, hp, _, rfl, _, rfl, _, rfl, ?_⟩
    rcases hw with hw | ⟨ew, hd, htx⟩
    · exact .inr ⟨p, al, sl, dx, i, sg, W, he, part, sa, rfl, hi4, hp, hal, hsg, hsl, hhe, hsa, hea, hw, fun dd H' h1 h2 s => k dd H' h1 h2 (Vk.Same.kp s p)⟩
    subst ew
    refine .inl ⟨p, al, sl, i, dx, sg, W, he, sa, rfl, hi4, hp, hal, hsg, hsl, hd, fun hdp sd H1 kp1 hp1 hp2 hp3 => ?_⟩
    have hal1 : AlG a.cAlphabet H1 al sg W := by
      obtain ⟨l, v, ⟨dxa, e⟩, z⟩ := hal
      exact ⟨l, v, ⟨dxa, kp1 _ _ nal e⟩, z⟩
    obtain ⟨dxa, ll, vv, hi5⟩ := hal1.ins
    have clA := T.clA
    walk_at "go"
    refine ⟨al, sg, W, kn, rfl, hal1, by omega, fun H2 s2 => ?_⟩
    rw [htx]
    walk_at "go"
    have tx1 : Tx wKnows := ⟨by decide, by decide⟩
    exact ⟨by show 1 ≤ 1000; decide, fun b hb => ⟨b, wKnows, rfl, tx1, upd_same, raise1 hb s2 fun dd H' h1 h2 h3 => k dd H' (by
      cases hh : H dd with
      | none => rfl
      | some o =>
        by_cases e : dd = p
        · rw [e, hp1] at h1
          cases h1
        · rw [kp1 _ _ e hh] at h1
          cases h1) h2 (Kp.trans kp1 (Vk.Same.kp h3 p))⟩⟩
end
end
section
set_option Elab.async false
set_option linter.all false
set_option maxRecDepth 100000
set_option maxHeartbeats 4000000
open PySem PySem.Spec PyProof.Rows L2 NSet

local macro_rules | `(tactic| walk_at "side") => `(tactic| exact .inl (by assumption))
local macro_rules | `(tactic| walk_at "go1") => `(tactic| (with_reducible refine iGTup (by assumption) rfl ?_))
local macro_rules | `(tactic| walk_at "go1") => `(tactic| (with_reducible refine iGCons ?_))
local macro_rules | `(tactic| walk_at "go1") => `(tactic| (with_reducible refine iGNil ?_))
local macro_rules | `(tactic| walk_at "go1") => `(tactic| (with_reducible refine iMakeV ?_))
local macro_rules | `(tactic| walk_at "go1") => `(tactic| (with_reducible refine iMakeD ?_))
local macro_rules | `(tactic| walk_at "go1") => `(tactic| (with_reducible refine iLc2S ?_))
local macro_rules | `(tactic| walk_at "go1") => `(tactic| (with_reducible refine iLc2L ?_))
local macro_rules | `(tactic| walk_at "go1") => `(tactic| (with_reducible refine iIStr ?_))
local macro_rules | `(tactic| walk_at "go1") => `(tactic| (with_reducible refine iIxI ?_))
local macro_rules | `(tactic| walk_at "go1") => `(tactic| (with_reducible refine iCMeth ?_))

section
variable {P : Program} {w : World} {K : PySem.W.Frag} {mg : Str → Option Value} {base : Heap} {a : Ad} {d : Fd}
local macro_rules | `(tactic| walk_at "go1") => `(tactic| (with_reducible refine iMethFam ?_))
/-! k23: said of every class; the table -/
def fdSaid (d : Fd) : Nat → FuncData
  | 0 => d.dPSaid
  | 1 => d.dKSaid
  | 2 => d.dDSaid
  | _ => d.dKDSaid
def fdInit (d : Fd) : Nat → FuncData
  | 0 => d.dPInit
  | 1 => d.dKInit
  | 2 => d.dPInit
  | _ => d.dKInit
def nextS (a : Ad) : Nat → Addr
  | 1 => a.aPSaid
  | _ => a.aDSaid
/-- the defs that say super(), as the head gives them -/
structure Qx (P : Program) (K : PySem.W.Frag) (mg : Str → Option Value) (a : Ad) (d : Fd) : Prop where
  zKI : ∃ cc cda, KsD K "__init__" "Knower.__init__" sKInit a.aKInit d.dKInit a.cKnower cc cda ∧ ∀ i, i = 1 ∨ i = 3 → SupP P K mg (cP a i) a.cKnower cc cda "__init__" a.aPInit
  zKS : ∃ cc cda, KsD K "said" "Knower.said" sKSaid a.aKSaid d.dKSaid a.cKnower cc cda ∧ ∀ i, i = 1 ∨ i = 3 → SupP P K mg (cP a i) a.cKnower cc cda "said" (nextS a i)
  zDS : ∃ cc cda, KsD K "said" "Doubter.said" sDSaid a.aDSaid d.dDSaid a.cDoubter cc cda ∧ ∀ i, i = 2 ∨ i = 3 → SupP P K mg (cP a i) a.cDoubter cc cda "said" a.aPSaid
  zKD : ∃ cc cda, KsD K "said" "KnowingDoubter.said" sKDSaid a.aKDSaid d.dKDSaid a.cKD cc cda ∧ SupP P K mg (cP a 3) a.cKD cc cda "said" a.aKSaid
  bKI : Binds K d.dKInit ["self", "alphabet", "hears", "says", "knows"] []
  bKS : Binds K d.dKSaid ["self", "sign"] []
  bDS : Binds K d.dDSaid ["self", "sign"] []
  bKDS : Binds K d.dKDSaid ["self", "sign"] []
def saidL (i : Nat) (sg he : List Nat) (sa : List (List Nat)) (kn : List Nat) (c : Nat) : List Nat := if i % 2 = 1 then knowL kn c (gueL i sg he sa c) else gueL i sg he sa c
def spSaid (a : Ad) (i : Nat) : Sp := fun vs H Q _ => ∃ (p al : Addr) (sg W he kn : List Nat) (sa : List (List Nat)) (c : Nat), vs = [.ref p, .str (S [c])] ∧ PsB a H p al i sg W he sa (moreK i kn) ∧ SgOk sg ∧ DatOk sg he sa ∧ c ∈ sg ∧
  ∀ H', Same H H' → Q (.str (S (saidL i sg he sa kn c))) H'
theorem ok_said (T : Fns K mg a d) (M : Px K a) (Z : Qx P K mg a d) : ∀ i, i < 4 → FnOk P w K mg base (L2.CX P w) 8 (fSaid a i) (fdSaid d i) ["self", "sign"] (spSaid a i) := by
  have G0 : FnOk P w K mg base (L2.CX P w) 4 a.aPSaid d.dPSaid ["self", "sign"] (spSaid0 a) := ok_said0 T M
  obtain ⟨ccD, cdaD, zD, uD⟩ := Z.zDS
  obtain ⟨ccK, cdaK, zK, uK⟩ := Z.zKS
  obtain ⟨ccX, cdaX, zX, uX⟩ := Z.zKD
  have GD : FnOk P w K mg base (L2.CX P w) 6 a.aDSaid d.dDSaid ["self", "sign"] (spSaidD a) := ok_saidD T M zD uD
  have GK : FnOk P w K mg base (L2.CX P w) 7 a.aKSaid d.dKSaid ["self", "sign"] (fun vs H Q E => ∃ i, (i = 1 ∨ i = 3) ∧ spSaidK a i vs H Q E) := ok_saidK T M zK uK fun i hi => by
    rcases hi with rfl | rfl
    · refine ((G0.raw T.bPSaid .nil).mono (by decide)).imp fun vs H Q E h => ?_
      obtain ⟨p, al, sg, W, he, kn, sa, c, rfl, hp, hsg, hd, hc, k⟩ := h
      exact ⟨p, al, 1, sg, W, he, kn, sa, c, rfl, by decide, hp, hsg, hd, hc, k H (fun _ _ z => z)⟩
    · refine ((GD.raw Z.bDS .nil).mono (by decide)).imp fun vs H Q E h => ?_
      obtain ⟨p, al, sg, W, he, kn, sa, c, rfl, hp, hsg, hd, hc, k⟩ := h
      exact ⟨p, al, 3, sg, W, he, kn, sa, c, rfl, .inr rfl, hp, hsg, hd, hc, k⟩
  have GX : FnOk P w K mg base (L2.CX P w) 8 a.aKDSaid d.dKDSaid ["self", "sign"] (spSaidK a 3) := ok_saidKD zX uX (fun vs H Q E h => by
    obtain ⟨p, al, sg, W, he, kn, sa, c, rfl, hp, _⟩ := h
    obtain ⟨dx, hdp, sd, hp1, _⟩ := hp.o
    exact ⟨p, _, dx, _, rfl, hp1⟩) ((GK.raw Z.bKS .nil).imp fun vs H Q E h => ⟨3, .inr rfl, by
      rw [List.append_nil]
      exact h⟩)
  rintro i hi
  match i, hi with
  | 0, _ =>
    refine (G0.mono (by decide)).imp fun vs H Q E h => ?_
    obtain ⟨p, al, sg, W, he, kn, sa, c, rfl, hp, hsg, hd, hc, k⟩ := h
    exact ⟨p, al, 0, sg, W, he, kn, sa, c, rfl, by decide, hp, hsg, hd, hc, k H (fun _ _ z => z)⟩
  | 1, _ =>
    refine (GK.mono (by decide)).imp fun vs H Q E h => ⟨1, .inl rfl, h⟩
  | 2, _ =>
    refine (GD.mono (by decide)).imp fun vs H Q E h => ?_
    obtain ⟨p, al, sg, W, he, kn, sa, c, rfl, hp, hsg, hd, hc, k⟩ := h
    exact ⟨p, al, 2, sg, W, he, kn, sa, c, rfl, .inl rfl, hp, hsg, hd, hc, k⟩
  | 3, _ => exact GX
  | i + 4, h => omega
theorem ok_saidX (T : Fns K mg a d) (M : Px K a) (Z : Qx P K mg a d) (GUnknownSign : FnOk P w K mg base CX0 1 a.eUnk d.eUnk ["self", "sign"] (spErr a.cUnk "sign")) : ∀ i, i < 4 → FnOk P w K mg base (L2.CX P w) 8 (fSaid a i) (fdSaid d i) ["self", "sign"] (spHX a i) := by
  have G0 : FnOk P w K mg base (L2.CX P w) 4 a.aPSaid d.dPSaid ["self", "sign"] (spHeardX a) := ok_said0X T M GUnknownSign
  obtain ⟨ccD, cdaD, zD, uD⟩ := Z.zDS
  obtain ⟨ccK, cdaK, zK, uK⟩ := Z.zKS
  obtain ⟨ccX, cdaX, zX, uX⟩ := Z.zKD
  have GD := ok_saidDX (P := P) (w := w) (base := base) T M GUnknownSign zD uD
  have h0 : ∀ i, i < 4 → ∀ vs H Q E, spHX a i vs H Q E → spHeardX a vs H Q E := fun i hi vs H Q E h => by
    obtain ⟨p, al, sg, W, he, kn, sa, t, rfl, hp, hsg, ht, hc, k⟩ := h
    exact ⟨p, al, i, sg, W, he, kn, sa, t, rfl, hi, hp, hsg, ht, hc, k⟩
  have GK := ok_saidKX (P := P) (w := w) (base := base) T M zK uK fun i hi => by
    rcases hi with rfl | rfl
    · exact ((G0.raw T.bPSaid .nil).mono (by decide)).imp fun vs H Q E h => by
        rw [List.append_nil]
        exact h0 1 (by decide) vs H Q E h
    · exact ((GD.raw Z.bDS .nil).mono (by decide)).imp fun vs H Q E h => by
        rw [List.append_nil]
        exact ⟨3, .inr rfl, h⟩
  have GX : FnOk P w K mg base (L2.CX P w) 8 a.aKDSaid d.dKDSaid ["self", "sign"] (spHX a 3) := ok_saidKD zX uX (fun vs H Q E h => by
    obtain ⟨p, al, sg, W, he, kn, sa, t, rfl, hp, _⟩ := h
    obtain ⟨dx, hdp, sd, hp1, _⟩ := hp.o
    exact ⟨p, _, dx, _, rfl, hp1⟩) ((GK.raw Z.bKS .nil).imp fun vs H Q E h => ⟨3, .inr rfl, by
      rw [List.append_nil]
      exact h⟩)
  rintro i hi
  match i, hi with
  | 0, _ => exact (G0.mono (by decide)).imp (h0 0 (by decide))
  | 1, _ => exact (GK.mono (by decide)).imp fun vs H Q E h => ⟨1, .inl rfl, h⟩
  | 2, _ => exact (GD.mono (by decide)).imp fun vs H Q E h => ⟨2, .inl rfl, h⟩
  | 3, _ => exact GX
  | i + 4, h => omega
theorem b_said (T : Fns K mg a d) (Z : Qx P K mg a d) : ∀ i, i < 4 → Binds K (fdSaid d i) ["self", "sign"] [] := by
  rintro i hi
  match i, hi with
  | 0, _ => exact T.bPSaid
  | 1, _ => exact Z.bKS
  | 2, _ => exact Z.bDS
  | 3, _ => exact Z.bKDS
  | i + 4, h => omega
end
end
section
set_option Elab.async false
set_option linter.all false
set_option maxRecDepth 100000
set_option maxHeartbeats 4000000
open PySem PySem.Spec PyProof.Rows L2 NSet

local macro_rules | `(tactic| walk_at "side") => `(tactic| exact .inl (by assumption))
local macro_rules | `(tactic| walk_at "go1") => `(tactic| (with_reducible refine iGTup (by assumption) rfl ?_))
local macro_rules | `(tactic| walk_at "go1") => `(tactic| (with_reducible refine iGCons ?_))
local macro_rules | `(tactic| walk_at "go1") => `(tactic| (with_reducible refine iGNil ?_))
local macro_rules | `(tactic| walk_at "go1") => `(tactic| (with_reducible refine iMakeV ?_))
local macro_rules | `(tactic| walk_at "go1") => `(tactic| (with_reducible refine iMakeD ?_))
local macro_rules | `(tactic| walk_at "go1") => `(tactic| (with_reducible refine iLc2S ?_))
local macro_rules | `(tactic| walk_at "go1") => `(tactic| (with_reducible refine iLc2L ?_))
local macro_rules | `(tactic| walk_at "go1") => `(tactic| (with_reducible refine iIStr ?_))
local macro_rules | `(tactic| walk_at "go1") => `(tactic| (with_reducible refine iIxI ?_))
local macro_rules | `(tactic| walk_at "go1") => `(tactic| (with_reducible refine iCMeth ?_))

section
variable {P : Program} {w : World} {K : PySem.W.Frag} {mg : Str → Option Value} {base : Heap} {a : Ad} {d : Fd}
local macro_rules | `(tactic| walk_at "go1") => `(tactic| (with_reducible refine iMethFam ?_))
/-! k23: the table of a person -/
def relS (i : Nat) (sg he : List Nat) (sa : List (List Nat)) (kn : List Nat) : Rel := fun s t => decide (t ∈ saidL i sg he sa kn s)
theorem said0_len {sg he : List Nat} {sa : List (List Nat)} (hd : DatOk sg he sa) {c : Nat} (hc : c ∈ sg) : (said0 sg he sa c).length ≤ 50 := by
  have hst := hd.ms _ (hd.say' (hd.hear hc))
  have l1 := TSet.ord_len (sayC sg sa (hearC sg he c))
  unfold said0
  omega
theorem said0_in {sg he : List Nat} {sa : List (List Nat)} (hd : DatOk sg he sa) {c : Nat} (hc : c ∈ sg) : ∀ x ∈ said0 sg he sa c, x ∈ sg := fun x hx => (hd.ms _ (hd.say' (hd.hear hc))).2.1 x (TSet.mem_ord.mp hx)
theorem gue_ok {i : Nat} {sg he : List Nat} {sa : List (List Nat)} (hd : DatOk sg he sa) {c : Nat} (hc : c ∈ sg) : (gueL i sg he sa c).length ≤ 51 ∧ ∀ x ∈ gueL i sg he sa c, x ∈ sg := by
  have l1 := said0_len hd hc
  unfold gueL
  split
  · refine ⟨?_, fun x hx => ?_⟩
    · have := TSet.ord_len (said0 sg he sa c ++ [c])
      rw [List.length_append, List.length_singleton] at this
      omega
    · rcases List.mem_append.mp (TSet.mem_ord.mp hx) with h | h
      · exact said0_in hd hc x h
      · rw [List.mem_singleton.mp h]
        exact hc
  · exact ⟨by omega, said0_in hd hc⟩
theorem said_ok {i : Nat} {sg he : List Nat} {sa : List (List Nat)} {kn : List Nat} (hd : DatOk sg he sa) {c : Nat} (hc : c ∈ sg) : (saidL i sg he sa kn c).length ≤ 51 ∧ ∀ x ∈ saidL i sg he sa kn c, x ∈ sg := by
  have g := gue_ok (i := i) hd hc
  unfold saidL knowL
  split
  · split
    · refine ⟨by simp, fun x hx => ?_⟩
      rw [List.mem_singleton.mp hx]
      exact hc
    · exact g
  · exact g
def tabP (i : Nat) (sg he : List Nat) (sa : List (List Nat)) (kn l : List Nat) : List (Nat × Nat) := l.flatMap fun c => (saidL i sg he sa kn c).map fun o => (c, o)
theorem tabP_len {i : Nat} {sg he : List Nat} {sa : List (List Nat)} {kn : List Nat} (hd : DatOk sg he sa) : ∀ l : List Nat, (∀ c ∈ l, c ∈ sg) → (tabP i sg he sa kn l).length ≤ l.length * 51
  | [], _ => by simp [tabP]
  | c :: l, h => by
    have ih := tabP_len (i := i) (kn := kn) hd l fun x hx => h x (List.mem_cons_of_mem _ hx)
    have := (said_ok (i := i) (kn := kn) hd (h c List.mem_cons_self)).1
    unfold tabP at ih ⊢
    rw [List.flatMap_cons, List.length_append, List.length_map, List.length_cons]
    omega
def spTable (a : Ad) (i : Nat) : Sp := fun vs H Q _ => ∃ (p al : Addr) (sg W he kn : List Nat) (sa : List (List Nat)), vs = [.ref p] ∧ PsB a H p al i sg W he sa (moreK i kn) ∧ SgOk sg ∧ DatOk sg he sa ∧
  ∀ t H', Same H H' → Tb a H' t al sg W (relS i sg he sa kn) → Q (.ref t) H'
theorem scPTable : FnScope ["self", "told", "out"] ["self"] (defScope sPTable) := ⟨rfl, rfl, rfl, by decide +kernel, rfl, by decide +kernel, by decide +kernel⟩
theorem ok_table (T : Fns K mg a d) (M : Px K a) (Z : Qx P K mg a d) (MT : Mk K a.cTable a.aTInit) (bTInit : Binds K d.dTInit ["self", "alphabet", "pairs"] []) : FnOk P w K mg base (L2.CX P w) 9 a.aPTable d.dPTable ["self"] (fun vs H Q E => ∃ i, i < 4 ∧ spTable a i vs H Q E) := by
  have GSaid := ok_said (P := P) (w := w) (base := base) T M Z
  have bSaid := b_said T Z
  have GTInit := ok_init (P := P) (w := w) (base := base) T
  refine T.FPTable.okX scPTable (fun vs H Q E h => ?_) (fun cdv A outer s H vs Q E hr h => ?_)
  · obtain ⟨i, hi, p, al, sg, W, he, kn, sa, rfl, _⟩ := h
    rfl
  · obtain ⟨i, hi, p, al, sg, W, he, kn, sa, rfl, hp, hsg, hd, k⟩ := h
    refine ⟨_, ((pss_one (ps_ret (pe_make MT GTInit (hr.mono (by decide)) (by rfl) T.gcTable bTInit .nil (passes_call (takes_of rfl rfl rfl rfl) (fun _ _ _ _ h => h)) (pa_cons (pe_fld (pv 0) rfl) (pa_cons (pe_lc2 (own := [("told", 1), ("out", 2)]) (vs1 := [2]) (g := (gName 1)) (g1 := (gName 2)) (by rfl) scPTable.nd (pi_str (pe_fld (pe_fld (pv 0) rfl) rfl)) (blkOk_by (own := [("told", 1), ("out", 2)]) (N := ["self", "told", "out"]) (sc := defScope sPTable) (by decide +kernel)) (by decide) (fun _ _ _ _ _ => (pg_name (i := 1) scPTable.nd rfl (Or.inl rfl))) (fun _ _ _ _ _ => pts_nil) (fun _ _ _ _ _ => (pi_str (pe_methFam (pv 0) M.cl M.mSaid GSaid (hr.mono (by decide)) bSaid passEA (pa_cons (pv 1) pa_nil)))) (fun _ _ _ _ _ => (pg_name (i := 2) scPTable.nd rfl (Or.inl rfl))) (fun _ _ _ _ _ => pts_nil) (fun _ _ _ _ _ => (pe_tup (pa_cons (pv 1) (pa_cons (pv 2) pa_nil))))) pa_nil)))))), ?_⟩
    obtain ⟨dx, hdp, sd, hp1, hp2, hp3⟩ := hp.o
    have hcl := M.cl i hi
    have hnA := M.nA i hi
    obtain ⟨dxa, ll, vv, hi5⟩ := hp.al.ins
    have clA := T.clA
    have hnS := T.nS
    have hl5 := hsg.l
    walk_at "go"
    rename_i D hD
    refine lc2_it walk_S (fun i2 H' => NewP H D (tabP i sg he sa kn (sg.take i2)) H') (NewP.start hD) (fun _ _ _ _ => trivial) ?_ (fun H' hP => ?_)
    · rintro i2 x H5 H6 hii hP ⟨rfl, c, hc, rfl⟩
      obtain ⟨ms, hms, ems, s5⟩ := id hP
      have hcm := List.mem_of_getElem? hc
      have hp5 := hp.same s5
      have hp51 := s5 _ _ hp1
      have hlk : (("alphabet", V.ref al) :: ("_hears", V.ref hdp) :: ("_says", V.ref sd) :: moreK i kn : List (Str × V)).lookup ("said" : Str) = none := lk_ps (by decide +kernel) (by decide +kernel) (by decide +kernel) (by decide +kernel)
      obtain ⟨sl1, sl2⟩ := said_ok (i := i) (kn := kn) hd hcm
      have eit : tabP i sg he sa kn (sg.take (i2 + 1)) = tabP i sg he sa kn (sg.take i2) ++ (saidL i sg he sa kn c).map fun o => (c, o) := by
        unfold tabP
        rw [List.take_add_one, hc, List.flatMap_append]
        congr 1
        exact List.append_nil _
      walk_at "go"
      refine ⟨p, al, sg, W, he, kn, sa, c, rfl, hp5, hsg, hd, hcm, fun H7 s7 => ⟨_, rfl, ?_⟩⟩
      have hP7 : NewP H D (tabP i sg he sa kn (sg.take i2)) H7 := ⟨ms, hms.same s7, ems, Vk.Same.trans s5 s7⟩
      refine inner_it walk_S (fun j H' => NewP H D (tabP i sg he sa kn (sg.take i2) ++ ((saidL i sg he sa kn c).take j).map fun o => (c, o)) H') (by rw [List.take_zero, List.map_nil, List.append_nil]; exact hP7) (fun _ _ _ _ => trivial) ?_ (fun H' hP2 => ?_)
      · rintro j x H8 H9 hj hP2 ⟨rfl, c2, hc2, rfl⟩
        obtain ⟨ms2, hms2, ems2, s8⟩ := id hP2
        have hjl := (List.getElem?_eq_some_iff.mp hc2).1
        walk_at "go"
        rename_i pp hpp
        exact newp_put (l' := tabP i sg he sa kn (sg.take i2) ++ ((saidL i sg he sa kn c).take (j + 1)).map fun o => (c, o)) hms2 ems2 s8 hD hpp (by
          have h1 := tabP_len (i := i) (kn := kn) hd (sg.take i2) fun x hx => List.mem_of_mem_take hx
          rw [List.length_take] at h1
          rw [List.length_append, List.length_map, List.length_take]
          omega) c c2 (by
          rw [List.take_add_one, hc2, List.map_append, ← List.append_assoc]
          rfl)
      · rw [List.take_length] at hP2
        rw [eit]
        exact hP2
    · obtain ⟨ms, hms, ems, s5⟩ := hP
      rw [List.take_length] at ems
      walk_at "go"
      intro x dx hx hdx hnn
      have hl2 := tabP_len (i := i) (kn := kn) hd sg fun x hx => hx
      refine iMk (qs := ms) hx hdx hnn (hp.al.same s5) hsg hms ?_ (fun q hq => ?_) fun lp ns H' h1 h2 h3 => k _ _ (Vk.Same.trans s5 h2) (Tb.agr ⟨lp, ns, h3⟩ hsg.a fun s hs t ht => ?_)
      · rw [← List.length_map (f := (·.2)), ems]
        omega
      · obtain ⟨c, hc, h⟩ := List.mem_flatMap.mp (mem_ms ems hq)
        obtain ⟨o, ho, e⟩ := List.mem_map.mp h
        rw [← e]
        exact ⟨hc, (said_ok hd hc).2 o ho⟩
      · unfold relP relS relQ
        rw [ems, decide_eq_decide]
        constructor
        · intro h
          obtain ⟨c, hc, h⟩ := List.mem_flatMap.mp h
          obtain ⟨o, ho, e⟩ := List.mem_map.mp h
          cases e
          exact ho
        · intro h
          exact List.mem_flatMap.mpr ⟨s, hs, List.mem_map.mpr ⟨t, h, rfl⟩⟩
end
end
section
set_option Elab.async false
set_option linter.all false
set_option maxRecDepth 100000
set_option maxHeartbeats 4000000
open PySem PySem.Spec PyProof.Rows L2 NSet

local macro_rules | `(tactic| walk_at "side") => `(tactic| exact .inl (by assumption))
local macro_rules | `(tactic| walk_at "go1") => `(tactic| (with_reducible refine iGTup (by assumption) rfl ?_))
local macro_rules | `(tactic| walk_at "go1") => `(tactic| (with_reducible refine iGCons ?_))
local macro_rules | `(tactic| walk_at "go1") => `(tactic| (with_reducible refine iGNil ?_))
local macro_rules | `(tactic| walk_at "go1") => `(tactic| (with_reducible refine iMakeV ?_))
local macro_rules | `(tactic| walk_at "go1") => `(tactic| (with_reducible refine iMakeD ?_))
local macro_rules | `(tactic| walk_at "go1") => `(tactic| (with_reducible refine iLc2S ?_))
local macro_rules | `(tactic| walk_at "go1") => `(tactic| (with_reducible refine iLc2L ?_))
local macro_rules | `(tactic| walk_at "go1") => `(tactic| (with_reducible refine iIStr ?_))
local macro_rules | `(tactic| walk_at "go1") => `(tactic| (with_reducible refine iIxI ?_))
local macro_rules | `(tactic| walk_at "go1") => `(tactic| (with_reducible refine iCMeth ?_))

section
variable {P : Program} {w : World} {K : PySem.W.Frag} {mg : Str → Option Value} {base : Heap} {a : Ad} {d : Fd}
/-! k23: _law_make -/
def spMk (a : Ad) : Sp := fun vs H Q _ => ∃ (al sl : Addr) (i : Nat) (sg W he kn : List Nat) (sa : List (List Nat)), vs = [.ref al, .int (i : Nat), .str (S he), .ref sl, .str (S kn)] ∧ i < 4 ∧ AlG a.cAlphabet H al sg W ∧ SgOk sg ∧ H sl = some (.lst (sa.map fun t => V.str (S t))) ∧ DatOk sg he sa ∧ (i % 2 = 1 → kn.length ≤ 50 ∧ txtB sg kn = true) ∧
  ∀ p H', Same H H' → PsB a H' p al i sg W he sa (moreK i kn) → Q (.ref p) H'
def WrongI (i : Nat) (sg he : List Nat) (sa : List (List Nat)) (kn part : List Nat) : Prop := Wrong sg he sa part ∨ (i % 2 = 1 ∧ part = wKnows ∧ DatOk sg he sa ∧ txtB sg kn = false)
def spMkX (a : Ad) : Sp := fun vs H _ E => ∃ (al sl : Addr) (i : Nat) (sg W he kn part : List Nat) (sa : List (List Nat)), vs = [.ref al, .int (i : Nat), .str (S he), .ref sl, .str (S kn)] ∧ i < 4 ∧ AlG a.cAlphabet H al sg W ∧ SgOk sg ∧ H sl = some (.lst (sa.map fun t => V.str (S t))) ∧ he.length ≤ 100 ∧ sa.length ≤ 100 ∧ (∀ s ∈ sa, s.length ≤ 100) ∧ kn.length ≤ 100 ∧ WrongI i sg he sa kn part ∧
  ∀ dd H', H dd = none → H' dd = some (.xd [("part", .str (S part))]) → Same H H' → E (.ref a.cBadPerson) (some dd) H'
theorem scMake : FnScope ["_law_alphabet", "_law_kind", "_law_hears", "_law_says", "_law_knows"] ["_law_alphabet", "_law_kind", "_law_hears", "_law_says", "_law_knows"] (defScope sMake) := ⟨rfl, rfl, rfl, by decide +kernel, rfl, by decide +kernel, by decide +kernel⟩
/-- a new person: what its __init__ asks -/
theorem new_same {H : Hp} {x dx C : Addr} (hx : H x = none) (hd : H dx = none) (hn : dx ≠ x) : Same H (upd (upd H dx (.own x)) x (.ins C dx [])) := fun c o hc => by
  rw [upd_ne (fun z => by rw [z, hx] at hc; cases hc), upd_ne (fun z => by rw [z, hd] at hc; cases hc)]
  exact hc
theorem kp_same {H H1 H' : Hp} {p : Addr} (hp : H p = none) (s : Same H H1) (k : Kp p H1 H') : Same H H' := fun c o hc => k c o (fun z => by rw [z, hp] at hc; cases hc) (s c o hc)
theorem good_kn {a : Ad} {H : Hp} {p al : Addr} {i : Nat} {sg W he kn : List Nat} {sa : List (List Nat)} (hi : i % 2 = 0) (h : PsB a H p al i sg W he sa []) : PsB a H p al i sg W he sa (moreK i kn) := by
  have : moreK i kn = [] := by
    unfold moreK
    rw [if_neg (by omega)]
  rw [this]
  exact h
theorem mk_even {al sl x dx : Addr} {i : Nat} {sg W he kn : List Nat} {sa : List (List Nat)} {H : Hp} {Q : VK} {E : XK} (hi : i < 4) (he2 : i % 2 = 0) (hal : AlG a.cAlphabet H al sg W) (hsg : SgOk sg) (hsl : H sl = some (.lst (sa.map fun t => V.str (S t)))) (hd : DatOk sg he sa) (hx : H x = none) (hdx : H dx = none) (hn : dx ≠ x)
    (k : ∀ p H', Same H H' → PsB a H' p al i sg W he sa (moreK i kn) → Q (.ref p) H') : spPInit a [.ref x, .ref al, .str (S he), .ref sl] (upd (upd H dx (.own x)) x (.ins (cP a i) dx [])) (fun v H2 => v = .non ∧ Q (.ref x) H2) E := by
  have s1 := new_same (C := cP a i) hx hdx hn
  refine ⟨x, al, sl, i, dx, sg, W, he, sa, rfl, hi, upd_same, hal.same s1, hsg, s1 _ _ hsl, hd, fun hdp sd H' kp h1 h2 h3 => ⟨rfl, ?_⟩⟩
  have s2 := kp_same hx s1 kp
  exact k x H' s2 (good_kn he2 ⟨⟨dx, hdp, sd, h1, h2, h3⟩, hal.same s2⟩)
theorem mk_odd {al sl x dx : Addr} {i : Nat} {sg W he kn : List Nat} {sa : List (List Nat)} {H : Hp} {Q : VK} {E : XK} (he2 : i = 1 ∨ i = 3) (hal : AlG a.cAlphabet H al sg W) (hsg : SgOk sg) (hsl : H sl = some (.lst (sa.map fun t => V.str (S t)))) (hd : DatOk sg he sa) (hk : kn.length ≤ 50) (ht : txtB sg kn = true) (hx : H x = none) (hdx : H dx = none) (hn : dx ≠ x)
    (k : ∀ p H', Same H H' → PsB a H' p al i sg W he sa (moreK i kn) → Q (.ref p) H') : spKInit a [.ref x, .ref al, .str (S he), .ref sl, .str (S kn)] (upd (upd H dx (.own x)) x (.ins (cP a i) dx [])) (fun v H2 => v = .non ∧ Q (.ref x) H2) E := by
  have s1 := new_same (C := cP a i) hx hdx hn
  refine ⟨x, al, sl, dx, i, sg, W, he, kn, sa, rfl, he2, upd_same, hal.same s1, hsg, s1 _ _ hsl, hd, hk, ht, fun H' kp h1 => ⟨rfl, ?_⟩⟩
  exact k x H' (kp_same hx s1 kp) h1
theorem mkx_even {al sl x dx : Addr} {i : Nat} {sg W he part : List Nat} {sa : List (List Nat)} {H : Hp} {Q : VK} {E : XK} (hi : i < 4) (hal : AlG a.cAlphabet H al sg W) (hsg : SgOk sg) (hsl : H sl = some (.lst (sa.map fun t => V.str (S t)))) (l1 : he.length ≤ 100) (l2 : sa.length ≤ 100) (l3 : ∀ s ∈ sa, s.length ≤ 100) (hd : Wrong sg he sa part) (hx : H x = none) (hdx : H dx = none) (hn : dx ≠ x)
    (k : ∀ dd H', H dd = none → H' dd = some (.xd [("part", .str (S part))]) → Same H H' → E (.ref a.cBadPerson) (some dd) H') : spPInitX a [.ref x, .ref al, .str (S he), .ref sl] (upd (upd H dx (.own x)) x (.ins (cP a i) dx [])) Q E := by
  have s1 := new_same (C := cP a i) hx hdx hn
  exact ⟨x, al, sl, dx, i, sg, W, he, part, sa, rfl, hi, upd_same, hal.same s1, hsg, s1 _ _ hsl, l1, l2, l3, hd, fun dd H' h1 h2 s => k dd H' (L2.Same.free s1 h1) h2 (Vk.Same.trans s1 s)⟩
theorem mkx_odd {al sl x dx : Addr} {i : Nat} {sg W he kn part : List Nat} {sa : List (List Nat)} {H : Hp} {Q : VK} {E : XK} (hi : i = 1 ∨ i = 3) (hal : AlG a.cAlphabet H al sg W) (hsg : SgOk sg) (hsl : H sl = some (.lst (sa.map fun t => V.str (S t)))) (l1 : he.length ≤ 100) (l2 : sa.length ≤ 100) (l3 : ∀ s ∈ sa, s.length ≤ 100) (l4 : kn.length ≤ 100) (hd : WrongK sg he sa kn part) (hx : H x = none) (hdx : H dx = none) (hn : dx ≠ x)
    (k : ∀ dd H', H dd = none → H' dd = some (.xd [("part", .str (S part))]) → Same H H' → E (.ref a.cBadPerson) (some dd) H') : spKInitX a [.ref x, .ref al, .str (S he), .ref sl, .str (S kn)] (upd (upd H dx (.own x)) x (.ins (cP a i) dx [])) Q E := by
  have s1 := new_same (C := cP a i) hx hdx hn
  exact ⟨x, al, sl, dx, i, sg, W, he, kn, part, sa, rfl, hi, upd_same, hal.same s1, hsg, s1 _ _ hsl, l1, l2, l3, l4, hd, fun dd H' h1 h2 s => k dd H' (L2.Same.free s1 h1) h2 (kp_same hx s1 s)⟩
theorem ok_make (T : Fns K mg a d) (M : Px K a) (Z : Qx P K mg a d) : FnOk P w K mg base (L2.CX P w) 7 a.aMake d.dMake ["_law_alphabet", "_law_kind", "_law_hears", "_law_says", "_law_knows"] (spMk a) := by
  have GI0 := ok_pInit (P := P) (w := w) (base := base) T M
  obtain ⟨cc, cda, zK, uK⟩ := Z.zKI
  have GI1 := ok_kInit (P := P) (w := w) (base := base) T M zK uK
  have GI2 := GI0
  have GI3 := GI1
  have bI0 := T.bPInit
  have bI2 := T.bPInit
  have bI1 := Z.bKI
  have bI3 := Z.bKI
  refine T.FMake.okX scMake (fun vs H Q E h => ?_) (fun cdv A outer s H vs Q E hr h => ?_)
  · obtain ⟨al, sl, i, sg, W, he, kn, sa, rfl, _⟩ := h
    rfl
  · obtain ⟨al, sl, i, sg, W, he, kn, sa, rfl, hi, hal, hsg, hsl, hd, hk, k⟩ := h
    refine ⟨_, ((pss_cons (ps_if (pt_cmpR op_eq (pv 1) pe_int (nomark _)) (pss_one (ps_ret (pe_make (M.mak 0 (by decide)) GI0 (hr.mono (by decide)) (by rfl) T.gcPerson bI0 .nil (passes_call (takes_of rfl rfl rfl rfl) (fun _ _ _ _ h => h)) (pa_cons (pv 0) (pa_cons (pv 2) (pa_cons (pv 3) pa_nil)))))) pss_nil)
      (pss_cons (ps_if (pt_cmpR op_eq (pv 1) pe_int (nomark _)) (pss_one (ps_ret (pe_make (M.mak 1 (by decide)) GI1 (hr.mono (by decide)) (by rfl) T.gcKnower bI1 .nil (passes_call (takes_of rfl rfl rfl rfl) (fun _ _ _ _ h => h)) (pa_cons (pv 0) (pa_cons (pv 2) (pa_cons (pv 3) (pa_cons (pv 4) pa_nil))))))) pss_nil)
      (pss_cons (ps_if (pt_cmpR op_eq (pv 1) pe_int (nomark _)) (pss_one (ps_ret (pe_make (M.mak 2 (by decide)) GI2 (hr.mono (by decide)) (by rfl) T.gcDoubter bI2 .nil (passes_call (takes_of rfl rfl rfl rfl) (fun _ _ _ _ h => h)) (pa_cons (pv 0) (pa_cons (pv 2) (pa_cons (pv 3) pa_nil)))))) pss_nil)
      (pss_one (ps_ret (pe_make (M.mak 3 (by decide)) GI3 (hr.mono (by decide)) (by rfl) T.gcKnowingDoubter bI3 .nil (passes_call (takes_of rfl rfl rfl rfl) (fun _ _ _ _ h => h)) (pa_cons (pv 0) (pa_cons (pv 2) (pa_cons (pv 3) (pa_cons (pv 4) pa_nil))))))))))), ?_⟩
    match i, hi with
    | 0, _ =>
      walk_at "go"
      exact fun x dx hx hdx hn => mk_even (i := 0) (by decide) rfl hal hsg hsl hd hx hdx hn k
    | 1, _ =>
      walk_at "go"
      exact fun x dx hx hdx hn => mk_odd (i := 1) (.inl rfl) hal hsg hsl hd (hk rfl).1 (hk rfl).2 hx hdx hn k
    | 2, _ =>
      walk_at "go"
      exact fun x dx hx hdx hn => mk_even (i := 2) (by decide) rfl hal hsg hsl hd hx hdx hn k
    | 3, _ =>
      walk_at "go"
      exact fun x dx hx hdx hn => mk_odd (i := 3) (.inr rfl) hal hsg hsl hd (hk rfl).1 (hk rfl).2 hx hdx hn k
    | i + 4, h => omega
theorem ok_makeX (T : Fns K mg a d) (M : Px K a) (Z : Qx P K mg a d) (GBadPerson : FnOk P w K mg base CX0 1 a.eBadPerson d.eBadPerson ["self", "part"] (spErr a.cBadPerson "part")) : FnOk P w K mg base (L2.CX P w) 7 a.aMake d.dMake ["_law_alphabet", "_law_kind", "_law_hears", "_law_says", "_law_knows"] (spMkX a) := by
  have GI0 := ok_pInitX (P := P) (w := w) (base := base) T M GBadPerson
  obtain ⟨cc, cda, zK, uK⟩ := Z.zKI
  have GI1 := ok_kInitX (P := P) (w := w) (base := base) T M GBadPerson zK uK
  have GI2 := GI0
  have GI3 := GI1
  have bI0 := T.bPInit
  have bI2 := T.bPInit
  have bI1 := Z.bKI
  have bI3 := Z.bKI
  refine T.FMake.okX scMake (fun vs H Q E h => ?_) (fun cdv A outer s H vs Q E hr h => ?_)
  · obtain ⟨al, sl, i, sg, W, he, kn, part, sa, rfl, _⟩ := h
    rfl
  · obtain ⟨al, sl, i, sg, W, he, kn, part, sa, rfl, hi, hal, hsg, hsl, hl1, hl2, hl3, hl4, hw, k⟩ := h
    refine ⟨_, ((pss_cons (ps_if (pt_cmpR op_eq (pv 1) pe_int (nomark _)) (pss_one (ps_ret (pe_make (M.mak 0 (by decide)) GI0 (hr.mono (by decide)) (by rfl) T.gcPerson bI0 .nil (passes_call (takes_of rfl rfl rfl rfl) (fun _ _ _ _ h => h)) (pa_cons (pv 0) (pa_cons (pv 2) (pa_cons (pv 3) pa_nil)))))) pss_nil)
      (pss_cons (ps_if (pt_cmpR op_eq (pv 1) pe_int (nomark _)) (pss_one (ps_ret (pe_make (M.mak 1 (by decide)) GI1 (hr.mono (by decide)) (by rfl) T.gcKnower bI1 .nil (passes_call (takes_of rfl rfl rfl rfl) (fun _ _ _ _ h => h)) (pa_cons (pv 0) (pa_cons (pv 2) (pa_cons (pv 3) (pa_cons (pv 4) pa_nil))))))) pss_nil)
      (pss_cons (ps_if (pt_cmpR op_eq (pv 1) pe_int (nomark _)) (pss_one (ps_ret (pe_make (M.mak 2 (by decide)) GI2 (hr.mono (by decide)) (by rfl) T.gcDoubter bI2 .nil (passes_call (takes_of rfl rfl rfl rfl) (fun _ _ _ _ h => h)) (pa_cons (pv 0) (pa_cons (pv 2) (pa_cons (pv 3) pa_nil)))))) pss_nil)
      (pss_one (ps_ret (pe_make (M.mak 3 (by decide)) GI3 (hr.mono (by decide)) (by rfl) T.gcKnowingDoubter bI3 .nil (passes_call (takes_of rfl rfl rfl rfl) (fun _ _ _ _ h => h)) (pa_cons (pv 0) (pa_cons (pv 2) (pa_cons (pv 3) (pa_cons (pv 4) pa_nil))))))))))), ?_⟩
    match i, hi with
    | 0, _ =>
      walk_at "go"
      exact fun x dx hx hdx hn => mkx_even (i := 0) (by decide) hal hsg hsl hl1 hl2 hl3 (hw.resolve_right fun z => by have := z.1; omega) hx hdx hn k
    | 1, _ =>
      walk_at "go"
      exact fun x dx hx hdx hn => mkx_odd (i := 1) (.inl rfl) hal hsg hsl hl1 hl2 hl3 hl4 (hw.imp id fun z => z.2) hx hdx hn k
    | 2, _ =>
      walk_at "go"
      exact fun x dx hx hdx hn => mkx_even (i := 2) (by decide) hal hsg hsl hl1 hl2 hl3 (hw.resolve_right fun z => by have := z.1; omega) hx hdx hn k
    | 3, _ =>
      walk_at "go"
      exact fun x dx hx hdx hn => mkx_odd (i := 3) (.inr rfl) hal hsg hsl hl1 hl2 hl3 hl4 (hw.imp id fun z => z.2) hx hdx hn k
    | i + 4, h => omega
end
end
section
set_option Elab.async false
set_option linter.all false
set_option maxRecDepth 100000
set_option maxHeartbeats 4000000
open PySem PySem.Spec PyProof.Rows L2 NSet

local macro_rules | `(tactic| walk_at "side") => `(tactic| exact .inl (by assumption))
local macro_rules | `(tactic| walk_at "go1") => `(tactic| (with_reducible refine iGTup (by assumption) rfl ?_))
local macro_rules | `(tactic| walk_at "go1") => `(tactic| (with_reducible refine iGCons ?_))
local macro_rules | `(tactic| walk_at "go1") => `(tactic| (with_reducible refine iGNil ?_))
local macro_rules | `(tactic| walk_at "go1") => `(tactic| (with_reducible refine iMakeV ?_))
local macro_rules | `(tactic| walk_at "go1") => `(tactic| (with_reducible refine iMakeD ?_))
local macro_rules | `(tactic| walk_at "go1") => `(tactic| (with_reducible refine iLc2S ?_))
local macro_rules | `(tactic| walk_at "go1") => `(tactic| (with_reducible refine iLc2L ?_))
local macro_rules | `(tactic| walk_at "go1") => `(tactic| (with_reducible refine iIStr ?_))
local macro_rules | `(tactic| walk_at "go1") => `(tactic| (with_reducible refine iIxI ?_))
local macro_rules | `(tactic| walk_at "go1") => `(tactic| (with_reducible refine iCMeth ?_))
def kStrN11_0 : List Nat := [97, 98, 99, 100, 101, 102, 103, 104, 105, 106, 107, 108, 109, 110, 111, 112, 113, 114, 115, 116, 117, 118, 119, 120, 121, 122]
theorem kStrN11_0_eq : PySem.Str.ofString "abcdefghijklmnopqrstuvwxyz" = S kStrN11_0 := by decide +kernel
section
variable {P : Program} {w : World} {K : PySem.W.Frag} {mg : Str → Option Value} {base : Heap} {a : Ad} {d : Fd}
def signB (sg t : List Nat) : Bool := match t with
  | [c] => decide (c ∈ sg)
  | _ => false
theorem sign_not {sg t : List Nat} (h : signB sg t = false) : ∀ c ∈ sg, t ≠ [c] := fun c hc e => by
  rw [e] at h
  exact absurd hc (of_decide_eq_false h)
theorem restO_pos {sg : List Nat} (h : sg.length ≤ 5) : 0 < (azL.filter fun c => decide (c ∉ sg)).length := by
  rcases Nat.eq_zero_or_pos (azL.filter fun c => decide (c ∉ sg)).length with e | e
  · have e2 := List.eq_nil_of_length_eq_zero e
    have key : ∀ c ∈ azL, c ∈ sg := fun c hc => by
      by_cases hin : c ∈ sg
      · exact hin
      · have : c ∈ azL.filter fun c => decide (c ∉ sg) := List.mem_filter.mpr ⟨hc, by simp [hin]⟩
        rw [e2] at this
        cases this
    have := len_of_sub az_nodup key
    rw [az_len] at this
    omega
  · exact e
theorem az_up : ∀ c ∈ azL, Txt.upper (S [c]) = S [c - 32] := by decide +kernel
/-- a text that is no sign -/
def Odd (sg t : List Nat) : Prop := signB sg t = false ∧ t.length ≤ 10 ∧ ∀ c ∈ t, c < 128
def SgL (sg : List Nat) : Prop := 2 ≤ sg.length ∧ ∀ c ∈ sg, c = 45 ∨ (97 ≤ c ∧ c ≤ 122)
theorem odds {sg : List Nat} (hsg : SgOk sg) (hs : SgL sg) {c1 d2 : Nat} (hm : c1 ∈ sg) (hd : d2 ∉ sg ∧ d2 ∈ azL) : ∀ t ∈ ([[], [c1, c1], sg, [d2], [d2 - 32], [c1, 32], [32], [46]] : List (List Nat)), Odd sg t := by
  have hc := hsg.c c1 hm
  have hl := hsg.l
  have haz : ∀ c ∈ azL, 97 ≤ c ∧ c ≤ 122 := by decide +kernel
  have hd2 := haz d2 hd.2
  have one : ∀ x, x ∉ sg → signB sg [x] = false := fun x hx => by
    show decide (x ∈ sg) = false
    exact decide_eq_false hx
  have no : ∀ x, x ≠ 45 → (x < 97 ∨ 122 < x) → x ∉ sg := fun x h1 h2 hx => by
    have := hs.2 x hx
    omega
  intro t ht
  simp only [List.mem_cons, List.not_mem_nil, or_false] at ht
  rcases ht with rfl | rfl | rfl | rfl | rfl | rfl | rfl | rfl
  · exact ⟨rfl, by decide, fun _ z => nomatch z⟩
  · exact ⟨rfl, by simp, fun x hx => by simp at hx; omega⟩
  · refine ⟨?_, by omega, hsg.c⟩
    have h2 := hs.1
    rcases t with _ | ⟨x, _ | ⟨y, r⟩⟩
    · rfl
    · simp at h2
    · rfl
  · exact ⟨one _ hd.1, by simp, fun x hx => by simp at hx; omega⟩
  · exact ⟨one _ (no _ (by omega) (by omega)), by simp, fun x hx => by simp at hx; omega⟩
  · exact ⟨rfl, by simp, fun x hx => by simp at hx; omega⟩
  · exact ⟨one _ (no _ (by decide) (by decide)), by simp, fun x hx => by simp at hx; omega⟩
  · exact ⟨one _ (no _ (by decide) (by decide)), by simp, fun x hx => by simp at hx; omega⟩
def spStrange : Sp := fun vs H Q _ => ∃ (b g u : Addr) (sg : List Nat), vs = [.ref b, .str (S sg)] ∧ BagB H b g u ∧ SgOk sg ∧ SgL sg ∧ ∀ (t : List Nat) (H' : Hp), Odd sg t → BagB H' b g u → Fr [b, g] H H' → Q (.str (S t)) H'
theorem scStrange : FnScope ["_law_bag_here", "_law_signs_here", "_law_sign", "_law_rest", "_law_one", "_law_other"] ["_law_bag_here", "_law_signs_here"] (defScope sStrange) := ⟨rfl, rfl, rfl, by decide +kernel, rfl, by decide +kernel, by decide +kernel⟩
theorem ok_strange (T : Fns K mg a d) : FnOk P w K mg base CX0 2 a.aStrange d.dStrange ["_law_bag_here", "_law_signs_here"] spStrange := by
  have GTake := ok_take (P := P) (w := w) (base := base) T
  refine T.FStrange.ok scStrange (fun vs H Q E h => ?_) (fun cdv A outer s H vs Q E hr h => ?_)
  · obtain ⟨b, g, u, sg, rfl, _⟩ := h
    rfl
  · obtain ⟨b, g, u, sg, rfl, hB, hsg, hs, k⟩ := h
    have hl5 := hsg.l
    have hl0 := hsg.p
    refine ⟨_, ((pss_cons (ps_set (i := 2) scStrange.nd rfl (Or.inl rfl) (pe_ix ix_str (pv 1) (pe_call GTake (hr.mono (by decide)) (by rfl) T.gTake T.FTake.kp T.bTake .nil pass0 (pa_cons (pv 0) (pa_cons (pe_callB call_lenS (by rfl) T.z_len (by decide +kernel) (pa_cons (pv 1) pa_nil)) pa_nil))) (fun _ _ => rfl)))
      (pss_cons (ps_setLc (i := 3) (own := [("_law_one", 4)]) (g := gName 4) (by rfl) scStrange.nd rfl rfl (by rfl) (pi_str (pe_strS (l := kStrN11_0) kStrN11_0_eq)) (blkOk_by (own := [("_law_one", 4)]) (N := ["_law_bag_here", "_law_signs_here", "_law_sign", "_law_rest", "_law_one", "_law_other"]) (sc := defScope sStrange) (by decide +kernel)) (fun _ _ _ _ _ => pg_name (i := 4) scStrange.nd rfl (Or.inl rfl)) (fun _ _ _ _ _ => (pts_one (pt_cmpR op_notInS (pv 4) (pv 1) rfl))) (fun _ _ _ _ _ => (pv 4)))
      (pss_cons (ps_set (i := 5) scStrange.nd rfl (Or.inl rfl) (pe_ix (r := rIxL K) ix_list (pv 3) (pe_call GTake (hr.mono (by decide)) (by rfl) T.gTake T.FTake.kp T.bTake .nil pass0 (pa_cons (pv 0) (pa_cons (pe_callB call_len_seq (by rfl) T.z_len (by decide +kernel) (pa_cons (pv 3) pa_nil)) pa_nil))) (fun _ _ => rfl)))
      (pss_one (ps_ret (pe_ix (r := rIxL K) ix_list (pe_lst (pa_cons (pe_strS (l := []) (by decide +kernel)) (pa_cons (pe_op op_addS (pv 2) (pv 2)) (pa_cons (pv 1) (pa_cons (pv 5) (pa_cons (pe_upper (pv 5)) (pa_cons (pe_op op_addS (pv 2) (pe_strS (l := [32]) (by decide +kernel))) (pa_cons (pe_strS (l := [32]) (by decide +kernel)) (pa_cons (pe_strS (l := [46]) (by decide +kernel)) pa_nil))))))))) (pe_call GTake (hr.mono (by decide)) (by rfl) T.gTake T.FTake.kp T.bTake .nil pass0 (pa_cons (pv 0) (pa_cons pe_int pa_nil))) (fun _ _ => rfl)))))))), ?_⟩
    walk_at "go"
    refine ⟨b, g, u, sg.length, rfl, hB, hl0, by omega, fun r1 H1 hr1 hB1 f1 => ?_⟩
    obtain ⟨c1, hc1⟩ : ∃ c, sg[r1]? = some c := ⟨_, List.getElem?_eq_getElem hr1⟩
    have hm1 := List.mem_of_getElem? hc1
    walk_at "go"
    rename_i D hD
    have eaz : kStrN11_0 = azL := by decide +kernel
    rw [eaz]
    have hrl := List.length_filter_le (fun c => decide (c ∉ sg)) azL
    rw [az_len] at hrl
    refine lcg_S (fun j H' => H' D = some (.lst (((azL.take j).filter fun c => decide (c ∉ sg)).map fun c => V.str (S [c]))) ∧ Same H1 H') ⟨upd_same, Same.upd_new hD⟩ (fun _ => rfl) (fun j c H' hc hP2 => ?_) (fun H' hP2 => ?_)
    · obtain ⟨h8, s8⟩ := hP2
      have hjl := (List.getElem?_eq_some_iff.mp hc).1
      have hfl := List.length_filter_le (fun c => decide (c ∉ sg)) (azL.take j)
      rw [List.length_take, az_len] at hfl
      by_cases hcs : c ∈ sg
      · walk_at "go"
        refine ⟨?_, s8⟩
        rw [h8, List.take_add_one, hc, List.filter_append, show List.filter (fun c => decide (c ∉ sg)) (some c).toList = [] from by simp [hcs], List.append_nil]
      · walk_at "go"
        refine ⟨by rw [List.length_map, sizeLine_eq]; omega, ?_, fun b o hb => ?_⟩
        · rw [upd_same, List.take_add_one, hc, List.filter_append, show List.filter (fun c => decide (c ∉ sg)) (some c).toList = [c] from by simp [hcs], List.map_append]
          rfl
        · rw [upd_ne (fun z => by rw [z, hD] at hb; cases hb)]
          exact s8 _ _ hb
    · obtain ⟨h8, s8⟩ := hP2
      have hpos := restO_pos hl5
      rw [show azL.take azL.length = azL from List.take_length] at h8
      have hmr : ∀ c ∈ azL.filter (fun c => decide (c ∉ sg)), c ∉ sg ∧ c ∈ azL := fun c hc => ⟨by simpa using (List.mem_filter.mp hc).2, (List.mem_filter.mp hc).1⟩
      generalize (azL.filter fun c => decide (c ∉ sg)) = rest at h8 hpos hrl hmr
      have hB2 : BagB H' b g u := hB1.same s8
      walk_at "go"
      refine ⟨b, g, u, rest.length, by rw [List.length_map], hB2, hpos, by omega, fun r2 H3 hr3 hB3 f3 => ?_⟩
      obtain ⟨d2, hd⟩ : ∃ d, rest[r2]? = some d := ⟨_, List.getElem?_eq_getElem hr3⟩
      have hdm := hmr d2 (List.mem_of_getElem? hd)
      have Db := hB1.ne hD
      have hD3 : H3 D = some (.lst (rest.map fun c => V.str (S [c]))) := f3 _ _ (by simp [Db.1, Db.2.1]) h8
      have hdv : (rest.map fun c => V.str (S [c]))[r2]? = some (V.str (S [d2])) := by rw [List.getElem?_map, hd]; rfl
      have hup : Txt.upper (S [d2]) = S [d2 - 32] := by
        have := az_up d2 hdm.2
        exact this
      walk_at "go"
      refine ⟨_, rfl, ⟨_, rfl⟩, S [d2], rfl, rfl, by rw [S_len]; simp, ?_⟩
      rw [hup]
      walk_at "go"
      rename_i M hM
      have eM : ∀ x : HO, upd H3 M x = upd H3 M x := fun _ => rfl
      have hmM : (upd H3 M (.lst [V.str (S []), V.str (S ([c1] ++ [c1])), V.str (S sg), V.str (S [d2]), V.str (S [d2 - 32]), V.str (S ([c1] ++ [32])), V.str (S [32]), V.str (S [46])])) M = some (.lst (([[], [c1, c1], sg, [d2], [d2 - 32], [c1, 32], [32], [46]] : List (List Nat)).map fun t => V.str (S t))) := upd_same
      have sM : Same H3 (upd H3 M (.lst [V.str (S []), V.str (S ([c1] ++ [c1])), V.str (S sg), V.str (S [d2]), V.str (S [d2 - 32]), V.str (S ([c1] ++ [32])), V.str (S [32]), V.str (S [46])])) := Same.upd_new hM
      generalize (upd H3 M (.lst [V.str (S []), V.str (S ([c1] ++ [c1])), V.str (S sg), V.str (S [d2]), V.str (S [d2 - 32]), V.str (S ([c1] ++ [32])), V.str (S [32]), V.str (S [46])])) = H4 at hmM sM ⊢
      have hB4 := hB3.same sM
      have Mb := hB3.ne hM
      refine ⟨b, g, u, 8, rfl, hB4, by decide, by decide, fun r4 H5 hr4 hB5 f5 => ?_⟩
      have hM5 : H5 M = some (.lst (([[], [c1, c1], sg, [d2], [d2 - 32], [c1, 32], [32], [46]] : List (List Nat)).map fun t => V.str (S t))) := f5 _ _ (by simp [Mb.1, Mb.2.1]) hmM
      have hodd : ∀ t ∈ ([[], [c1, c1], sg, [d2], [d2 - 32], [c1, 32], [32], [46]] : List (List Nat)), Odd sg t := odds hsg hs hm1 hdm
      have hlen : ([[], [c1, c1], sg, [d2], [d2 - 32], [c1, 32], [32], [46]] : List (List Nat)).length = 8 := rfl
      generalize ([[], [c1, c1], sg, [d2], [d2 - 32], [c1, 32], [32], [46]] : List (List Nat)) = L at hM5 hodd hlen
      obtain ⟨t4, ht4⟩ : ∃ t, L[r4]? = some t := ⟨_, List.getElem?_eq_getElem (by omega)⟩
      have htv : (L.map fun t => V.str (S t))[r4]? = some (V.str (S t4)) := by rw [List.getElem?_map, ht4]; rfl
      walk_at "go"
      exact k t4 H5 (hodd t4 (List.mem_of_getElem? ht4)) hB5 (f1.trans ((Fr.of_same s8).trans (f3.trans ((Fr.of_same sM).trans f5))))
def spOdd : Sp := fun vs H Q _ => ∃ (b g u : Addr) (sg : List Nat), vs = [.ref b, .str (S sg)] ∧ BagB H b g u ∧ SgOk sg ∧ SgL sg ∧ ∀ (x : Nat) (H' : Hp), x ∉ sg → x < 128 → BagB H' b g u → Fr [b, g] H H' → Q (.str (S [x])) H'
theorem scOdd : FnScope ["_law_bag_here", "_law_signs_here", "_law_rest", "_law_one", "_law_other"] ["_law_bag_here", "_law_signs_here"] (defScope sOdd) := ⟨rfl, rfl, rfl, by decide +kernel, rfl, by decide +kernel, by decide +kernel⟩
theorem ok_odd (T : Fns K mg a d) : FnOk P w K mg base CX0 2 a.aOdd d.dOdd ["_law_bag_here", "_law_signs_here"] spOdd := by
  have GTake := ok_take (P := P) (w := w) (base := base) T
  refine T.FOdd.ok scOdd (fun vs H Q E h => ?_) (fun cdv A outer s H vs Q E hr h => ?_)
  · obtain ⟨b, g, u, sg, rfl, _⟩ := h
    rfl
  · obtain ⟨b, g, u, sg, rfl, hB, hsg, hs, k⟩ := h
    have hl5 := hsg.l
    have hl0 := hsg.p
    refine ⟨_, ((pss_cons (ps_setLc (i := 2) (own := [("_law_one", 3)]) (g := gName 3) (by rfl) scOdd.nd rfl rfl (by rfl) (pi_str (pe_strS (l := kStrN11_0) kStrN11_0_eq)) (blkOk_by (own := [("_law_one", 3)]) (N := ["_law_bag_here", "_law_signs_here", "_law_rest", "_law_one", "_law_other"]) (sc := defScope sOdd) (by decide +kernel)) (fun _ _ _ _ _ => pg_name (i := 3) scOdd.nd rfl (Or.inl rfl)) (fun _ _ _ _ _ => (pts_one (pt_cmpR op_notInS (pv 3) (pv 1) rfl))) (fun _ _ _ _ _ => (pv 3)))
      (pss_cons (ps_set (i := 4) scOdd.nd rfl (Or.inl rfl) (pe_ix (r := rIxL K) ix_list (pv 2) (pe_call GTake (hr.mono (by decide)) (by rfl) T.gTake T.FTake.kp T.bTake .nil pass0 (pa_cons (pv 0) (pa_cons (pe_callB call_len_seq (by rfl) T.z_len (by decide +kernel) (pa_cons (pv 2) pa_nil)) pa_nil))) (fun _ _ => rfl)))
      (pss_one (ps_ret (pe_ix (r := rIxL K) ix_list (pe_lst (pa_cons (pv 4) (pa_cons (pe_upper (pv 4)) (pa_cons (pe_strS (l := [32]) (by decide +kernel)) (pa_cons (pe_strS (l := [46]) (by decide +kernel)) (pa_cons (pe_strS (l := [10]) (by decide +kernel)) pa_nil)))))) (pe_call GTake (hr.mono (by decide)) (by rfl) T.gTake T.FTake.kp T.bTake .nil pass0 (pa_cons (pv 0) (pa_cons pe_int pa_nil))) (fun _ _ => rfl))))))), ?_⟩
    have H1 := H
    walk_at "go"
    rename_i D hD
    have eaz : kStrN11_0 = azL := by decide +kernel
    rw [eaz]
    have hrl := List.length_filter_le (fun c => decide (c ∉ sg)) azL
    rw [az_len] at hrl
    refine lcg_S (fun j H' => H' D = some (.lst (((azL.take j).filter fun c => decide (c ∉ sg)).map fun c => V.str (S [c]))) ∧ Same H H') ⟨upd_same, Same.upd_new hD⟩ (fun _ => rfl) (fun j c H' hc hP2 => ?_) (fun H' hP2 => ?_)
    · obtain ⟨h8, s8⟩ := hP2
      have hjl := (List.getElem?_eq_some_iff.mp hc).1
      have hfl := List.length_filter_le (fun c => decide (c ∉ sg)) (azL.take j)
      rw [List.length_take, az_len] at hfl
      by_cases hcs : c ∈ sg
      · walk_at "go"
        refine ⟨?_, s8⟩
        rw [h8, List.take_add_one, hc, List.filter_append, show List.filter (fun c => decide (c ∉ sg)) (some c).toList = [] from by simp [hcs], List.append_nil]
      · walk_at "go"
        refine ⟨by rw [List.length_map, sizeLine_eq]; omega, ?_, fun b o hb => ?_⟩
        · rw [upd_same, List.take_add_one, hc, List.filter_append, show List.filter (fun c => decide (c ∉ sg)) (some c).toList = [c] from by simp [hcs], List.map_append]
          rfl
        · rw [upd_ne (fun z => by rw [z, hD] at hb; cases hb)]
          exact s8 _ _ hb
    · obtain ⟨h8, s8⟩ := hP2
      have hpos := restO_pos hl5
      rw [show azL.take azL.length = azL from List.take_length] at h8
      have hmr : ∀ c ∈ azL.filter (fun c => decide (c ∉ sg)), c ∉ sg ∧ c ∈ azL := fun c hc => ⟨by simpa using (List.mem_filter.mp hc).2, (List.mem_filter.mp hc).1⟩
      generalize (azL.filter fun c => decide (c ∉ sg)) = rest at h8 hpos hrl hmr
      have hB2 : BagB H' b g u := hB.same s8
      walk_at "go"
      refine ⟨b, g, u, rest.length, by rw [List.length_map], hB2, hpos, by omega, fun r2 H3 hr3 hB3 f3 => ?_⟩
      obtain ⟨d2, hd⟩ : ∃ d, rest[r2]? = some d := ⟨_, List.getElem?_eq_getElem hr3⟩
      have hdm := hmr d2 (List.mem_of_getElem? hd)
      have Db := hB.ne hD
      have hD3 : H3 D = some (.lst (rest.map fun c => V.str (S [c]))) := f3 _ _ (by simp [Db.1, Db.2.1]) h8
      have hdv : (rest.map fun c => V.str (S [c]))[r2]? = some (V.str (S [d2])) := by rw [List.getElem?_map, hd]; rfl
      have hup : Txt.upper (S [d2]) = S [d2 - 32] := by
        have := az_up d2 hdm.2
        exact this
      walk_at "go"
      refine ⟨_, rfl, ⟨_, rfl⟩, S [d2], rfl, rfl, by rw [S_len]; simp, ?_⟩
      rw [hup]
      walk_at "go"
      rename_i M hM
      have hmM : (upd H3 M (.lst [V.str (S [d2]), V.str (S [d2 - 32]), V.str (S [32]), V.str (S [46]), V.str (S [10])])) M = some (.lst (([d2, d2 - 32, 32, 46, 10] : List Nat).map fun x => V.str (S [x]))) := upd_same
      have sM : Same H3 (upd H3 M (.lst [V.str (S [d2]), V.str (S [d2 - 32]), V.str (S [32]), V.str (S [46]), V.str (S [10])])) := Same.upd_new hM
      generalize (upd H3 M (.lst [V.str (S [d2]), V.str (S [d2 - 32]), V.str (S [32]), V.str (S [46]), V.str (S [10])])) = H4 at hmM sM ⊢
      have hB4 := hB3.same sM
      have Mb := hB3.ne hM
      refine ⟨b, g, u, 5, rfl, hB4, by decide, by decide, fun r4 H5 hr4 hB5 f5 => ?_⟩
      have hM5 : H5 M = some (.lst (([d2, d2 - 32, 32, 46, 10] : List Nat).map fun x => V.str (S [x]))) := f5 _ _ (by simp [Mb.1, Mb.2.1]) hmM
      have haz : ∀ c ∈ azL, 97 ≤ c ∧ c ≤ 122 := by decide +kernel
      have hd2 := haz d2 hdm.2
      have no : ∀ x, x ≠ 45 → (x < 97 ∨ 122 < x) → x ∉ sg := fun x h1 h2 hx => by
        have := hs.2 x hx
        omega
      have hodd : ∀ x ∈ ([d2, d2 - 32, 32, 46, 10] : List Nat), x ∉ sg ∧ x < 128 := by
        intro x hx
        simp only [List.mem_cons, List.not_mem_nil, or_false] at hx
        rcases hx with rfl | rfl | rfl | rfl | rfl
        · exact ⟨hdm.1, by omega⟩
        · exact ⟨no _ (by omega) (by omega), by omega⟩
        · exact ⟨no _ (by decide) (by decide), by decide⟩
        · exact ⟨no _ (by decide) (by decide), by decide⟩
        · exact ⟨no _ (by decide) (by decide), by decide⟩
      have hlen : ([d2, d2 - 32, 32, 46, 10] : List Nat).length = 5 := rfl
      generalize ([d2, d2 - 32, 32, 46, 10] : List Nat) = L at hM5 hodd hlen
      obtain ⟨t4, ht4⟩ : ∃ t, L[r4]? = some t := ⟨_, List.getElem?_eq_getElem (by omega)⟩
      have htv : (L.map fun x => V.str (S [x]))[r4]? = some (V.str (S [t4])) := by rw [List.getElem?_map, ht4]; rfl
      walk_at "go"
      exact k t4 H5 (hodd t4 (List.mem_of_getElem? ht4)).1 (hodd t4 (List.mem_of_getElem? ht4)).2 hB5 ((Fr.of_same s8).trans (f3.trans ((Fr.of_same sM).trans f5)))
end
end
section
set_option Elab.async false
set_option linter.all false
set_option maxRecDepth 100000
set_option maxHeartbeats 4000000
open PySem PySem.Spec PyProof.Rows L2 NSet

local macro_rules | `(tactic| walk_at "side") => `(tactic| exact .inl (by assumption))
local macro_rules | `(tactic| walk_at "go1") => `(tactic| (with_reducible refine iGTup (by assumption) rfl ?_))
local macro_rules | `(tactic| walk_at "go1") => `(tactic| (with_reducible refine iGCons ?_))
local macro_rules | `(tactic| walk_at "go1") => `(tactic| (with_reducible refine iGNil ?_))
local macro_rules | `(tactic| walk_at "go1") => `(tactic| (with_reducible refine iMakeV ?_))
local macro_rules | `(tactic| walk_at "go1") => `(tactic| (with_reducible refine iMakeD ?_))
local macro_rules | `(tactic| walk_at "go1") => `(tactic| (with_reducible refine iLc2S ?_))
local macro_rules | `(tactic| walk_at "go1") => `(tactic| (with_reducible refine iLc2L ?_))
local macro_rules | `(tactic| walk_at "go1") => `(tactic| (with_reducible refine iIStr ?_))
local macro_rules | `(tactic| walk_at "go1") => `(tactic| (with_reducible refine iIxI ?_))
local macro_rules | `(tactic| walk_at "go1") => `(tactic| (with_reducible refine iCMeth ?_))
def kStrN12_0 : List Nat := [104, 101, 97, 114, 115]
theorem kStrN12_0_eq : PySem.Str.ofString "hears" = S kStrN12_0 := by decide +kernel
def kStrN12_1 : List Nat := [107, 110, 111, 119, 115]
theorem kStrN12_1_eq : PySem.Str.ofString "knows" = S kStrN12_1 := by decide +kernel
section
variable {P : Program} {w : World} {K : PySem.W.Frag} {mg : Str → Option Value} {base : Heap} {a : Ad} {d : Fd}
/-! k23: _law_draw, _law_due -/
def spDraw : Sp := fun vs H Q _ => ∃ (b g u : Addr) (sg : List Nat) (n : Nat), vs = [.ref b, .str (S sg), .int (n : Nat)] ∧ BagB H b g u ∧ SgOk sg ∧ n ≤ 30 ∧ ∀ (t : List Nat) (H' : Hp), t.length = n → (∀ c ∈ t, c ∈ sg) → BagB H' b g u → Fr [b, g] H H' → Q (.str (S t)) H'
theorem scDraw : FnScope ["_law_bag_here", "_law_signs_here", "_law_count", "_law_told", "_law_k"] ["_law_bag_here", "_law_signs_here", "_law_count"] (defScope sDraw) := ⟨rfl, rfl, rfl, by decide +kernel, rfl, by decide +kernel, by decide +kernel⟩
theorem ok_draw (T : Fns K mg a d) : FnOk P w K mg base CX0 2 a.aDraw d.dDraw ["_law_bag_here", "_law_signs_here", "_law_count"] spDraw := by
  have GTake := ok_take (P := P) (w := w) (base := base) T
  refine T.FDraw.ok scDraw (fun vs H Q E h => ?_) (fun cdv A outer s H vs Q E hr h => ?_)
  · obtain ⟨b, g, u, sg, n, rfl, _⟩ := h
    rfl
  · obtain ⟨b, g, u, sg, n, rfl, hB, hsg, hn, k⟩ := h
    have hl5 := hsg.l
    have hl0 := hsg.p
    refine ⟨_, ((pss_cons (ps_set (i := 3) scDraw.nd rfl (Or.inl rfl) (pe_strS (l := []) (by decide +kernel)))
      (pss_cons (ps_for PassesOwn.never rfl (pi_range1 (by rfl) T.z_range (pa_cons (pv 2) pa_nil)) (pg_name (i := 4) scDraw.nd rfl (Or.inl rfl)) (pss_one (ps_set (i := 3) scDraw.nd rfl (Or.inl rfl) (pe_op op_addS (pv 3) (pe_ix ix_str (pv 1) (pe_call GTake (hr.mono (by decide)) (by rfl) T.gTake T.FTake.kp T.bTake .nil pass0 (pa_cons (pv 0) (pa_cons (pe_callB call_lenS (by rfl) T.z_len (by decide +kernel) (pa_cons (pv 1) pa_nil)) pa_nil))) (fun _ _ => rfl))))))
      (pss_one (ps_ret (pv 3)))))), ?_⟩
    walk_at "go"
    refine for_R (fun i σ H' => Stop (∃ (t : List Nat) (v4 : Option V), σ = [some (.ref b), some (.str (S sg)), some (.int (n : Nat)), some (.str (S t)), v4] ∧ t.length = i ∧ (∀ c ∈ t, c ∈ sg) ∧ BagB H' b g u ∧ Fr [b, g] H H')) ⟨[], none, rfl, rfl, (fun _ z => nomatch z), hB, Fr.of_same fun _ _ z => z⟩ ?_ ?_
    · rintro i σ H1 hi ⟨t, v4, rfl, htl, hts, hB1, f1⟩
      walk_at "go"
      refine ⟨b, g, u, sg.length, rfl, hB1, hl0, by omega, fun r1 H2 hr1 hB2 f2 => ?_⟩
      obtain ⟨c1, hc1⟩ : ∃ c, sg[r1]? = some c := ⟨_, List.getElem?_eq_getElem hr1⟩
      have hm1 := List.mem_of_getElem? hc1
      have hsz : t.length + [c1].length ≤ 100000 := by rw [List.length_singleton]; omega
      walk_at "go"
      refine ⟨t ++ [c1], _, rfl, by rw [List.length_append, List.length_singleton, htl], fun c hc => ?_, hB2, f1.trans f2⟩
      rcases List.mem_append.mp hc with h | h
      · exact hts c h
      · rw [List.mem_singleton.mp h]
        exact hm1
    · rintro σ H1 ⟨t, v4, rfl, htl, hts, hB1, f1⟩
      walk_at "go"
      exact k t H1 (by omega) hts hB1 f1
def dueL (i : Nat) (b1 b2 b3 : Bool) : List Nat := if b1 then wHears else if b2 then wSays else if b3 && decide (i % 2 = 1) then wKnows else []
def spDue : Sp := fun vs H Q _ => ∃ (p : Addr) (i : Nat) (b1 b2 b3 : Bool), vs = [.int (i : Nat), .ref p] ∧ i < 4 ∧ H p = some (.lst [.bl b1, .bl b2, .bl b3]) ∧ Q (.str (S (dueL i b1 b2 b3))) H
theorem scDue : FnScope ["_law_kind", "_law_wrong"] ["_law_kind", "_law_wrong"] (defScope sDue) := ⟨rfl, rfl, rfl, by decide +kernel, rfl, by decide +kernel, by decide +kernel⟩
theorem ok_due (T : Fns K mg a d) : FnOk P w K mg base CX0 1 a.aDue d.dDue ["_law_kind", "_law_wrong"] spDue := by
  refine T.FDue.ok scDue (fun vs H Q E h => ?_) (fun cdv A outer s H vs Q E hr h => ?_)
  · obtain ⟨p, i, b1, b2, b3, rfl, _⟩ := h
    rfl
  · obtain ⟨p, i, b1, b2, b3, rfl, hi, hp, k⟩ := h
    refine ⟨_, ((pss_cons (ps_if (pt_val (pe_ix (r := rIxL K) ix_list (pv 1) pe_int (fun _ _ => rfl))) (pss_one (ps_ret (pe_strS (l := kStrN12_0) kStrN12_0_eq))) pss_nil)
      (pss_cons (ps_if (pt_val (pe_ix (r := rIxL K) ix_list (pv 1) pe_int (fun _ _ => rfl))) (pss_one (ps_ret (pe_strS (l := [115, 97, 121, 115]) (by decide +kernel)))) pss_nil)
      (pss_cons (ps_if (PW.pt (pw_and (pt_val (pe_ix (r := rIxL K) ix_list (pv 1) pe_int (fun _ _ => rfl))) (pw_and1 (PW.pt (pw_or (pt_cmpR op_eq (pv 0) pe_int (nomark _)) (pw_or1 (pt_cmpR op_eq (pv 0) pe_int (nomark _)))))))) (pss_one (ps_ret (pe_strS (l := kStrN12_1) kStrN12_1_eq))) pss_nil)
      (pss_one (ps_ret (pe_strS (l := []) (by decide +kernel)))))))), ?_⟩
    cases b1 with
    | true =>
      walk_at "go"
      exact k
    | false =>
      cases b2 with
      | true =>
        walk_at "go"
        exact k
      | false =>
        cases b3 with
        | false =>
          walk_at "go"
          exact k
        | true =>
          match i, hi with
          | 0, _ =>
            walk_at "go"
            exact k
          | 1, _ =>
            walk_at "go"
            exact k
          | 2, _ =>
            walk_at "go"
            exact k
          | 3, _ =>
            walk_at "go"
            exact k
          | i + 4, h => omega
end
end
section
set_option Elab.async false
set_option linter.all false
set_option maxRecDepth 100000
set_option maxHeartbeats 4000000
open PySem PySem.Spec PyProof.Rows L2 NSet

local macro_rules | `(tactic| walk_at "side") => `(tactic| exact .inl (by assumption))
local macro_rules | `(tactic| walk_at "go1") => `(tactic| (with_reducible refine iGTup (by assumption) rfl ?_))
local macro_rules | `(tactic| walk_at "go1") => `(tactic| (with_reducible refine iGCons ?_))
local macro_rules | `(tactic| walk_at "go1") => `(tactic| (with_reducible refine iGNil ?_))
local macro_rules | `(tactic| walk_at "go1") => `(tactic| (with_reducible refine iMakeV ?_))
local macro_rules | `(tactic| walk_at "go1") => `(tactic| (with_reducible refine iMakeD ?_))
local macro_rules | `(tactic| walk_at "go1") => `(tactic| (with_reducible refine iLc2S ?_))
local macro_rules | `(tactic| walk_at "go1") => `(tactic| (with_reducible refine iLc2L ?_))
local macro_rules | `(tactic| walk_at "go1") => `(tactic| (with_reducible refine iIStr ?_))
local macro_rules | `(tactic| walk_at "go1") => `(tactic| (with_reducible refine iIxI ?_))
local macro_rules | `(tactic| walk_at "go1") => `(tactic| (with_reducible refine iCMeth ?_))

section
variable {P : Program} {w : World} {K : PySem.W.Frag} {mg : Str → Option Value} {base : Heap} {a : Ad} {d : Fd}
/-! k23: _law_kinds, _law_said -/
theorem isi_P (T : Fns K mg a d) (M : Px K a) {i j : Nat} {H : Hp} {p dx : Addr} {fs : List (Str × V)} {Q : VK} (hi : i < 4) (hj : j < 4) (h : H p = some (.ins (cP a i) dx fs)) (k : Q (.bl (decide (j = 0 ∨ j = i ∨ i = 3))) H) : rIsi K [.ref p, .ref (cP a j)] H Q :=
  ⟨_, _, _, _, _, rfl, .own _, .base (.ins h (M.cl i hi) (M.ic i hi) T.igO T.itO (M.im i hi)), M.kit i j hi hj, k⟩
def spKinds (a : Ad) : Sp := fun vs H Q _ => ∃ (p dx : Addr) (i : Nat) (fs : List (Str × V)), vs = [.ref p, .int (i : Nat)] ∧ i < 4 ∧ H p = some (.ins (cP a i) dx fs) ∧ Q (.bl true) H
theorem scKinds : FnScope ["_law_person", "_law_kind"] ["_law_person", "_law_kind"] (defScope sKinds) := ⟨rfl, rfl, rfl, by decide +kernel, rfl, by decide +kernel, by decide +kernel⟩
theorem ok_kinds (T : Fns K mg a d) (M : Px K a) : FnOk P w K mg base CX0 1 a.aKinds d.dKinds ["_law_person", "_law_kind"] (spKinds a) := by
  refine T.FKinds.ok scKinds (fun vs H Q E h => ?_) (fun cdv A outer s H vs Q E hr h => ?_)
  · obtain ⟨p, dx, i, fs, rfl, _⟩ := h
    rfl
  · obtain ⟨p, dx, i, fs, rfl, hi, hp, k⟩ := h
    refine ⟨_, ((pss_cons (ps_if (PW.pt (pw_or (pt_not (pt_val (pe_callB call_isi (by rfl) T.z_isinstance (by decide +kernel) (pa_cons (pv 0) (pa_cons (pe_glob (v := .ref a.cPerson) (by rfl) T.gcPerson rfl) pa_nil))))) (pw_or1 (pt_cmpR op_ne (pe_callB call_isi (by rfl) T.z_isinstance (by decide +kernel) (pa_cons (pv 0) (pa_cons (pe_glob (v := .ref a.cKnower) (by rfl) T.gcKnower rfl) pa_nil))) (pe_or (pe_cmpR op_eq (pv 1) pe_int (nomark _)) (pe_one (pe_cmpR op_eq (pv 1) pe_int (nomark _)))) (nomark _))))) (pss_one (ps_ret pe_bl)) pss_nil)
      (pss_one (ps_ret (pe_and (pe_cmpR op_eq (pe_callB call_isi (by rfl) T.z_isinstance (by decide +kernel) (pa_cons (pv 0) (pa_cons (pe_glob (v := .ref a.cDoubter) (by rfl) T.gcDoubter rfl) pa_nil))) (pe_cmpR op_gt (pv 1) pe_int (nomark _)) (nomark _)) (pe_one (pe_cmpR op_eq (pe_callB call_isi (by rfl) T.z_isinstance (by decide +kernel) (pa_cons (pv 0) (pa_cons (pe_glob (v := .ref a.cKD) (by rfl) T.gcKnowingDoubter rfl) pa_nil))) (pe_cmpR op_eq (pv 1) pe_int (nomark _)) (nomark _)))))))), ?_⟩
    match i, hi with
    | 0, _ =>
      have q0 : ∀ {Q : VK}, Q (.bl true) H → rIsi K [.ref p, .ref a.cPerson] H Q := fun {Q} z => isi_P (i := 0) (j := 0) (Q := Q) T M (by decide) (by decide) hp z
      have q1 : ∀ {Q : VK}, Q (.bl false) H → rIsi K [.ref p, .ref a.cKnower] H Q := fun {Q} z => isi_P (i := 0) (j := 1) (Q := Q) T M (by decide) (by decide) hp z
      have q2 : ∀ {Q : VK}, Q (.bl false) H → rIsi K [.ref p, .ref a.cDoubter] H Q := fun {Q} z => isi_P (i := 0) (j := 2) (Q := Q) T M (by decide) (by decide) hp z
      have q3 : ∀ {Q : VK}, Q (.bl false) H → rIsi K [.ref p, .ref a.cKD] H Q := fun {Q} z => isi_P (i := 0) (j := 3) (Q := Q) T M (by decide) (by decide) hp z
      walk_at "go"
      refine q0 ?_
      walk_at "go"
      refine q1 ?_
      walk_at "go"
      refine q2 ?_
      walk_at "go"
      refine q3 ?_
      walk_at "go"
      exact k
    | 1, _ =>
      have q0 : ∀ {Q : VK}, Q (.bl true) H → rIsi K [.ref p, .ref a.cPerson] H Q := fun {Q} z => isi_P (i := 1) (j := 0) (Q := Q) T M (by decide) (by decide) hp z
      have q1 : ∀ {Q : VK}, Q (.bl true) H → rIsi K [.ref p, .ref a.cKnower] H Q := fun {Q} z => isi_P (i := 1) (j := 1) (Q := Q) T M (by decide) (by decide) hp z
      have q2 : ∀ {Q : VK}, Q (.bl false) H → rIsi K [.ref p, .ref a.cDoubter] H Q := fun {Q} z => isi_P (i := 1) (j := 2) (Q := Q) T M (by decide) (by decide) hp z
      have q3 : ∀ {Q : VK}, Q (.bl false) H → rIsi K [.ref p, .ref a.cKD] H Q := fun {Q} z => isi_P (i := 1) (j := 3) (Q := Q) T M (by decide) (by decide) hp z
      walk_at "go"
      refine q0 ?_
      walk_at "go"
      refine q1 ?_
      walk_at "go"
      refine q2 ?_
      walk_at "go"
      refine q3 ?_
      walk_at "go"
      exact k
    | 2, _ =>
      have q0 : ∀ {Q : VK}, Q (.bl true) H → rIsi K [.ref p, .ref a.cPerson] H Q := fun {Q} z => isi_P (i := 2) (j := 0) (Q := Q) T M (by decide) (by decide) hp z
      have q1 : ∀ {Q : VK}, Q (.bl false) H → rIsi K [.ref p, .ref a.cKnower] H Q := fun {Q} z => isi_P (i := 2) (j := 1) (Q := Q) T M (by decide) (by decide) hp z
      have q2 : ∀ {Q : VK}, Q (.bl true) H → rIsi K [.ref p, .ref a.cDoubter] H Q := fun {Q} z => isi_P (i := 2) (j := 2) (Q := Q) T M (by decide) (by decide) hp z
      have q3 : ∀ {Q : VK}, Q (.bl false) H → rIsi K [.ref p, .ref a.cKD] H Q := fun {Q} z => isi_P (i := 2) (j := 3) (Q := Q) T M (by decide) (by decide) hp z
      walk_at "go"
      refine q0 ?_
      walk_at "go"
      refine q1 ?_
      walk_at "go"
      refine q2 ?_
      walk_at "go"
      refine q3 ?_
      walk_at "go"
      exact k
    | 3, _ =>
      have q0 : ∀ {Q : VK}, Q (.bl true) H → rIsi K [.ref p, .ref a.cPerson] H Q := fun {Q} z => isi_P (i := 3) (j := 0) (Q := Q) T M (by decide) (by decide) hp z
      have q1 : ∀ {Q : VK}, Q (.bl true) H → rIsi K [.ref p, .ref a.cKnower] H Q := fun {Q} z => isi_P (i := 3) (j := 1) (Q := Q) T M (by decide) (by decide) hp z
      have q2 : ∀ {Q : VK}, Q (.bl true) H → rIsi K [.ref p, .ref a.cDoubter] H Q := fun {Q} z => isi_P (i := 3) (j := 2) (Q := Q) T M (by decide) (by decide) hp z
      have q3 : ∀ {Q : VK}, Q (.bl true) H → rIsi K [.ref p, .ref a.cKD] H Q := fun {Q} z => isi_P (i := 3) (j := 3) (Q := Q) T M (by decide) (by decide) hp z
      walk_at "go"
      refine q0 ?_
      walk_at "go"
      refine q1 ?_
      walk_at "go"
      refine q2 ?_
      walk_at "go"
      refine q3 ?_
      walk_at "go"
      exact k
    | i + 4, h => omega
end
end
section
set_option Elab.async false
set_option linter.all false
set_option maxRecDepth 100000
set_option maxHeartbeats 4000000
open PySem PySem.Spec PyProof.Rows L2 NSet

local macro_rules | `(tactic| walk_at "side") => `(tactic| exact .inl (by assumption))
local macro_rules | `(tactic| walk_at "go1") => `(tactic| (with_reducible refine iGTup (by assumption) rfl ?_))
local macro_rules | `(tactic| walk_at "go1") => `(tactic| (with_reducible refine iGCons ?_))
local macro_rules | `(tactic| walk_at "go1") => `(tactic| (with_reducible refine iGNil ?_))
local macro_rules | `(tactic| walk_at "go1") => `(tactic| (with_reducible refine iMakeV ?_))
local macro_rules | `(tactic| walk_at "go1") => `(tactic| (with_reducible refine iMakeD ?_))
local macro_rules | `(tactic| walk_at "go1") => `(tactic| (with_reducible refine iLc2S ?_))
local macro_rules | `(tactic| walk_at "go1") => `(tactic| (with_reducible refine iLc2L ?_))
local macro_rules | `(tactic| walk_at "go1") => `(tactic| (with_reducible refine iIStr ?_))
local macro_rules | `(tactic| walk_at "go1") => `(tactic| (with_reducible refine iIxI ?_))
local macro_rules | `(tactic| walk_at "go1") => `(tactic| (with_reducible refine iCMeth ?_))

section
variable {P : Program} {w : World} {K : PySem.W.Frag} {mg : Str → Option Value} {base : Heap} {a : Ad} {d : Fd}
/-! k23: _law_said -/
theorem iJoinS2 {K : PySem.W.Frag} {p : Addr} {l : List Nat} {H : Hp} {R : Str → List Str → Prop} (hp : H p = some (.lst (l.map fun c => V.str (S [c])))) (hl : l.length ≤ 4000) (h : R (S []) (l.map fun c => S [c])) :
    ∃ (a : Str) (q : Addr) (ys : List Str), V.str (S []) = .str a ∧ [V.ref p] = [.ref q] ∧ (SqL K H q (ys.map V.str) ∨ SqT K H q (ys.map V.str)) ∧ (ys.map (·.length)).sum + ys.length * a.length ≤ 16777216 ∧ R a ys := by
  refine ⟨S [], p, l.map fun c => S [c], rfl, rfl, .inl (SqL.of ?_), (join_S hl).1, h⟩
  rw [List.map_map]
  exact hp
local macro_rules | `(tactic| walk_at "go1") => `(tactic| ((with_reducible apply iJoinS2); (walk_at "lk"); (walk_at "num"); (rw [join_signs])))
def toldL (i : Nat) (sg he : List Nat) (sa : List (List Nat)) (kn : List Nat) (c : Nat) : List Nat := if i % 2 = 1 ∧ c ∈ kn then [c] else if i ≥ 2 then sayC sg sa (hearC sg he c) ++ [c] else sayC sg sa (hearC sg he c)
theorem row_told {i : Nat} {sg he : List Nat} {sa : List (List Nat)} {kn : List Nat} (hsg : SgOk sg) (hd : DatOk sg he sa) {c : Nat} (hc : c ∈ sg) : (sg.filter fun o => decide (o ∈ toldL i sg he sa kn c)) = saidL i sg he sa kn c := by
  have hm : ∀ x, x ∈ saidL i sg he sa kn c ↔ x ∈ toldL i sg he sa kn c := fun x => by
    unfold saidL knowL gueL toldL said0
    by_cases h1 : i % 2 = 1
    · by_cases h2 : c ∈ kn
      · simp [h1, h2]
      · by_cases h3 : 2 ≤ i
        · simp [h1, h2, h3, TSet.mem_ord]
        · simp [h1, h2, h3, TSet.mem_ord]
    · by_cases h3 : 2 ≤ i
      · simp [h1, h3, TSet.mem_ord]
      · simp [h1, h3, TSet.mem_ord]
  have ha : Asc (saidL i sg he sa kn c) := by
    unfold saidL knowL gueL said0
    split
    · split
      · exact List.pairwise_singleton _ _
      · split
        · exact TSet.ord_asc _
        · exact TSet.ord_asc _
    · split
      · exact TSet.ord_asc _
      · exact TSet.ord_asc _
  refine uniqA (hsg.a.sublist List.filter_sublist) ha fun x => ?_
  rw [List.mem_filter, hm x]
  constructor
  · rintro ⟨_, h⟩
    simpa using h
  · intro h
    exact ⟨(said_ok hd hc).2 x ((hm x).mpr h), by simpa using h⟩
def rowsS (i : Nat) (sg he : List Nat) (sa : List (List Nat)) (kn l : List Nat) : List V := l.map fun c => V.str (S (saidL i sg he sa kn c))
def spRows : Sp := fun vs H Q _ => ∃ (sl : Addr) (i : Nat) (sg he kn : List Nat) (sa : List (List Nat)), vs = [.str (S sg), .int (i : Nat), .str (S he), .ref sl, .str (S kn)] ∧ i < 4 ∧ SgOk sg ∧ H sl = some (.lst (sa.map fun t => V.str (S t))) ∧ DatOk sg he sa ∧ kn.length ≤ 100 ∧
  ∀ p H', H p = none → Same H H' → H' p = some (.lst (rowsS i sg he sa kn sg)) → Q (.ref p) H'
theorem n1_idx {sg : List Nat} (hn : sg.Nodup) {c : Nat} (hc : c ∈ sg) : n1 sg c = sg.idxOf c := by
  have h1 := n1_at hc
  have h2 := idx_at hc
  exact (List.getElem?_inj (List.getElem?_eq_some_iff.mp h1).1 hn).mp (h1.trans h2.symm)
theorem scRows : FnScope ["_law_signs_here", "_law_kind", "_law_hears", "_law_says", "_law_knows", "_law_rows", "_law_k", "_law_told", "_law_out"] ["_law_signs_here", "_law_kind", "_law_hears", "_law_says", "_law_knows"] (defScope sRows) := ⟨rfl, rfl, rfl, by decide +kernel, rfl, by decide +kernel, by decide +kernel⟩
theorem ok_rows (T : Fns K mg a d) : FnOk P w K mg base CX0 1 a.aRows d.dRows ["_law_signs_here", "_law_kind", "_law_hears", "_law_says", "_law_knows"] spRows := by
  refine T.FRows.ok scRows (fun vs H Q E h => ?_) (fun cdv A outer s H vs Q E hr h => ?_)
  · obtain ⟨sl, i, sg, he, kn, sa, rfl, _⟩ := h
    rfl
  · obtain ⟨sl, i, sg, he, kn, sa, rfl, hi, hsg, hsl, hd, hkn, k⟩ := h
    have hl5 := hsg.l
    have lh := hd.lh
    have ls := hd.ls
    refine ⟨_, ((pss_cons (ps_set (i := 5) scRows.nd rfl (Or.inl rfl) (pe_lst pa_nil))
      (pss_cons (ps_for PassesOwn.never rfl (pi_range1 (by rfl) T.z_range (pa_cons (pe_callB call_lenS (by rfl) T.z_len (by decide +kernel) (pa_cons (pv 0) pa_nil)) pa_nil)) (pg_name (i := 6) scRows.nd rfl (Or.inl rfl)) (pss_cons (ps_set (i := 7) scRows.nd rfl (Or.inr rfl) (pe_ix (r := rIxL K) ix_list (pv 3) (pe_m1 F.slot_str_find F.type_str_find mt_findS (pv 0) (pe_ix ix_str (pv 2) (pv 6) (fun _ _ => rfl))) (fun _ _ => rfl)))
      (pss_cons (ps_if (pt_cmpR op_gt (pv 1) pe_int (nomark _)) (pss_one (ps_set (i := 7) scRows.nd rfl (Or.inr rfl) (pe_op op_addS (pv 7) (pe_ix ix_str (pv 0) (pv 6) (fun _ _ => rfl))))) pss_nil)
      (pss_cons (ps_if (PW.pt (pw_and (PW.pt (pw_or (pt_cmpR op_eq (pv 1) pe_int (nomark _)) (pw_or1 (pt_cmpR op_eq (pv 1) pe_int (nomark _))))) (pw_and1 (pt_cmpR op_inS (pe_ix ix_str (pv 0) (pv 6) (fun _ _ => rfl)) (pv 4) rfl)))) (pss_one (ps_set (i := 7) scRows.nd rfl (Or.inr rfl) (pe_ix ix_str (pv 0) (pv 6) (fun _ _ => rfl)))) pss_nil)
      (pss_one (ps_expr (pe_bm PySem.F.plainAttrs_list PySem.F.slot_list_append PySem.F.type_list_append mt_append (pv 5) (pa_cons (pe_join (pe_strS (l := []) (by decide +kernel)) (pe_lc (own := [("_law_out", 8)]) (g := gName 8) (by rfl) scRows.nd (pi_str (pv 0)) (blkOk_by (own := [("_law_out", 8)]) (N := ["_law_signs_here", "_law_kind", "_law_hears", "_law_says", "_law_knows", "_law_rows", "_law_k", "_law_told", "_law_out"]) (sc := defScope sRows) (by decide +kernel)) (fun _ _ _ _ _ => pg_name (i := 8) scRows.nd rfl (Or.inl rfl)) (fun _ _ _ _ _ => (pts_one (pt_cmpR op_inS (pv 8) (pv 7) rfl))) (fun _ _ _ _ _ => (pv 8)))) pa_nil))))))))
      (pss_one (ps_ret (pv 5)))))), ?_⟩
    walk_at "go"
    rename_i p hpn
    refine for_R (fun i2 σ H' => Stop (∃ (v6 v7 v8 : Option V), σ = [some (.str (S sg)), some (.int (i : Nat)), some (.str (S he)), some (.ref sl), some (.str (S kn)), some (.ref p), v6, v7, v8] ∧ H' p = some (.lst (rowsS i sg he sa kn (sg.take i2))) ∧ Same H H')) ⟨none, none, none, rfl, upd_same, Same.upd_new hpn⟩ ?_ ?_
    · rintro i2 σ H1 hi2 ⟨v6, v7, v8, rfl, hp1, s1⟩
      obtain ⟨c, hc⟩ : ∃ c, sg[i2]? = some c := ⟨_, List.getElem?_eq_getElem hi2⟩
      have hcm := List.mem_of_getElem? hc
      have hix : sg.idxOf c = i2 := (List.getElem?_inj (List.getElem?_eq_some_iff.mp (idx_at hcm)).1 hsg.a.nd).mp ((idx_at hcm).trans hc.symm)
      have hh : he[i2]? = some (hearC sg he c) := by
        have := hear_at hcm lh
        rw [hix] at this
        exact this
      have hhm := hd.hear hcm
      have hn1 := n1_idx hsg.a.nd hhm
      have hs : (sa.map fun t => V.str (S t))[n1 sg (hearC sg he c)]? = some (V.str (S (sayC sg sa (hearC sg he c)))) := by
        rw [hn1, List.getElem?_map, say_at hhm ls]
        rfl
      have hsl1 := s1 _ _ hsl
      have ij : (0 : Int) + (i2 : Int) = (i2 : Int) := Int.zero_add _
      rw [ij]
      have hst := hd.ms _ (hd.say' hhm)
      have hsz : (sayC sg sa (hearC sg he c)).length + [c].length ≤ 100000 := by rw [List.length_singleton]; omega
      match i, hi with
      | 0, _ =>
        walk_at "go"
        rename_i D hD
        have etd : toldL 0 sg he sa kn c = (sayC sg sa (hearC sg he c)) := by
          simp [toldL]
        have erow := row_told (i := 0) (kn := kn) hsg hd hcm
        rw [etd] at erow
        have Dp : D ≠ p := fun z => by rw [z, hp1] at hD; cases hD
        refine lcg_S (fun j H' => Stop (H' D = some (.lst (((sg.take j).filter fun o => decide (o ∈ (sayC sg sa (hearC sg he c)))).map fun c => V.str (S [c]))) ∧ Same H1 H')) ⟨upd_same, Same.upd_new hD⟩ (fun _ => rfl) (fun j o H' ho hP2 => ?_) (fun H' hP2 => ?_)
        · obtain ⟨h8, s8⟩ := hP2
          have hjl := (List.getElem?_eq_some_iff.mp ho).1
          have hfl := List.length_filter_le (fun o => decide (o ∈ (sayC sg sa (hearC sg he c)))) (sg.take j)
          rw [List.length_take] at hfl
          by_cases hcs : o ∈ (sayC sg sa (hearC sg he c))
          · walk_at "go"
            all_goals first | exact absurd hcs (by assumption) | skip
            refine ⟨by rw [List.length_map, sizeLine_eq]; omega, ?_, fun b o hb => ?_⟩
            · rw [upd_same, List.take_add_one, ho, List.filter_append, show List.filter (fun o => decide (o ∈ (sayC sg sa (hearC sg he c)))) (some o).toList = [o] from by simp only [Option.toList_some, List.filter_cons, decide_eq_true hcs, if_true, List.filter_nil], List.map_append]
              rfl
            · rw [upd_ne (fun z => by rw [z, hD] at hb; cases hb)]
              exact s8 _ _ hb
          · walk_at "go"
            all_goals first | exact absurd (by assumption) hcs | skip
            refine ⟨?_, s8⟩
            rw [h8, List.take_add_one, ho, List.filter_append, show List.filter (fun o => decide (o ∈ (sayC sg sa (hearC sg he c)))) (some o).toList = [] from by simp only [Option.toList_some, List.filter_cons, decide_eq_false hcs, Bool.false_eq_true, if_false, List.filter_nil], List.append_nil]
        · obtain ⟨h8, s8⟩ := hP2
          rw [List.take_length, erow] at h8
          obtain ⟨hsl8, _⟩ := said_ok (i := 0) (kn := kn) hd hcm
          have hp8 := s8 _ _ hp1
          have hlr : (rowsS 0 sg he sa kn (sg.take i2)).length < sizeLine := by
            unfold rowsS
            rw [List.length_map, List.length_take, sizeLine_eq]
            omega
          have hstep : rowsS 0 sg he sa kn (sg.take (i2 + 1)) = rowsS 0 sg he sa kn (sg.take i2) ++ [V.str (S (saidL 0 sg he sa kn c))] := by
            unfold rowsS
            rw [List.take_add_one, hc, List.map_append]
            rfl
          generalize hG : saidL 0 sg he sa kn c = G at h8 hsl8 hstep
          walk_at "go"
          refine ⟨_, _, _, rfl, rfl, hp8, hlr, _, _, _, rfl, ?_, fun b o hb => ?_⟩
          · rw [upd_same, hstep]
          · rw [upd_ne (fun z => by rw [z, hpn] at hb; cases hb)]
            exact s8 _ _ (s1 _ _ hb)
      | 1, _ =>
        by_cases hck : c ∈ kn
        · have hckd := hck
          walk_at "go"
          rename_i D hD
          have etd : toldL 1 sg he sa kn c = [c] := by
            simp [toldL, hck]
          have erow := row_told (i := 1) (kn := kn) hsg hd hcm
          rw [etd] at erow
          have Dp : D ≠ p := fun z => by rw [z, hp1] at hD; cases hD
          refine lcg_S (fun j H' => Stop (H' D = some (.lst (((sg.take j).filter fun o => decide (o ∈ [c])).map fun c => V.str (S [c]))) ∧ Same H1 H')) ⟨upd_same, Same.upd_new hD⟩ (fun _ => rfl) (fun j o H' ho hP2 => ?_) (fun H' hP2 => ?_)
          · obtain ⟨h8, s8⟩ := hP2
            have hjl := (List.getElem?_eq_some_iff.mp ho).1
            have hfl := List.length_filter_le (fun o => decide (o ∈ [c])) (sg.take j)
            rw [List.length_take] at hfl
            by_cases hcs : o ∈ [c]
            · walk_at "go"
              all_goals first | exact absurd hcs (by assumption) | skip
              refine ⟨by rw [List.length_map, sizeLine_eq]; omega, ?_, fun b o hb => ?_⟩
              · rw [upd_same, List.take_add_one, ho, List.filter_append, show List.filter (fun o => decide (o ∈ [c])) (some o).toList = [o] from by simp only [Option.toList_some, List.filter_cons, decide_eq_true hcs, if_true, List.filter_nil], List.map_append]
                rfl
              · rw [upd_ne (fun z => by rw [z, hD] at hb; cases hb)]
                exact s8 _ _ hb
            · walk_at "go"
              all_goals first | exact absurd (by assumption) hcs | skip
              refine ⟨?_, s8⟩
              rw [h8, List.take_add_one, ho, List.filter_append, show List.filter (fun o => decide (o ∈ [c])) (some o).toList = [] from by simp only [Option.toList_some, List.filter_cons, decide_eq_false hcs, Bool.false_eq_true, if_false, List.filter_nil], List.append_nil]
          · obtain ⟨h8, s8⟩ := hP2
            rw [List.take_length, erow] at h8
            obtain ⟨hsl8, _⟩ := said_ok (i := 1) (kn := kn) hd hcm
            have hp8 := s8 _ _ hp1
            have hlr : (rowsS 1 sg he sa kn (sg.take i2)).length < sizeLine := by
              unfold rowsS
              rw [List.length_map, List.length_take, sizeLine_eq]
              omega
            have hstep : rowsS 1 sg he sa kn (sg.take (i2 + 1)) = rowsS 1 sg he sa kn (sg.take i2) ++ [V.str (S (saidL 1 sg he sa kn c))] := by
              unfold rowsS
              rw [List.take_add_one, hc, List.map_append]
              rfl
            generalize hG : saidL 1 sg he sa kn c = G at h8 hsl8 hstep
            walk_at "go"
            refine ⟨_, _, _, rfl, rfl, hp8, hlr, _, _, _, rfl, ?_, fun b o hb => ?_⟩
            · rw [upd_same, hstep]
            · rw [upd_ne (fun z => by rw [z, hpn] at hb; cases hb)]
              exact s8 _ _ (s1 _ _ hb)
        · have hckd := hck
          walk_at "go"
          rename_i D hD
          have etd : toldL 1 sg he sa kn c = (sayC sg sa (hearC sg he c)) := by
            simp [toldL, hck]
          have erow := row_told (i := 1) (kn := kn) hsg hd hcm
          rw [etd] at erow
          have Dp : D ≠ p := fun z => by rw [z, hp1] at hD; cases hD
          refine lcg_S (fun j H' => Stop (H' D = some (.lst (((sg.take j).filter fun o => decide (o ∈ (sayC sg sa (hearC sg he c)))).map fun c => V.str (S [c]))) ∧ Same H1 H')) ⟨upd_same, Same.upd_new hD⟩ (fun _ => rfl) (fun j o H' ho hP2 => ?_) (fun H' hP2 => ?_)
          · obtain ⟨h8, s8⟩ := hP2
            have hjl := (List.getElem?_eq_some_iff.mp ho).1
            have hfl := List.length_filter_le (fun o => decide (o ∈ (sayC sg sa (hearC sg he c)))) (sg.take j)
            rw [List.length_take] at hfl
            by_cases hcs : o ∈ (sayC sg sa (hearC sg he c))
            · walk_at "go"
              all_goals first | exact absurd hcs (by assumption) | skip
              refine ⟨by rw [List.length_map, sizeLine_eq]; omega, ?_, fun b o hb => ?_⟩
              · rw [upd_same, List.take_add_one, ho, List.filter_append, show List.filter (fun o => decide (o ∈ (sayC sg sa (hearC sg he c)))) (some o).toList = [o] from by simp only [Option.toList_some, List.filter_cons, decide_eq_true hcs, if_true, List.filter_nil], List.map_append]
                rfl
              · rw [upd_ne (fun z => by rw [z, hD] at hb; cases hb)]
                exact s8 _ _ hb
            · walk_at "go"
              all_goals first | exact absurd (by assumption) hcs | skip
              refine ⟨?_, s8⟩
              rw [h8, List.take_add_one, ho, List.filter_append, show List.filter (fun o => decide (o ∈ (sayC sg sa (hearC sg he c)))) (some o).toList = [] from by simp only [Option.toList_some, List.filter_cons, decide_eq_false hcs, Bool.false_eq_true, if_false, List.filter_nil], List.append_nil]
          · obtain ⟨h8, s8⟩ := hP2
            rw [List.take_length, erow] at h8
            obtain ⟨hsl8, _⟩ := said_ok (i := 1) (kn := kn) hd hcm
            have hp8 := s8 _ _ hp1
            have hlr : (rowsS 1 sg he sa kn (sg.take i2)).length < sizeLine := by
              unfold rowsS
              rw [List.length_map, List.length_take, sizeLine_eq]
              omega
            have hstep : rowsS 1 sg he sa kn (sg.take (i2 + 1)) = rowsS 1 sg he sa kn (sg.take i2) ++ [V.str (S (saidL 1 sg he sa kn c))] := by
              unfold rowsS
              rw [List.take_add_one, hc, List.map_append]
              rfl
            generalize hG : saidL 1 sg he sa kn c = G at h8 hsl8 hstep
            walk_at "go"
            refine ⟨_, _, _, rfl, rfl, hp8, hlr, _, _, _, rfl, ?_, fun b o hb => ?_⟩
            · rw [upd_same, hstep]
            · rw [upd_ne (fun z => by rw [z, hpn] at hb; cases hb)]
              exact s8 _ _ (s1 _ _ hb)
      | 2, _ =>
        walk_at "go"
        rename_i D hD
        have etd : toldL 2 sg he sa kn c = (sayC sg sa (hearC sg he c) ++ [c]) := by
          simp [toldL]
        have erow := row_told (i := 2) (kn := kn) hsg hd hcm
        rw [etd] at erow
        have Dp : D ≠ p := fun z => by rw [z, hp1] at hD; cases hD
        refine lcg_S (fun j H' => Stop (H' D = some (.lst (((sg.take j).filter fun o => decide (o ∈ (sayC sg sa (hearC sg he c) ++ [c]))).map fun c => V.str (S [c]))) ∧ Same H1 H')) ⟨upd_same, Same.upd_new hD⟩ (fun _ => rfl) (fun j o H' ho hP2 => ?_) (fun H' hP2 => ?_)
        · obtain ⟨h8, s8⟩ := hP2
          have hjl := (List.getElem?_eq_some_iff.mp ho).1
          have hfl := List.length_filter_le (fun o => decide (o ∈ (sayC sg sa (hearC sg he c) ++ [c]))) (sg.take j)
          rw [List.length_take] at hfl
          by_cases hcs : o ∈ (sayC sg sa (hearC sg he c) ++ [c])
          · walk_at "go"
            all_goals first | exact absurd hcs (by assumption) | skip
            refine ⟨by rw [List.length_map, sizeLine_eq]; omega, ?_, fun b o hb => ?_⟩
            · rw [upd_same, List.take_add_one, ho, List.filter_append, show List.filter (fun o => decide (o ∈ (sayC sg sa (hearC sg he c) ++ [c]))) (some o).toList = [o] from by simp only [Option.toList_some, List.filter_cons, decide_eq_true hcs, if_true, List.filter_nil], List.map_append]
              rfl
            · rw [upd_ne (fun z => by rw [z, hD] at hb; cases hb)]
              exact s8 _ _ hb
          · walk_at "go"
            all_goals first | exact absurd (by assumption) hcs | skip
            refine ⟨?_, s8⟩
            rw [h8, List.take_add_one, ho, List.filter_append, show List.filter (fun o => decide (o ∈ (sayC sg sa (hearC sg he c) ++ [c]))) (some o).toList = [] from by simp only [Option.toList_some, List.filter_cons, decide_eq_false hcs, Bool.false_eq_true, if_false, List.filter_nil], List.append_nil]
        · obtain ⟨h8, s8⟩ := hP2
          rw [List.take_length, erow] at h8
          obtain ⟨hsl8, _⟩ := said_ok (i := 2) (kn := kn) hd hcm
          have hp8 := s8 _ _ hp1
          have hlr : (rowsS 2 sg he sa kn (sg.take i2)).length < sizeLine := by
            unfold rowsS
            rw [List.length_map, List.length_take, sizeLine_eq]
            omega
          have hstep : rowsS 2 sg he sa kn (sg.take (i2 + 1)) = rowsS 2 sg he sa kn (sg.take i2) ++ [V.str (S (saidL 2 sg he sa kn c))] := by
            unfold rowsS
            rw [List.take_add_one, hc, List.map_append]
            rfl
          generalize hG : saidL 2 sg he sa kn c = G at h8 hsl8 hstep
          walk_at "go"
          refine ⟨_, _, _, rfl, rfl, hp8, hlr, _, _, _, rfl, ?_, fun b o hb => ?_⟩
          · rw [upd_same, hstep]
          · rw [upd_ne (fun z => by rw [z, hpn] at hb; cases hb)]
            exact s8 _ _ (s1 _ _ hb)
      | 3, _ =>
        by_cases hck : c ∈ kn
        · have hckd := hck
          walk_at "go"
          rename_i D hD
          have etd : toldL 3 sg he sa kn c = [c] := by
            simp [toldL, hck]
          have erow := row_told (i := 3) (kn := kn) hsg hd hcm
          rw [etd] at erow
          have Dp : D ≠ p := fun z => by rw [z, hp1] at hD; cases hD
          refine lcg_S (fun j H' => Stop (H' D = some (.lst (((sg.take j).filter fun o => decide (o ∈ [c])).map fun c => V.str (S [c]))) ∧ Same H1 H')) ⟨upd_same, Same.upd_new hD⟩ (fun _ => rfl) (fun j o H' ho hP2 => ?_) (fun H' hP2 => ?_)
          · obtain ⟨h8, s8⟩ := hP2
            have hjl := (List.getElem?_eq_some_iff.mp ho).1
            have hfl := List.length_filter_le (fun o => decide (o ∈ [c])) (sg.take j)
            rw [List.length_take] at hfl
            by_cases hcs : o ∈ [c]
            · walk_at "go"
              all_goals first | exact absurd hcs (by assumption) | skip
              refine ⟨by rw [List.length_map, sizeLine_eq]; omega, ?_, fun b o hb => ?_⟩
              · rw [upd_same, List.take_add_one, ho, List.filter_append, show List.filter (fun o => decide (o ∈ [c])) (some o).toList = [o] from by simp only [Option.toList_some, List.filter_cons, decide_eq_true hcs, if_true, List.filter_nil], List.map_append]
                rfl
              · rw [upd_ne (fun z => by rw [z, hD] at hb; cases hb)]
                exact s8 _ _ hb
            · walk_at "go"
              all_goals first | exact absurd (by assumption) hcs | skip
              refine ⟨?_, s8⟩
              rw [h8, List.take_add_one, ho, List.filter_append, show List.filter (fun o => decide (o ∈ [c])) (some o).toList = [] from by simp only [Option.toList_some, List.filter_cons, decide_eq_false hcs, Bool.false_eq_true, if_false, List.filter_nil], List.append_nil]
          · obtain ⟨h8, s8⟩ := hP2
            rw [List.take_length, erow] at h8
            obtain ⟨hsl8, _⟩ := said_ok (i := 3) (kn := kn) hd hcm
            have hp8 := s8 _ _ hp1
            have hlr : (rowsS 3 sg he sa kn (sg.take i2)).length < sizeLine := by
              unfold rowsS
              rw [List.length_map, List.length_take, sizeLine_eq]
              omega
            have hstep : rowsS 3 sg he sa kn (sg.take (i2 + 1)) = rowsS 3 sg he sa kn (sg.take i2) ++ [V.str (S (saidL 3 sg he sa kn c))] := by
              unfold rowsS
              rw [List.take_add_one, hc, List.map_append]
              rfl
            generalize hG : saidL 3 sg he sa kn c = G at h8 hsl8 hstep
            walk_at "go"
            refine ⟨_, _, _, rfl, rfl, hp8, hlr, _, _, _, rfl, ?_, fun b o hb => ?_⟩
            · rw [upd_same, hstep]
            · rw [upd_ne (fun z => by rw [z, hpn] at hb; cases hb)]
              exact s8 _ _ (s1 _ _ hb)
        · have hckd := hck
          walk_at "go"
          rename_i D hD
          have etd : toldL 3 sg he sa kn c = (sayC sg sa (hearC sg he c) ++ [c]) := by
            simp [toldL, hck]
          have erow := row_told (i := 3) (kn := kn) hsg hd hcm
          rw [etd] at erow
          have Dp : D ≠ p := fun z => by rw [z, hp1] at hD; cases hD
          refine lcg_S (fun j H' => Stop (H' D = some (.lst (((sg.take j).filter fun o => decide (o ∈ (sayC sg sa (hearC sg he c) ++ [c]))).map fun c => V.str (S [c]))) ∧ Same H1 H')) ⟨upd_same, Same.upd_new hD⟩ (fun _ => rfl) (fun j o H' ho hP2 => ?_) (fun H' hP2 => ?_)
          · obtain ⟨h8, s8⟩ := hP2
            have hjl := (List.getElem?_eq_some_iff.mp ho).1
            have hfl := List.length_filter_le (fun o => decide (o ∈ (sayC sg sa (hearC sg he c) ++ [c]))) (sg.take j)
            rw [List.length_take] at hfl
            by_cases hcs : o ∈ (sayC sg sa (hearC sg he c) ++ [c])
            · walk_at "go"
              all_goals first | exact absurd hcs (by assumption) | skip
              refine ⟨by rw [List.length_map, sizeLine_eq]; omega, ?_, fun b o hb => ?_⟩
              · rw [upd_same, List.take_add_one, ho, List.filter_append, show List.filter (fun o => decide (o ∈ (sayC sg sa (hearC sg he c) ++ [c]))) (some o).toList = [o] from by simp only [Option.toList_some, List.filter_cons, decide_eq_true hcs, if_true, List.filter_nil], List.map_append]
                rfl
              · rw [upd_ne (fun z => by rw [z, hD] at hb; cases hb)]
                exact s8 _ _ hb
            · walk_at "go"
              all_goals first | exact absurd (by assumption) hcs | skip
              refine ⟨?_, s8⟩
              rw [h8, List.take_add_one, ho, List.filter_append, show List.filter (fun o => decide (o ∈ (sayC sg sa (hearC sg he c) ++ [c]))) (some o).toList = [] from by simp only [Option.toList_some, List.filter_cons, decide_eq_false hcs, Bool.false_eq_true, if_false, List.filter_nil], List.append_nil]
          · obtain ⟨h8, s8⟩ := hP2
            rw [List.take_length, erow] at h8
            obtain ⟨hsl8, _⟩ := said_ok (i := 3) (kn := kn) hd hcm
            have hp8 := s8 _ _ hp1
            have hlr : (rowsS 3 sg he sa kn (sg.take i2)).length < sizeLine := by
              unfold rowsS
              rw [List.length_map, List.length_take, sizeLine_eq]
              omega
            have hstep : rowsS 3 sg he sa kn (sg.take (i2 + 1)) = rowsS 3 sg he sa kn (sg.take i2) ++ [V.str (S (saidL 3 sg he sa kn c))] := by
              unfold rowsS
              rw [List.take_add_one, hc, List.map_append]
              rfl
            generalize hG : saidL 3 sg he sa kn c = G at h8 hsl8 hstep
            walk_at "go"
            refine ⟨_, _, _, rfl, rfl, hp8, hlr, _, _, _, rfl, ?_, fun b o hb => ?_⟩
            · rw [upd_same, hstep]
            · rw [upd_ne (fun z => by rw [z, hpn] at hb; cases hb)]
              exact s8 _ _ (s1 _ _ hb)
      | i + 4, h => omega
    · rintro σ H1 ⟨v6, v7, v8, rfl, hp1, s1⟩
      rw [Int.toNat_natCast, List.take_length] at hp1
      walk_at "go"
      exact k p H1 hpn s1 hp1
end
end
section
set_option Elab.async false
set_option linter.all false
set_option maxRecDepth 100000
set_option maxHeartbeats 4000000
open PySem PySem.Spec PyProof.Rows L2 NSet

local macro_rules | `(tactic| walk_at "side") => `(tactic| exact .inl (by assumption))
local macro_rules | `(tactic| walk_at "go1") => `(tactic| (with_reducible refine iGTup (by assumption) rfl ?_))
local macro_rules | `(tactic| walk_at "go1") => `(tactic| (with_reducible refine iGCons ?_))
local macro_rules | `(tactic| walk_at "go1") => `(tactic| (with_reducible refine iGNil ?_))
local macro_rules | `(tactic| walk_at "go1") => `(tactic| (with_reducible refine iMakeV ?_))
local macro_rules | `(tactic| walk_at "go1") => `(tactic| (with_reducible refine iMakeD ?_))
local macro_rules | `(tactic| walk_at "go1") => `(tactic| (with_reducible refine iLc2S ?_))
local macro_rules | `(tactic| walk_at "go1") => `(tactic| (with_reducible refine iLc2L ?_))
local macro_rules | `(tactic| walk_at "go1") => `(tactic| (with_reducible refine iIStr ?_))
local macro_rules | `(tactic| walk_at "go1") => `(tactic| (with_reducible refine iIxI ?_))
local macro_rules | `(tactic| walk_at "go1") => `(tactic| (with_reducible refine iCMeth ?_))

section
variable {P : Program} {w : World} {K : PySem.W.Frag} {mg : Str → Option Value} {base : Heap} {a : Ad} {d : Fd}
/-! k23: _law_is (of k22) -/
def spIs (a : Ad) : Sp := fun vs H Q _ => ∃ (t al al2 p : Addr) (sg W : List Nat) (R : Rel), vs = [.ref t, .ref al2, .str (S sg), .ref p] ∧ Tb a H t al sg W R ∧ AlG a.cAlphabet H al2 sg W ∧ SgOk sg ∧ RowAt H p sg R ∧ ∀ H', Same H H' → Q (.bl true) H'
theorem scIs : FnScope ["_law_table", "_law_alphabet", "_law_signs_here", "_law_outs", "_law_rows", "_law_k", "_law_told", "_law_out"] ["_law_table", "_law_alphabet", "_law_signs_here", "_law_outs"] (defScope sIs) := ⟨rfl, rfl, rfl, by decide +kernel, rfl, by decide +kernel, by decide +kernel⟩
theorem ok_is (T : Fns K mg a d) (GAlEq : FnOk P w K mg base CX0 1 a.aAlEq d.dAlEq ["self", "other"] (spEq a.cAlphabet)) : FnOk P w K mg base CX0 5 a.aIs d.dIs ["_law_table", "_law_alphabet", "_law_signs_here", "_law_outs"] (spIs a) := by
  have GTGet := ok_get (P := P) (w := w) (base := base) T
  have GTPairs := ok_pairsN (P := P) (w := w) (base := base) T
  have GTLen := ok_len (P := P) (w := w) (base := base) T
  refine T.FIs.ok scIs (fun vs H Q E h => ?_) (fun cdv A outer s H vs Q E hr h => ?_)
  · obtain ⟨t, al, al2, p, sg, W, R, rfl, _⟩ := h
    rfl
  · obtain ⟨t, al, al2, p, sg, W, R, rfl, hT0, hal2, hsg, hrow, k⟩ := h
    obtain ⟨lp, qs, hT⟩ := id hT0
    obtain ⟨⟨dx, ht⟩, hal, hp, ec⟩ := id hT
    have clT := T.clT
    have nTp := T.nTp
    have nTa := T.nTa
    have hl5 := hsg.l
    refine ⟨_, ((pss_cons (ps_if (PW.pt (pw_or (pt_not (pt_val (pe_callB call_isi (by rfl) T.z_isinstance (by decide +kernel) (pa_cons (pv 0) (pa_cons (pe_glob (v := .ref a.cTable) (by rfl) T.gcTable rfl) pa_nil))))) (pw_or1 (pt_not (pt_cmpR (op_ownI (fun _ _ => rfl) T.mAlEq.at_ T.mAlEq.fn GAlEq (hr.mono (by decide)) T.bAlEq pass0) (pe_fld (pv 0) rfl) (pv 1) (nomark _)))))) (pss_one (ps_ret pe_bl)) pss_nil)
      (pss_cons (ps_set (i := 4) scIs.nd rfl (Or.inl rfl) (pe_lst pa_nil))
      (pss_cons (ps_for PassesOwn.never rfl (pi_range1 (by rfl) T.z_range (pa_cons (pe_callB call_lenS (by rfl) T.z_len (by decide +kernel) (pa_cons (pv 2) pa_nil)) pa_nil)) (pg_name (i := 5) scIs.nd rfl (Or.inr rfl)) (pss_cons (ps_set (i := 6) scIs.nd rfl (Or.inl rfl) (pe_ixI T.mTGet.at_ T.fnTGet T.mTGet.fn (GTGet.raw T.bTGet .nil) (hr.mono (by decide)) (fun σ pins H s e s' => passE pins σ H s e s') (pv 0) (pe_ix ix_str (pv 2) (pv 5) (fun _ _ => rfl)) (fun _ _ => rfl)))
      (pss_cons (ps_if (PW.pt (pw_or (pt_not (pt_val (pe_callB call_isi (by rfl) T.z_isinstance (by decide +kernel) (pa_cons (pv 6) (pa_cons (pe_bltn (v := .ty "str") (by rfl) T.z_str (by decide +kernel) rfl) pa_nil))))) (pw_or1 (pt_cmpR op_ne (pv 6) (pe_ix (r := rIxL K) ix_list (pv 3) (pv 5) (fun _ _ => rfl)) (nomark _))))) (pss_one (ps_ret pe_bl)) pss_nil)
      (pss_one (ps_set (i := 4) scIs.nd rfl (Or.inl rfl) (pe_op op_cat (pv 4) (pe_lc (own := [("_law_out", 7)]) (g := gName 7) (by rfl) scIs.nd (pi_str (pe_ix (r := rIxL K) ix_list (pv 3) (pv 5) (fun _ _ => rfl))) (blkOk_by (own := [("_law_out", 7)]) (N := ["_law_table", "_law_alphabet", "_law_signs_here", "_law_outs", "_law_rows", "_law_k", "_law_told", "_law_out"]) (sc := defScope sIs) (by decide +kernel)) (fun _ _ _ _ _ => pg_name (i := 7) scIs.nd rfl (Or.inl rfl)) (fun _ _ _ _ _ => pts_nil) (fun _ _ _ _ _ => (pe_tup (pa_cons (pe_ix ix_str (pv 2) (pv 5) (fun _ _ => rfl)) (pa_cons (pv 7) pa_nil)))))))))))
      (pss_cons (ps_set (i := 6) scIs.nd rfl (Or.inl rfl) (pe_meth0 (pv 0) T.clT T.mTPairs GTPairs (hr.mono (by decide)) T.bTPairs .nil pass0))
      (pss_one (ps_ret (pe_and (pe_callB call_isi (by rfl) T.z_isinstance (by decide +kernel) (pa_cons (pv 6) (pa_cons (pe_bltn (v := .ty "list") (by rfl) T.z_list (by decide +kernel) rfl) pa_nil))) (pe_and (pe_cmpR (op_eqD hr.units) (pv 6) (pv 4) (nomark _)) (pe_one (pe_cmpR op_eq (pe_callB (call_lenI T.mTLen.at_ T.mTLen.fn (GTLen.raw T.bTLen .nil) (hr.mono (by decide)) pass0) (by rfl) T.z_len (by decide +kernel) (pa_cons (pv 0) pa_nil)) (pe_callB call_len_seq (by rfl) T.z_len (by decide +kernel) (pa_cons (pv 4) pa_nil)) (nomark _)))))))))))), ?_⟩
    walk_at "go"
    refine isi_T T ht ?_
    walk_at "go"
    refine eq_al T.eqA hal hal2 ⟨_, rfl, ?_⟩
    have e : Alike sg W sg W := ⟨rfl, rfl⟩
    rw [decide_eq_true e]
    walk_at "go"
    rename_i r0 hr0
    refine for_R (fun i σ H' => Stop (∃ (pr : Addr) (ns : List (Addr × Nat × Nat)) (v5 v6 v7 : Option V), σ = [some (.ref t), some (.ref al2), some (.str (S sg)), some (.ref p), some (.ref pr), v5, v6, v7] ∧ PrAt H' pr ns ∧ ns.map (·.2) = rowsP sg R (sg.take i) ∧ Same H H')) ⟨r0, [], none, none, none, rfl, ⟨upd_same, fun q hq => nomatch hq⟩, rfl, Same.upd_new hr0⟩ ?_ ?_
    · rintro i σ H5 hi ⟨pr, ns, v5, v6, v7, rfl, hns, ens, s5⟩
      have hi2 : i < sg.length := by simpa using hi
      have hc : sg[i]? = some sg[i] := List.getElem?_eq_getElem hi2
      have hcm := List.getElem_mem hi2
      generalize sg[i] = c at hc hcm
      have ht5 := s5 _ _ ht
      have ij : (0 : Int) + (i : Int) = (i : Int) := Int.zero_add _
      rw [ij]
      have hrow5 : H5 p = some (.lst ((outsL sg R).map fun r => V.str (S r))) := s5 _ _ hrow
      have hoc : (outsL sg R)[i]? = some (sg.filter (R c)) := by unfold outsL; rw [List.getElem?_map, hc]; rfl
      have hov : ((outsL sg R).map fun r => V.str (S r))[i]? = some (V.str (S (sg.filter (R c)))) := by rw [List.getElem?_map, hoc]; rfl
      have hfl := List.length_filter_le (R c) sg
      walk_at "go"
      refine ⟨t, al, c, sg, W, R, rfl, ⟨lp, qs, hT.same s5⟩, hsg, hcm, fun H6 s6 => ?_⟩
      have s06 := Vk.Same.trans s5 s6
      have hrow6 : H6 p = some (.lst ((outsL sg R).map fun r => V.str (S r))) := s06 _ _ hrow
      walk_at "go"
      rename_i D hD
      refine lcg_S (fun j H' => NewP H6 D (((sg.filter (R c)).take j).map fun o => (c, o)) H') (NewP.start hD) (fun _ => rfl) (fun j o H7 ho hP => ?_) (fun H7 hP => ?_)
      · obtain ⟨ms, hms, ems, s7⟩ := id hP
        have hjl := (List.getElem?_eq_some_iff.mp ho).1
        walk_at "go"
        rename_i pp hpp
        exact newp_put (l' := ((sg.filter (R c)).take (j + 1)).map fun o => (c, o)) hms ems s7 hD hpp (by rw [List.length_map, List.length_take]; omega) c o (by
          rw [List.take_add_one, ho, List.map_append]
          rfl)
      · obtain ⟨ms, hms, ems, s7⟩ := hP
        rw [List.take_length] at ems
        have hns7 := hns.same (Vk.Same.trans s6 s7)
        have l1 : ns.length ≤ 25 := by
          have := congrArg List.length ens
          rw [List.length_map] at this
          have h2 := rows_len sg R (sg.take i)
          rw [List.length_take] at h2
          have h3 := Nat.mul_le_mul (show min i sg.length ≤ 5 by omega) hl5
          omega
        have l2 : ms.length ≤ 5 := by
          have := congrArg List.length ems
          rw [List.length_map, List.length_map] at this
          omega
        refine iCat hns7.l hms.l (by rw [List.length_map, List.length_map, sizeLine_eq]; omega) fun q hq => ?_
        have s8 : Same H7 (upd H7 q (.lst ((ns.map fun q => V.ref q.1) ++ ms.map fun q => V.ref q.1))) := Same.upd_new hq
        walk_at "go"
        refine ⟨q, ns ++ ms, _, _, _, rfl, ⟨by rw [upd_same, List.map_append], fun z hz => ?_⟩, ?_, Vk.Same.trans s06 (Vk.Same.trans s7 s8)⟩
        · rcases List.mem_append.mp hz with m | m
          · exact s8 _ _ (hns7.t z m)
          · exact s8 _ _ (hms.t z m)
        · unfold rowsP at ens ⊢
          rw [List.map_append, ens, ems, List.take_add_one, hc, List.flatMap_append]
          congr 1
          exact (List.append_nil _).symm
    · rintro σ H5 ⟨pr, ns, v5, v6, v7, rfl, hns, ens, s5⟩
      rw [Int.toNat_natCast, List.take_length] at ens
      have ht5 := s5 _ _ ht
      walk_at "go"
      refine ⟨t, al, sg, W, R, rfl, ⟨lp, qs, hT.same s5⟩, hsg, fun pp ms H6 hpn hms ems s6 => ?_⟩
      have hns6 := hns.same s6
      have ht6 := s6 _ _ ht5
      have hml := hms.l
      have hT6 := hT.same (Vk.Same.trans s5 s6)
      walk_at "go"
      have e1 : ns.map (·.2) = canL sg R := ens
      refine ⟨_, _, _, _, true, rfl, .ty "list", .base (.lst hml), rfl, ?_⟩
      walk_at "go"
      refine ⟨_, _, hms.dp, hns6.dp, shaped_dqs (by rw [ems, ← ec]; exact hT6.low hsg), shaped_dqs (by rw [e1, ← ec]; exact hT6.low hsg), ?_⟩
      rw [eqv_dql, ems, e1, decide_eq_true rfl]
      have hnl := hns6.l
      walk_at "go"
      have h25 := can_len (R := R) hsg.a
      have h26 := Nat.mul_le_mul hl5 hl5
      refine ⟨t, dx, _, rfl, ht6, t, al, sg, W, R, rfl, ⟨lp, qs, hT6⟩, hsg, _, rfl, by omega, ?_⟩
      walk_at "go"
      have e2 : ns.length = (canL sg R).length := by rw [← e1, List.length_map]
      rw [List.length_map, e2, decide_eq_true rfl]
      exact k H6 (Vk.Same.trans s5 s6)
end
end
section
set_option Elab.async false
set_option linter.all false
set_option maxRecDepth 100000
set_option maxHeartbeats 4000000
open PySem PySem.Spec PyProof.Rows L2 NSet

local macro_rules | `(tactic| walk_at "side") => `(tactic| exact .inl (by assumption))
local macro_rules | `(tactic| walk_at "go1") => `(tactic| (with_reducible refine iGTup (by assumption) rfl ?_))
local macro_rules | `(tactic| walk_at "go1") => `(tactic| (with_reducible refine iGCons ?_))
local macro_rules | `(tactic| walk_at "go1") => `(tactic| (with_reducible refine iGNil ?_))
local macro_rules | `(tactic| walk_at "go1") => `(tactic| (with_reducible refine iMakeV ?_))
local macro_rules | `(tactic| walk_at "go1") => `(tactic| (with_reducible refine iMakeD ?_))
local macro_rules | `(tactic| walk_at "go1") => `(tactic| (with_reducible refine iLc2S ?_))
local macro_rules | `(tactic| walk_at "go1") => `(tactic| (with_reducible refine iLc2L ?_))
local macro_rules | `(tactic| walk_at "go1") => `(tactic| (with_reducible refine iIStr ?_))
local macro_rules | `(tactic| walk_at "go1") => `(tactic| (with_reducible refine iIxI ?_))
local macro_rules | `(tactic| walk_at "go1") => `(tactic| (with_reducible refine iCMeth ?_))

section
variable {P : Program} {w : World} {K : PySem.W.Frag} {mg : Str → Option Value} {base : Heap} {a : Ad} {d : Fd}
local macro_rules | `(tactic| walk_at "go1") => `(tactic| (with_reducible refine iMethFam ?_))
/-! k23: _law_no_sign -/
/-- what the written part says of an error's class that the law catches: its field f, a class that it is none of -/
structure ErrX (K : PySem.W.Frag) (a : Ad) (B B' : Addr) (f : Str) : Prop where
  xf : XfC K B
  np : PySem.W.findIn K (.ref B) f = some none
  ec : ExcC K B
  e1 : PySem.W.exmOne K (.ref B) (.ref B) = some true
  k1 : PySem.W.kitOne K (.ref B) (.ref a.cTale) = some true
  k2 : PySem.W.kitOne K (.ref B) (.type "ValueError") = some true
  k3 : PySem.W.kitOne K (.ref B) (.ref B') = some false
theorem iIsX1 {K : PySem.W.Frag} {ab D dd : Addr} {fs : List (Str × V)} {c : V} {u : Value} {b : Bool} {H : Hp} {Q : VK} (C : ExcC K D) (h : H dd = some (.xd fs)) (cl : ClsV c u) (k : PySem.W.kitOne K (.ref D) u = some b) (q : Q (.bl b) H) : rIsX K ab (.ref D) (some dd) [.ref ab, c] H Q := ⟨D, dd, fs, rfl, rfl, C, h, .inl ⟨c, u, b, rfl, cl, k, q⟩⟩
def spNoSign (a : Ad) : Sp := fun vs H Q _ => ∃ (p al : Addr) (i : Nat) (sg W he kn t : List Nat) (sa : List (List Nat)) (b : Bool), vs = [.ref p, .str (S t), .bl b] ∧ i < 4 ∧ PsB a H p al i sg W he sa (moreK i kn) ∧ SgOk sg ∧ Odd sg t ∧ ∀ H', Same H H' → Q (.bl true) H'
theorem scNoSign : FnScope ["_law_person", "_law_strange_here", "_law_hearing", "_law_told", "e"] ["_law_person", "_law_strange_here", "_law_hearing"] (defScope sNoSign) := ⟨rfl, rfl, rfl, by decide +kernel, rfl, by decide +kernel, by decide +kernel⟩
theorem ok_noSign (T : Fns K mg a d) (M : Px K a) (Z : Qx P K mg a d) (BUnknownSign : ErrX K a a.cUnk a.cBadPerson "sign") (GUnknownSign : FnOk P w K mg base CX0 1 a.eUnk d.eUnk ["self", "sign"] (spErr a.cUnk "sign")) :
    FnOk P w K mg base CX0 9 a.aNoSign d.dNoSign ["_law_person", "_law_strange_here", "_law_hearing"] (spNoSign a) := by
  have GHeard : ∀ i, i < 4 → FnOk P w K mg base (L2.CX P w) 3 a.aPHeard d.dPHeard ["self", "sign"] (spHeardX a) := fun _ _ => ok_heardX T M GUnknownSign
  have bHeard : ∀ i, i < 4 → Binds K d.dPHeard ["self", "sign"] [] := fun _ _ => T.bPHeard
  have GSaid := ok_saidX (P := P) (w := w) (base := base) T M Z GUnknownSign
  have bSaid := b_said T Z
  refine T.FNoSign.ok scNoSign (fun vs H Q E h => ?_) (fun cdv A0 outer s H vs Q E hr h => ?_)
  · obtain ⟨p, al, i, sg, W, he, kn, t, sa, b, rfl, _⟩ := h
    rfl
  · obtain ⟨p, al, i, sg, W, he, kn, t, sa, b, rfl, hi, hp, hsg, ho, k⟩ := h
    refine ⟨_, ((pss_cons (ps_set (i := 3) scNoSign.nd rfl (Or.inl rfl) pe_non)
      (pss_cons (ps_try_as (i := 4) (tb := _) (ts := _) (Wout := fun _ _ _ _ => False) rfl rfl scNoSign.nd rfl rfl ⟨rfl, by decide, Or.inl T.gcUnknownSign⟩ takes0 (fun W pn xe tk _ => (pss_one (ps_if (pt_val (pv 2)) (pss_one (ps_set (i := 3) scNoSign.nd rfl (Or.inl rfl) (pe_methFam (pv 0) M.cl M.mHeard GHeard (hr.mono (by decide)) bHeard (fun σ => passAt tk σ) (pa_cons (pv 1) pa_nil)))) (pss_one (ps_set (i := 3) scNoSign.nd rfl (Or.inl rfl) (pe_methFam (pv 0) M.cl M.mSaid GSaid (hr.mono (by decide)) bSaid (fun σ => passAt tk σ) (pa_cons (pv 1) pa_nil))))))) (fun ab oe cls db pn hz hf => (pss_one (ps_ret (pe_and (pe_cmpR op_eq (pe_xf BUnknownSign.xf BUnknownSign.np hz hf (pv 4)) (pv 1) (nomark _)) (pe_and (pe_callB (call_isX hz hf) (by rfl) T.z_isinstance (by decide +kernel) (pa_cons (pv 4) (pa_cons (pe_glob (v := .ref a.cTale) (by rfl) T.gcTaleError rfl) pa_nil))) (pe_and (pe_callB (call_isX hz hf) (by rfl) T.z_isinstance (by decide +kernel) (pa_cons (pv 4) (pa_cons (pe_bltn (v := .ty "ValueError") (by rfl) T.z_VE (by decide +kernel) rfl) pa_nil))) (pe_one (pe_not (pe_callB (call_isX hz hf) (by rfl) T.z_isinstance (by decide +kernel) (pa_cons (pv 4) (pa_cons (pe_glob (v := .ref a.cBadPerson) (by rfl) T.gcBadPerson rfl) pa_nil))))))))))))
      (pss_one (ps_ret pe_bl))))), ?_⟩
    obtain ⟨dx, hdp, sd, hp1, hp2, hp3⟩ := hp.o
    have hlk : (("alphabet", V.ref al) :: ("_hears", V.ref hdp) :: ("_says", V.ref sd) :: moreK i kn : List (Str × V)).lookup ("said" : Str) = none := lk_ps (by decide +kernel) (by decide +kernel) (by decide +kernel) (by decide +kernel)
    have hlk2 : (("alphabet", V.ref al) :: ("_hears", V.ref hdp) :: ("_says", V.ref sd) :: moreK i kn : List (Str × V)).lookup ("heard" : Str) = none := lk_ps (by decide +kernel) (by decide +kernel) (by decide +kernel) (by decide +kernel)
    have htx : Tx t := ⟨by have := ho.2.1; omega, fun c hc => by have := ho.2.2 c hc; omega⟩
    have hno := sign_not ho.1
    cases b with
    | true =>
      walk_at "go"
      refine ⟨p, al, i, sg, W, he, kn, sa, t, rfl, hi, hp, hsg, htx, hno, fun dd H1 h1 h2 s1 => ?_⟩
      refine ⟨true, BUnknownSign.e1, fun _ ab hab => ?_, fun q => Bool.noConfusion q⟩
      walk_at "go"
      refine ⟨_, rfl, rfl, rfl, dd, _, _, rfl, h2, rfl, ?_⟩
      walk_at "go"
      refine iIsX1 BUnknownSign.ec h2 (.own a.cTale) BUnknownSign.k1 ?_
      walk_at "go"
      refine iIsX1 BUnknownSign.ec h2 (.ty "ValueError") BUnknownSign.k2 ?_
      walk_at "go"
      refine iIsX1 BUnknownSign.ec h2 (.own a.cBadPerson) BUnknownSign.k3 ?_
      walk_at "go"
      exact k H1 s1
    | false =>
      walk_at "go"
      refine ⟨p, al, sg, W, he, kn, sa, t, rfl, hp, hsg, htx, hno, fun dd H1 h1 h2 s1 => ?_⟩
      refine ⟨true, BUnknownSign.e1, fun _ ab hab => ?_, fun q => Bool.noConfusion q⟩
      walk_at "go"
      refine ⟨_, rfl, rfl, rfl, dd, _, _, rfl, h2, rfl, ?_⟩
      walk_at "go"
      refine iIsX1 BUnknownSign.ec h2 (.own a.cTale) BUnknownSign.k1 ?_
      walk_at "go"
      refine iIsX1 BUnknownSign.ec h2 (.ty "ValueError") BUnknownSign.k2 ?_
      walk_at "go"
      refine iIsX1 BUnknownSign.ec h2 (.own a.cBadPerson) BUnknownSign.k3 ?_
      walk_at "go"
      exact k H1 s1
end
end
section
set_option Elab.async false
set_option linter.all false
set_option maxRecDepth 100000
set_option maxHeartbeats 4000000
open PySem PySem.Spec PyProof.Rows L2 NSet

local macro_rules | `(tactic| walk_at "side") => `(tactic| exact .inl (by assumption))
local macro_rules | `(tactic| walk_at "go1") => `(tactic| (with_reducible refine iGTup (by assumption) rfl ?_))
local macro_rules | `(tactic| walk_at "go1") => `(tactic| (with_reducible refine iGCons ?_))
local macro_rules | `(tactic| walk_at "go1") => `(tactic| (with_reducible refine iGNil ?_))
local macro_rules | `(tactic| walk_at "go1") => `(tactic| (with_reducible refine iMakeV ?_))
local macro_rules | `(tactic| walk_at "go1") => `(tactic| (with_reducible refine iMakeD ?_))
local macro_rules | `(tactic| walk_at "go1") => `(tactic| (with_reducible refine iLc2S ?_))
local macro_rules | `(tactic| walk_at "go1") => `(tactic| (with_reducible refine iLc2L ?_))
local macro_rules | `(tactic| walk_at "go1") => `(tactic| (with_reducible refine iIStr ?_))
local macro_rules | `(tactic| walk_at "go1") => `(tactic| (with_reducible refine iIxI ?_))
local macro_rules | `(tactic| walk_at "go1") => `(tactic| (with_reducible refine iCMeth ?_))

section
variable {P : Program} {w : World} {K : PySem.W.Frag} {mg : Str → Option Value} {base : Heap} {a : Ad} {d : Fd}
local macro_rules | `(tactic| walk_at "go1") => `(tactic| (with_reducible refine iMethFam ?_))
local macro_rules | `(tactic| walk_at "go1") => `(tactic| (with_reducible refine iPropFam ?_))
/-! k23: _law_right -/
theorem rows_outs {i : Nat} {sg he : List Nat} {sa : List (List Nat)} {kn : List Nat} (hsg : SgOk sg) (hd : DatOk sg he sa) : rowsS i sg he sa kn sg = (outsL sg (relS i sg he sa kn)).map fun r => V.str (S r) := by
  unfold rowsS outsL
  rw [List.map_map]
  refine List.map_congr_left fun c hc => ?_
  have e := row_told (i := i) (kn := kn) hsg hd hc
  show V.str (S (saidL i sg he sa kn c)) = V.str (S (sg.filter (relS i sg he sa kn c)))
  have e2 : sg.filter (relS i sg he sa kn c) = saidL i sg he sa kn c := by
    refine Eq.trans (List.filter_congr fun x _ => ?_) e
    unfold relS
    rw [decide_eq_decide, ← e, List.mem_filter]
    constructor
    · rintro ⟨_, h⟩
      simpa using h
    · intro h
      exact ⟨by assumption, by simpa using h⟩
  rw [e2]
theorem kn_row {sg kn : List Nat} (hsg : SgOk sg) (hk : txtB sg kn = true) : (sg.filter fun o => decide (o ∈ kn)) = TSet.ordL kn := by
  have hk : ∀ c ∈ kn, c ∈ sg := of_decide_eq_true hk
  refine uniqA (hsg.a.sublist List.filter_sublist) (TSet.ord_asc _) fun x => ?_
  rw [List.mem_filter, TSet.mem_ord]
  constructor
  · rintro ⟨_, h⟩
    simpa using h
  · intro h
    exact ⟨hk x h, by simpa using h⟩
def spRight (a : Ad) : Sp := fun vs H Q _ => ∃ (p al sl : Addr) (i : Nat) (sg W he kn : List Nat) (sa : List (List Nat)), vs = [.ref p, .int (i : Nat), .ref al, .str (S sg), .str (S he), .ref sl, .str (S kn)] ∧ i < 4 ∧ PsB a H p al i sg W he sa (moreK i kn) ∧ SgOk sg ∧ H sl = some (.lst (sa.map fun t => V.str (S t))) ∧ DatOk sg he sa ∧ kn.length ≤ 50 ∧ txtB sg kn = true ∧ ∀ H', Same H H' → Q (.bl true) H'
theorem scRight : FnScope ["_law_person", "_law_kind", "_law_alphabet", "_law_signs_here", "_law_hears", "_law_says", "_law_knows", "_law_outs", "_law_k", "_law_heard", "_law_said_here", "_law_known", "_law_sign"] ["_law_person", "_law_kind", "_law_alphabet", "_law_signs_here", "_law_hears", "_law_says", "_law_knows"] (defScope sRight) := ⟨rfl, rfl, rfl, by decide +kernel, rfl, by decide +kernel, by decide +kernel⟩
theorem ok_right (T : Fns K mg a d) (M : Px K a) (Z : Qx P K mg a d) (GAlEq : FnOk P w K mg base CX0 1 a.aAlEq d.dAlEq ["self", "other"] (spEq a.cAlphabet)) (MT : Mk K a.cTable a.aTInit) (bTInit : Binds K d.dTInit ["self", "alphabet", "pairs"] []) :
    FnOk P w K mg base CX0 11 a.aRight d.dRight ["_law_person", "_law_kind", "_law_alphabet", "_law_signs_here", "_law_hears", "_law_says", "_law_knows"] (spRight a) := by
  have GHeard : ∀ i, i < 4 → FnOk P w K mg base (L2.CX P w) 3 a.aPHeard d.dPHeard ["self", "sign"] (spHeard a) := fun _ _ => ok_heard T M
  have bHeard : ∀ i, i < 4 → Binds K d.dPHeard ["self", "sign"] [] := fun _ _ => T.bPHeard
  have GSaid := ok_said (P := P) (w := w) (base := base) T M Z
  have bSaid := b_said T Z
  have GTable : ∀ i, i < 4 → FnOk P w K mg base (L2.CX P w) 9 a.aPTable d.dPTable ["self"] (fun vs H Q E => ∃ i, i < 4 ∧ spTable a i vs H Q E) := fun _ _ => ok_table T M Z MT bTInit
  have bTable : ∀ i, i < 4 → Binds K d.dPTable ["self"] [] := fun _ _ => T.bPTable
  have GKnown : ∀ i, i < 2 → FnOk P w K mg base CX0 1 a.aKKnown d.dKKnown ["self"] (spKnown a) := fun _ _ => ok_known T M
  have bKnown : ∀ i, i < 2 → Binds K d.dKKnown ["self"] [] := fun _ _ => T.bKKnown
  have clK : ∀ i, i < 2 → Cls K (cP a (2 * i + 1)) := fun i hi => M.cl _ (by omega)
  have GRows := ok_rows (P := P) (w := w) (base := base) T
  have GKinds := ok_kinds (P := P) (w := w) (base := base) T M
  have GIs := ok_is (P := P) (w := w) (base := base) T GAlEq
  refine T.FRight.ok scRight (fun vs H Q E h => ?_) (fun cdv A0 outer s H vs Q E hr h => ?_)
  · obtain ⟨p, al, sl, i, sg, W, he, kn, sa, rfl, _⟩ := h
    rfl
  · obtain ⟨p, al, sl, i, sg, W, he, kn, sa, rfl, hi, hp, hsg, hsl, hd, hkl, hkt, k⟩ := h
    refine ⟨_, ((pss_cons (ps_if (PW.pt (pw_or (pt_not (pt_val (pe_call GKinds (hr.mono (by decide)) (by rfl) T.gKinds T.FKinds.kp T.bKinds .nil pass0 (pa_cons (pv 0) (pa_cons (pv 1) pa_nil))))) (pw_or1 (pt_not (pt_cmpR (op_ownI (fun _ _ => rfl) T.mAlEq.at_ T.mAlEq.fn GAlEq (hr.mono (by decide)) T.bAlEq pass0) (pe_fld (pv 0) rfl) (pv 2) (nomark _)))))) (pss_one (ps_ret pe_bl)) pss_nil)
      (pss_cons (ps_set (i := 7) scRight.nd rfl (Or.inl rfl) (pe_call GRows (hr.mono (by decide)) (by rfl) T.gRows T.FRows.kp T.bRows .nil pass0 (pa_cons (pv 3) (pa_cons (pv 1) (pa_cons (pv 4) (pa_cons (pv 5) (pa_cons (pv 6) pa_nil)))))))
      (pss_cons (ps_for PassesOwn.never rfl (pi_range1 (by rfl) T.z_range (pa_cons (pe_callB call_lenS (by rfl) T.z_len (by decide +kernel) (pa_cons (pv 3) pa_nil)) pa_nil)) (pg_name (i := 8) scRight.nd rfl (Or.inl rfl)) (pss_cons (ps_set (i := 9) scRight.nd rfl (Or.inl rfl) (pe_methFam (pv 0) M.cl M.mHeard GHeard (hr.mono (by decide)) bHeard passEA (pa_cons (pe_ix ix_str (pv 3) (pv 8) (fun _ _ => rfl)) pa_nil)))
      (pss_cons (ps_set (i := 10) scRight.nd rfl (Or.inl rfl) (pe_methFam (pv 0) M.cl M.mSaid GSaid (hr.mono (by decide)) bSaid passEA (pa_cons (pe_ix ix_str (pv 3) (pv 8) (fun _ _ => rfl)) pa_nil)))
      (pss_one (ps_if (PW.pt (pw_or (pt_not (pt_val (pe_callB call_isi (by rfl) T.z_isinstance (by decide +kernel) (pa_cons (pv 9) (pa_cons (pe_bltn (v := .ty "str") (by rfl) T.z_str (by decide +kernel) rfl) pa_nil))))) (pw_or (pt_cmpR op_ne (pv 9) (pe_ix ix_str (pv 4) (pv 8) (fun _ _ => rfl)) (nomark _)) (pw_or (pt_not (pt_val (pe_callB call_isi (by rfl) T.z_isinstance (by decide +kernel) (pa_cons (pv 10) (pa_cons (pe_bltn (v := .ty "str") (by rfl) T.z_str (by decide +kernel) rfl) pa_nil))))) (pw_or1 (pt_cmpR op_ne (pv 10) (pe_ix (r := rIxL K) ix_list (pv 7) (pv 8) (fun _ _ => rfl)) (nomark _))))))) (pss_one (ps_ret pe_bl)) pss_nil)))))
      (pss_cons (ps_if (PW.pt (pw_or (pt_cmpR op_eq (pv 1) pe_int (nomark _)) (pw_or1 (pt_cmpR op_eq (pv 1) pe_int (nomark _))))) (pss_cons (ps_set (i := 11) scRight.nd rfl (Or.inl rfl) (pe_propFam (pv 0) clK M.pKnown GKnown (hr.mono (by decide)) bKnown pass0))
      (pss_one (ps_if (PW.pt (pw_or (pt_not (pt_val (pe_callB call_isi (by rfl) T.z_isinstance (by decide +kernel) (pa_cons (pv 11) (pa_cons (pe_bltn (v := .ty "str") (by rfl) T.z_str (by decide +kernel) rfl) pa_nil))))) (pw_or1 (pt_cmpR op_ne (pv 11) (pe_join (pe_strS (l := []) (by decide +kernel)) (pe_lc (own := [("_law_sign", 12)]) (g := gName 12) (by rfl) scRight.nd (pi_str (pv 3)) (blkOk_by (own := [("_law_sign", 12)]) (N := ["_law_person", "_law_kind", "_law_alphabet", "_law_signs_here", "_law_hears", "_law_says", "_law_knows", "_law_outs", "_law_k", "_law_heard", "_law_said_here", "_law_known", "_law_sign"]) (sc := defScope sRight) (by decide +kernel)) (fun _ _ _ _ _ => pg_name (i := 12) scRight.nd rfl (Or.inl rfl)) (fun _ _ _ _ _ => (pts_one (pt_cmpR op_inS (pv 12) (pv 6) rfl))) (fun _ _ _ _ _ => (pv 12)))) (nomark _))))) (pss_one (ps_ret pe_bl)) pss_nil))) pss_nil)
      (pss_one (ps_ret (pe_and (pe_call GIs (hr.mono (by decide)) (by rfl) T.gIs T.FIs.kp T.bIs .nil pass0 (pa_cons (pe_propFam (pv 0) M.cl M.pTable GTable (hr.mono (by decide)) bTable passE) (pa_cons (pv 2) (pa_cons (pv 3) (pa_cons (pv 7) pa_nil))))) (pe_one (pe_call GIs (hr.mono (by decide)) (by rfl) T.gIs T.FIs.kp T.bIs .nil pass0 (pa_cons (pe_propFam (pv 0) M.cl M.pTable GTable (hr.mono (by decide)) bTable passE) (pa_cons (pv 2) (pa_cons (pv 3) (pa_cons (pv 7) pa_nil)))))))))))))), ?_⟩
    obtain ⟨dx, hdp, sd, hp1, hp2, hp3⟩ := hp.o
    have hcl := M.cl i hi
    have hnA := M.nA i hi
    have hlS : (("alphabet", V.ref al) :: ("_hears", V.ref hdp) :: ("_says", V.ref sd) :: moreK i kn : List (Str × V)).lookup ("said" : Str) = none := lk_ps (by decide +kernel) (by decide +kernel) (by decide +kernel) (by decide +kernel)
    have hlH : (("alphabet", V.ref al) :: ("_hears", V.ref hdp) :: ("_says", V.ref sd) :: moreK i kn : List (Str × V)).lookup ("heard" : Str) = none := lk_ps (by decide +kernel) (by decide +kernel) (by decide +kernel) (by decide +kernel)
    have hl5 := hsg.l
    have lh := hd.lh
    walk_at "go"
    refine ⟨p, dx, i, _, rfl, hi, hp1, ?_⟩
    walk_at "go"
    refine eq_al T.eqA hp.al hp.al ⟨_, rfl, ?_⟩
    rw [decide_eq_true (show Alike sg W sg W from ⟨rfl, rfl⟩)]
    walk_at "go"
    refine ⟨sl, i, sg, he, kn, sa, rfl, hi, hsg, hsl, hd, by omega, fun pr H1 hpr s1 hr1 => ?_⟩
    rw [rows_outs hsg hd] at hr1
    walk_at "go"
    refine for_R (fun j σ H' => Stop (∃ (v8 v9 v10 : Option V), σ = [some (.ref p), some (.int (i : Nat)), some (.ref al), some (.str (S sg)), some (.str (S he)), some (.ref sl), some (.str (S kn)), some (.ref pr), v8, v9, v10, none, none] ∧ Same H1 H')) ⟨none, none, none, rfl, fun _ _ z => z⟩ ?_ ?_
    · rintro j σ H2 hj ⟨v8, v9, v10, rfl, s2⟩
      have hj2 : j < sg.length := by simpa using hj
      obtain ⟨c, hc⟩ : ∃ c, sg[j]? = some c := ⟨_, List.getElem?_eq_getElem hj2⟩
      have hcm := List.mem_of_getElem? hc
      have hix : sg.idxOf c = j := (List.getElem?_inj (List.getElem?_eq_some_iff.mp (idx_at hcm)).1 hsg.a.nd).mp ((idx_at hcm).trans hc.symm)
      have hh : he[j]? = some (hearC sg he c) := by
        have := hear_at hcm hd.lh
        rw [hix] at this
        exact this
      have s02 := Vk.Same.trans s1 s2
      have hp2' := s02 _ _ hp1
      have ij : (0 : Int) + (j : Int) = (j : Int) := Int.zero_add _
      rw [ij]
      walk_at "go"
      refine ⟨p, al, i, sg, W, he, kn, sa, c, rfl, hi, hp.same s02, hsg, hd, hcm, ?_⟩
      walk_at "go"
      refine ⟨p, al, sg, W, he, kn, sa, c, rfl, hp.same s02, hsg, hd, hcm, fun H3 s3 => ?_⟩
      have s13 := Vk.Same.trans s2 s3
      have hr3 := s13 _ _ hr1
      have hoc : (outsL sg (relS i sg he sa kn))[j]? = some (saidL i sg he sa kn c) := by
        have e1 := rows_outs (i := i) (kn := kn) hsg hd
        have e2 : (rowsS i sg he sa kn sg)[j]? = some (V.str (S (saidL i sg he sa kn c))) := by
          unfold rowsS
          rw [List.getElem?_map, hc]
          rfl
        rw [e1, List.getElem?_map] at e2
        cases e3 : (outsL sg (relS i sg he sa kn))[j]? with
        | none => rw [e3] at e2; cases e2
        | some y =>
          rw [e3] at e2
          injection e2 with e2
          injection e2 with e2
          rw [S_inj1 e2]
      have hov : ((outsL sg (relS i sg he sa kn)).map fun r => V.str (S r))[j]? = some (V.str (S (saidL i sg he sa kn c))) := by rw [List.getElem?_map, hoc]; rfl
      walk_at "go"
      exact ⟨_, _, _, rfl, s13⟩
    · rintro σ H2 ⟨v8, v9, v10, rfl, s2⟩
      have s02 := Vk.Same.trans s1 s2
      have hr2 := s2 _ _ hr1
      have hp2' := s02 _ _ hp1
      match i, hi with
      | 0, _ =>
        walk_at "go"
        refine ⟨p, al, sg, W, he, kn, sa, rfl, hp.same s02, hsg, hd, fun t1 H3 s3 hT3 => ?_⟩
        have s03 := Vk.Same.trans s02 s3
        have hr3 := s3 _ _ hr2
        have hp3' := s03 _ _ hp1
        walk_at "go"
        refine ⟨t1, al, al, pr, sg, W, relS 0 sg he sa kn, rfl, hT3, hp.al.same s03, hsg, hr3, fun H4 s4 => ?_⟩
        have s04 := Vk.Same.trans s03 s4
        have hp4' := s04 _ _ hp1
        walk_at "go"
        refine ⟨p, al, sg, W, he, kn, sa, rfl, hp.same s04, hsg, hd, fun t2 H5 s5 hT5 => ?_⟩
        have s05 := Vk.Same.trans s04 s5
        have hr5 := Vk.Same.trans s3 (Vk.Same.trans s4 s5) _ _ hr2
        walk_at "go"
        refine ⟨t2, al, al, pr, sg, W, relS 0 sg he sa kn, rfl, hT5, hp.al.same s05, hsg, hr5, fun H6 s6 => ?_⟩
        walk_at "go"
        exact k H6 (Vk.Same.trans s05 s6)
      | 1, _ =>
        walk_at "go"
        refine ⟨(show (0 : Nat) < 2 by decide), rfl, hp2', ⟨p, al, 1, sg, W, he, kn, sa, rfl, by decide, rfl, hp.same s02, ?_⟩⟩
        walk_at "go"
        rename_i D hD
        refine lcg_S (fun j H' => Stop (H' D = some (.lst (((sg.take j).filter fun o => decide (o ∈ kn)).map fun c => V.str (S [c]))) ∧ Same H2 H')) ⟨upd_same, Same.upd_new hD⟩ (fun _ => rfl) (fun j o H' ho hP2 => ?_) (fun H' hP2 => ?_)
        · obtain ⟨h8, s8⟩ := hP2
          have hjl := (List.getElem?_eq_some_iff.mp ho).1
          have hfl := List.length_filter_le (fun o => decide (o ∈ kn)) (sg.take j)
          rw [List.length_take] at hfl
          by_cases hcs : o ∈ kn
          · walk_at "go"
            all_goals first | exact absurd hcs (by assumption) | skip
            refine ⟨by rw [List.length_map, sizeLine_eq]; omega, ?_, fun b o hb => ?_⟩
            · rw [upd_same, List.take_add_one, ho, List.filter_append, show List.filter (fun o => decide (o ∈ kn)) (some o).toList = [o] from by simp only [Option.toList_some, List.filter_cons, decide_eq_true hcs, if_true, List.filter_nil], List.map_append]
              rfl
            · rw [upd_ne (fun z => by rw [z, hD] at hb; cases hb)]
              exact s8 _ _ hb
          · walk_at "go"
            all_goals first | exact absurd (by assumption) hcs | skip
            refine ⟨?_, s8⟩
            rw [h8, List.take_add_one, ho, List.filter_append, show List.filter (fun o => decide (o ∈ kn)) (some o).toList = [] from by simp only [Option.toList_some, List.filter_cons, decide_eq_false hcs, Bool.false_eq_true, if_false, List.filter_nil], List.append_nil]
        · obtain ⟨h8, s8⟩ := hP2
          rw [List.take_length, kn_row hsg hkt] at h8
          have hol : (TSet.ordL kn).length ≤ 4000 := by
            rw [← kn_row hsg hkt]
            have := List.length_filter_le (fun o => decide (o ∈ kn)) sg
            omega
          refine iJoinS2 h8 hol ?_
          show rNe _ _ _ _
          rw [join_signs]
          have s08 := Vk.Same.trans s02 s8
          have hp8' := s08 _ _ hp1
          have hr8 := s8 _ _ hr2
          walk_at "go"
          refine ⟨p, al, sg, W, he, kn, sa, rfl, hp.same s08, hsg, hd, fun t1 H3 s3 hT3 => ?_⟩
          have s03 := Vk.Same.trans s08 s3
          have hr3 := s3 _ _ hr8
          have hp3' := s03 _ _ hp1
          walk_at "go"
          refine ⟨t1, al, al, pr, sg, W, relS 1 sg he sa kn, rfl, hT3, hp.al.same s03, hsg, hr3, fun H4 s4 => ?_⟩
          have s04 := Vk.Same.trans s03 s4
          have hp4' := s04 _ _ hp1
          walk_at "go"
          refine ⟨p, al, sg, W, he, kn, sa, rfl, hp.same s04, hsg, hd, fun t2 H5 s5 hT5 => ?_⟩
          have s05 := Vk.Same.trans s04 s5
          have hr5 := Vk.Same.trans s3 (Vk.Same.trans s4 s5) _ _ hr8
          walk_at "go"
          refine ⟨t2, al, al, pr, sg, W, relS 1 sg he sa kn, rfl, hT5, hp.al.same s05, hsg, hr5, fun H6 s6 => ?_⟩
          walk_at "go"
          exact k H6 (Vk.Same.trans s05 s6)
      | 2, _ =>
        walk_at "go"
        refine ⟨p, al, sg, W, he, kn, sa, rfl, hp.same s02, hsg, hd, fun t1 H3 s3 hT3 => ?_⟩
        have s03 := Vk.Same.trans s02 s3
        have hr3 := s3 _ _ hr2
        have hp3' := s03 _ _ hp1
        walk_at "go"
        refine ⟨t1, al, al, pr, sg, W, relS 2 sg he sa kn, rfl, hT3, hp.al.same s03, hsg, hr3, fun H4 s4 => ?_⟩
        have s04 := Vk.Same.trans s03 s4
        have hp4' := s04 _ _ hp1
        walk_at "go"
        refine ⟨p, al, sg, W, he, kn, sa, rfl, hp.same s04, hsg, hd, fun t2 H5 s5 hT5 => ?_⟩
        have s05 := Vk.Same.trans s04 s5
        have hr5 := Vk.Same.trans s3 (Vk.Same.trans s4 s5) _ _ hr2
        walk_at "go"
        refine ⟨t2, al, al, pr, sg, W, relS 2 sg he sa kn, rfl, hT5, hp.al.same s05, hsg, hr5, fun H6 s6 => ?_⟩
        walk_at "go"
        exact k H6 (Vk.Same.trans s05 s6)
      | 3, _ =>
        walk_at "go"
        refine ⟨(show (1 : Nat) < 2 by decide), rfl, hp2', ⟨p, al, 3, sg, W, he, kn, sa, rfl, by decide, rfl, hp.same s02, ?_⟩⟩
        walk_at "go"
        rename_i D hD
        refine lcg_S (fun j H' => Stop (H' D = some (.lst (((sg.take j).filter fun o => decide (o ∈ kn)).map fun c => V.str (S [c]))) ∧ Same H2 H')) ⟨upd_same, Same.upd_new hD⟩ (fun _ => rfl) (fun j o H' ho hP2 => ?_) (fun H' hP2 => ?_)
        · obtain ⟨h8, s8⟩ := hP2
          have hjl := (List.getElem?_eq_some_iff.mp ho).1
          have hfl := List.length_filter_le (fun o => decide (o ∈ kn)) (sg.take j)
          rw [List.length_take] at hfl
          by_cases hcs : o ∈ kn
          · walk_at "go"
            all_goals first | exact absurd hcs (by assumption) | skip
            refine ⟨by rw [List.length_map, sizeLine_eq]; omega, ?_, fun b o hb => ?_⟩
            · rw [upd_same, List.take_add_one, ho, List.filter_append, show List.filter (fun o => decide (o ∈ kn)) (some o).toList = [o] from by simp only [Option.toList_some, List.filter_cons, decide_eq_true hcs, if_true, List.filter_nil], List.map_append]
              rfl
            · rw [upd_ne (fun z => by rw [z, hD] at hb; cases hb)]
              exact s8 _ _ hb
          · walk_at "go"
            all_goals first | exact absurd (by assumption) hcs | skip
            refine ⟨?_, s8⟩
            rw [h8, List.take_add_one, ho, List.filter_append, show List.filter (fun o => decide (o ∈ kn)) (some o).toList = [] from by simp only [Option.toList_some, List.filter_cons, decide_eq_false hcs, Bool.false_eq_true, if_false, List.filter_nil], List.append_nil]
        · obtain ⟨h8, s8⟩ := hP2
          rw [List.take_length, kn_row hsg hkt] at h8
          have hol : (TSet.ordL kn).length ≤ 4000 := by
            rw [← kn_row hsg hkt]
            have := List.length_filter_le (fun o => decide (o ∈ kn)) sg
            omega
          refine iJoinS2 h8 hol ?_
          show rNe _ _ _ _
          rw [join_signs]
          have s08 := Vk.Same.trans s02 s8
          have hp8' := s08 _ _ hp1
          have hr8 := s8 _ _ hr2
          walk_at "go"
          refine ⟨p, al, sg, W, he, kn, sa, rfl, hp.same s08, hsg, hd, fun t1 H3 s3 hT3 => ?_⟩
          have s03 := Vk.Same.trans s08 s3
          have hr3 := s3 _ _ hr8
          have hp3' := s03 _ _ hp1
          walk_at "go"
          refine ⟨t1, al, al, pr, sg, W, relS 3 sg he sa kn, rfl, hT3, hp.al.same s03, hsg, hr3, fun H4 s4 => ?_⟩
          have s04 := Vk.Same.trans s03 s4
          have hp4' := s04 _ _ hp1
          walk_at "go"
          refine ⟨p, al, sg, W, he, kn, sa, rfl, hp.same s04, hsg, hd, fun t2 H5 s5 hT5 => ?_⟩
          have s05 := Vk.Same.trans s04 s5
          have hr5 := Vk.Same.trans s3 (Vk.Same.trans s4 s5) _ _ hr8
          walk_at "go"
          refine ⟨t2, al, al, pr, sg, W, relS 3 sg he sa kn, rfl, hT5, hp.al.same s05, hsg, hr5, fun H6 s6 => ?_⟩
          walk_at "go"
          exact k H6 (Vk.Same.trans s05 s6)
      | i + 4, h => omega
end
end
section
set_option Elab.async false
set_option linter.all false
set_option maxRecDepth 100000
set_option maxHeartbeats 4000000
open PySem PySem.Spec PyProof.Rows L2 NSet

local macro_rules | `(tactic| walk_at "side") => `(tactic| exact .inl (by assumption))
local macro_rules | `(tactic| walk_at "go1") => `(tactic| (with_reducible refine iGTup (by assumption) rfl ?_))
local macro_rules | `(tactic| walk_at "go1") => `(tactic| (with_reducible refine iGCons ?_))
local macro_rules | `(tactic| walk_at "go1") => `(tactic| (with_reducible refine iGNil ?_))
local macro_rules | `(tactic| walk_at "go1") => `(tactic| (with_reducible refine iMakeV ?_))
local macro_rules | `(tactic| walk_at "go1") => `(tactic| (with_reducible refine iMakeD ?_))
local macro_rules | `(tactic| walk_at "go1") => `(tactic| (with_reducible refine iLc2S ?_))
local macro_rules | `(tactic| walk_at "go1") => `(tactic| (with_reducible refine iLc2L ?_))
local macro_rules | `(tactic| walk_at "go1") => `(tactic| (with_reducible refine iIStr ?_))
local macro_rules | `(tactic| walk_at "go1") => `(tactic| (with_reducible refine iIxI ?_))
local macro_rules | `(tactic| walk_at "go1") => `(tactic| (with_reducible refine iCMeth ?_))

section
variable {P : Program} {w : World} {K : PySem.W.Frag} {mg : Str → Option Value} {base : Heap} {a : Ad} {d : Fd}
local macro_rules | `(tactic| walk_at "go1") => `(tactic| (with_reducible refine TL.iLstS ?_))
local macro_rules | `(tactic| walk_at "go1") => `(tactic| ((with_reducible apply TL.iSnoc); exact rfl))
local macro_rules | `(tactic| walk_at "go1") => `(tactic| ((with_reducible apply TL.iInit); exact rfl; walk_at "lk"))
local macro_rules | `(tactic| walk_at "go1") => `(tactic| ((with_reducible apply TL.iMid); exact rfl; exact rfl; walk_at "lk"))
/-! k23: _law_spoilt -/
structure SpoR (sg he : List Nat) (sa : List (List Nat)) (kn he' : List Nat) (sa' : List (List Nat)) (kn' : List Nat) (b1 b2 b3 : Bool) : Prop where
  l1 : he'.length ≤ 100
  l2 : sa'.length ≤ 100
  l3 : ∀ s ∈ sa', s.length ≤ 100
  l4 : kn'.length ≤ 100
  l5 : ∀ s ∈ sa', ∀ c ∈ s, c < 0x110000
  r1 : if b1 = true then herB sg he' = false else he' = he
  r2 : if b2 = true then sasB sg sa' = false else sa' = sa
  r3 : if b3 = true then txtB sg kn' = false else kn' = kn
def spSpoilt : Sp := fun vs H Q _ => ∃ (b g u sl wr : Addr) (sg he kn : List Nat) (sa : List (List Nat)) (b1 b2 b3 : Bool), vs = [.ref b, .str (S sg), .str (S he), .ref sl, .str (S kn), .ref wr] ∧ BagB H b g u ∧ SgOk sg ∧ SgL sg ∧ DatOk sg he sa ∧ kn.length ≤ 50 ∧
  H sl = some (.lst (sa.map fun t => V.str (S t))) ∧ sl ≠ b ∧ sl ≠ g ∧ H wr = some (.lst [.bl b1, .bl b2, .bl b3]) ∧ wr ≠ b ∧ wr ≠ g ∧
  ∀ (pl sl' : Addr) (he' kn' : List Nat) (sa' : List (List Nat)) (H' : Hp), H' pl = some (.lst [.str (S he'), .ref sl', .str (S kn')]) → H' sl' = some (.lst (sa'.map fun t => V.str (S t))) → SpoR sg he sa kn he' sa' kn' b1 b2 b3 → BagB H' b g u → Fr [b, g] H H' → Q (.ref pl) H'
theorem her_len {sg t : List Nat} (h : t.length ≠ sg.length) : herB sg t = false := by
  unfold herB
  rw [decide_eq_false h]
  rfl
theorem txt_x {sg t : List Nat} {x : Nat} (h : x ∈ t) (hx : x ∉ sg) : txtB sg t = false := decide_eq_false fun z => hx (z x h)
theorem her_x {sg t : List Nat} {x : Nat} (h : x ∈ t) (hx : x ∉ sg) : herB sg t = false := by
  unfold herB
  rw [txt_x h hx, Bool.and_false]
theorem sas_len {sg : List Nat} {sa : List (List Nat)} (h : sa.length ≠ sg.length) : sasB sg sa = false := by
  unfold sasB
  rw [decide_eq_false h]
  rfl
theorem sas_mem {sg s : List Nat} {sa : List (List Nat)} (h : s ∈ sa) (hs : sayB sg s = false) : sasB sg sa = false := by
  unfold sasB
  have : (sa.map (sayB sg)).all id = false := by
    rw [List.all_eq_false]
    exact ⟨false, List.mem_map.mpr ⟨s, h, hs⟩, by decide⟩
  rw [this, Bool.and_false]
theorem say_x {sg s : List Nat} {x : Nat} (h : x ∈ s) (hx : x ∉ sg) : sayB sg s = false := by
  unfold sayB
  rw [txt_x h hx, Bool.and_false]
theorem say_nil {sg : List Nat} : sayB sg [] = false := rfl
theorem scSpoilt : FnScope ["_law_bag_here", "_law_signs_here", "_law_hears", "_law_says", "_law_knows", "_law_wrong", "_law_at", "_law_way", "_law_odd_here", "_law_sign", "_law_lesser", "_law_lists", "_law_known"] ["_law_bag_here", "_law_signs_here", "_law_hears", "_law_says", "_law_knows", "_law_wrong"] (defScope sSpoilt) := ⟨rfl, rfl, rfl, by decide +kernel, rfl, by decide +kernel, by decide +kernel⟩
theorem ok_spoilt (T : Fns K mg a d) : FnOk P w K mg base CX0 3 a.aSpoilt d.dSpoilt ["_law_bag_here", "_law_signs_here", "_law_hears", "_law_says", "_law_knows", "_law_wrong"] spSpoilt := by
  have GTake := ok_take (P := P) (w := w) (base := base) T
  have GOdd := ok_odd (P := P) (w := w) (base := base) T
  refine T.FSpoilt.ok scSpoilt (fun vs H Q E h => ?_) (fun cdv A outer s H vs Q E hr h => ?_)
  · obtain ⟨b, g, u, sl, wr, sg, he, kn, sa, b1, b2, b3, rfl, _⟩ := h
    rfl
  · obtain ⟨b, g, u, sl, wr, sg, he, kn, sa, b1, b2, b3, rfl, hB, hsg, hs, hd, hkl, hsl, nsb, nsg, hwr, nwb, nwg, k⟩ := h
    have hl5 := hsg.l
    have hl0 := hsg.p
    refine ⟨_, ((pss_cons (ps_set (i := 6) scSpoilt.nd rfl (Or.inl rfl) (pe_call GTake (hr.mono (by decide)) (by rfl) T.gTake T.FTake.kp T.bTake .nil pass0 (pa_cons (pv 0) (pa_cons (pe_callB call_lenS (by rfl) T.z_len (by decide +kernel) (pa_cons (pv 1) pa_nil)) pa_nil))))
      (pss_cons (ps_set (i := 7) scSpoilt.nd rfl (Or.inl rfl) (pe_lst (pa_cons (pe_call GTake (hr.mono (by decide)) (by rfl) T.gTake T.FTake.kp T.bTake .nil pass0 (pa_cons (pv 0) (pa_cons pe_int pa_nil))) (pa_cons (pe_call GTake (hr.mono (by decide)) (by rfl) T.gTake T.FTake.kp T.bTake .nil pass0 (pa_cons (pv 0) (pa_cons pe_int pa_nil))) (pa_cons (pe_call GTake (hr.mono (by decide)) (by rfl) T.gTake T.FTake.kp T.bTake .nil pass0 (pa_cons (pv 0) (pa_cons pe_int pa_nil))) pa_nil)))))
      (pss_cons (ps_set (i := 8) scSpoilt.nd rfl (Or.inl rfl) (pe_call GOdd (hr.mono (by decide)) (by rfl) T.gOdd T.FOdd.kp T.bOdd .nil pass0 (pa_cons (pv 0) (pa_cons (pv 1) pa_nil))))
      (pss_cons (ps_set (i := 9) scSpoilt.nd rfl (Or.inl rfl) (pe_ix ix_str (pv 1) (pv 6) (fun _ _ => rfl)))
      (pss_cons (ps_set (i := 10) scSpoilt.nd rfl (Or.inl rfl) (pe_lst (pa_cons (pe_slice sl_str (pv 2) po_none (po_some (pe_un un_neg pe_int))) (pa_cons (pe_op op_addS (pv 2) (pv 9)) (pa_cons (pe_op op_addS (pe_op op_addS (pe_slice sl_str (pv 2) po_none (po_some (pv 6))) (pv 8)) (pe_slice sl_str (pv 2) (po_some (pe_op op_add (pv 6) pe_int)) po_none)) (pa_cons (pe_strS (l := []) (by decide +kernel)) (pa_cons (pe_op op_addS (pe_op op_addS (pe_op op_addS (pe_slice sl_str (pv 2) po_none (po_some (pv 6))) (pv 9)) (pv 8)) (pe_slice sl_str (pv 2) (po_some (pe_op op_add (pv 6) pe_int)) po_none)) pa_nil)))))))
      (pss_cons (ps_set (i := 11) scSpoilt.nd rfl (Or.inl rfl) (pe_lst (pa_cons (pe_slice sl_list (pv 3) po_none (po_some (pe_un un_neg pe_int))) (pa_cons (pe_op op_cat (pv 3) (pe_lst (pa_cons (pv 9) pa_nil))) (pa_cons (pe_op op_cat (pe_op op_cat (pe_slice sl_list (pv 3) po_none (po_some (pv 6))) (pe_lst (pa_cons (pe_strS (l := []) (by decide +kernel)) pa_nil))) (pe_slice sl_list (pv 3) (po_some (pe_op op_add (pv 6) pe_int)) po_none)) (pa_cons (pe_op op_cat (pe_op op_cat (pe_slice sl_list (pv 3) po_none (po_some (pv 6))) (pe_lst (pa_cons (pe_op op_addS (pe_ix (r := rIxL K) ix_list (pv 3) (pv 6) (fun _ _ => rfl)) (pv 8)) pa_nil))) (pe_slice sl_list (pv 3) (po_some (pe_op op_add (pv 6) pe_int)) po_none)) pa_nil))))))
      (pss_cons (ps_set (i := 11) scSpoilt.nd rfl (Or.inl rfl) (pe_op op_cat (pv 11) (pe_lst (pa_cons (pe_op op_cat (pe_op op_cat (pe_slice sl_list (pv 3) po_none (po_some (pv 6))) (pe_lst (pa_cons (pe_op op_addS (pv 8) (pe_ix (r := rIxL K) ix_list (pv 3) (pv 6) (fun _ _ => rfl))) pa_nil))) (pe_slice sl_list (pv 3) (po_some (pe_op op_add (pv 6) pe_int)) po_none)) (pa_cons (pe_lst pa_nil) (pa_cons (pe_op op_cat (pe_op op_cat (pe_slice sl_list (pv 3) po_none (po_some (pv 6))) (pe_lst (pa_cons (pv 8) pa_nil))) (pe_slice sl_list (pv 3) (po_some (pe_op op_add (pv 6) pe_int)) po_none)) pa_nil))))))
      (pss_cons (ps_set (i := 12) scSpoilt.nd rfl (Or.inl rfl) (pe_lst (pa_cons (pe_op op_addS (pv 4) (pv 8)) (pa_cons (pe_op op_addS (pv 8) (pv 4)) (pa_cons (pv 8) (pa_cons (pe_op op_addS (pe_op op_addS (pv 9) (pv 8)) (pv 4)) pa_nil))))))
      (pss_one (ps_ret (pe_lst (pa_cons (pe_ifExp (pt_val (pe_ix (r := rIxL K) ix_list (pv 5) pe_int (fun _ _ => rfl))) (pe_ix (r := rIxL K) ix_list (pv 10) (pe_ix (r := rIxL K) ix_list (pv 7) pe_int (fun _ _ => rfl)) (fun _ _ => rfl)) (pv 2)) (pa_cons (pe_ifExp (pt_val (pe_ix (r := rIxL K) ix_list (pv 5) pe_int (fun _ _ => rfl))) (pe_ix (r := rIxL K) ix_list (pv 11) (pe_ix (r := rIxL K) ix_list (pv 7) pe_int (fun _ _ => rfl)) (fun _ _ => rfl)) (pe_callTy call_list_of (by rfl) T.z_list (by decide +kernel) (pa_cons (pv 3) pa_nil))) (pa_cons (pe_ifExp (pt_val (pe_ix (r := rIxL K) ix_list (pv 5) pe_int (fun _ _ => rfl))) (pe_ix (r := rIxL K) ix_list (pv 12) (pe_ix (r := rIxL K) ix_list (pv 7) pe_int (fun _ _ => rfl)) (fun _ _ => rfl)) (pv 4)) pa_nil))))))))))))))), ?_⟩
    walk_at "go"
    refine ⟨b, g, u, sg.length, rfl, hB, hl0, by omega, fun r1 H1 hr1 hB1 f1 => ?_⟩
    obtain ⟨c1, hc1⟩ : ∃ c, sg[r1]? = some c := ⟨_, List.getElem?_eq_getElem hr1⟩
    have hm1 := List.mem_of_getElem? hc1
    have lh := hd.lh
    have ls := hd.ls
    walk_at "go"
    refine ⟨b, g, u, 5, rfl, hB1, by decide, by decide, fun q1 H2 hq1 hB2 f2 => ?_⟩
    walk_at "go"
    refine ⟨b, g, u, 7, rfl, hB2, by decide, by decide, fun q2 H3 hq2 hB3 f3 => ?_⟩
    walk_at "go"
    refine ⟨b, g, u, 4, rfl, hB3, by decide, by decide, fun q3 H4 hq3 hB4 f4 => ?_⟩
    walk_at "go"
    refine TL.cLst (by simp) fun wy H5 hwy sw hw5 => ?_
    have wb := hB4.ne hwy
    walk_at "go"
    refine ⟨b, g, u, sg, rfl, hB4.same sw, hsg, hs, fun x H6 hx hx2 hB6 f6 => ?_⟩
    have f06 : Fr [b, g] H H6 := f1.trans (f2.trans (f3.trans (f4.trans ((Fr.of_same sw).trans f6))))
    have hw6 : H6 wy = some (.lst [.int (q1 : Nat), .int (q2 : Nat), .int (q3 : Nat)]) := f6 _ _ (by simp [wb.1, wb.2.1]) hw5
    have hsl6 : H6 sl = some (.lst (TL.tv sa)) := f06 _ _ (by simp [nsb, nsg]) hsl
    have hwr6 : H6 wr = some (.lst [.bl b1, .bl b2, .bl b3]) := f06 _ _ (by simp [nwb, nwg]) hwr
    have hr1' : r1 < he.length := by omega
    have hr1'' : r1 < sa.length := by omega
    obtain ⟨s1, hs1⟩ : ∃ s, sa[r1]? = some s := ⟨_, List.getElem?_eq_getElem hr1''⟩
    have hsv : (TL.tv sa)[r1]? = some (V.str (S s1)) := by
      show (sa.map _)[r1]? = _
      rw [List.getElem?_map, hs1]
      rfl
    have hsm := hd.ms _ (List.mem_of_getElem? hs1)
    walk_at "go"
    refine TL.cLst (by simp) fun pl7 H7 hpl7 t7 h7 => ?_
    have hsl7 := t7 _ _ hsl6
    walk_at "go"
    intro pa H8 t8 h8
    have hsl8 := t8 _ _ hsl7
    walk_at "go"
    refine TL.cSnoc hsl8 (by omega) fun pb H9 t9 h9 => ?_
    have hsl9 := t9 _ _ hsl8
    walk_at "go"
    intro y1 Ha ta ha
    have hsla := ta _ _ hsl9
    walk_at "go"
    refine TL.cMid rfl rfl hsla ha (by omega) fun pc Hb tb hb => ?_
    have hslb := tb _ _ hsla
    walk_at "go"
    intro y2 Hc tc hc
    have hslc := tc _ _ hslb
    walk_at "go"
    refine TL.cMid rfl rfl hslc hc (by omega) fun pd Hd td hd' => ?_
    have hsld := td _ _ hslc
    walk_at "go"
    refine TL.cLst (by simp) fun la He hla te' hle => ?_
    have hsle := te' _ _ hsld
    walk_at "go"
    intro y3 Hf tf hf
    have hslf := tf _ _ hsle
    walk_at "go"
    refine TL.cMid rfl rfl hslf hf (by omega) fun pe Hg tg hg => ?_
    have hslg := tg _ _ hslf
    walk_at "go"
    refine TL.cLst (by simp) fun pf Hh hpf th hh => ?_
    have hslh := th _ _ hslg
    walk_at "go"
    intro y4 Hi ti hi
    have hsli := ti _ _ hslh
    walk_at "go"
    refine TL.cMid rfl rfl hsli hi (by omega) fun pg Hj tj hj => ?_
    have hslj := tj _ _ hsli
    walk_at "go"
    refine TL.cLst (by simp) fun lb Hk hlb tk hk => ?_
    have hslk := tk _ _ hslj
    have sek : Same He Hk := TL.tr tf (TL.tr tg (TL.tr th (TL.tr ti (TL.tr tj tk))))
    refine TL.iCatS (sek _ _ hle) hk (by simp) fun lc Hl hlc tl hl => ?_
    have hsll := tl _ _ hslk
    walk_at "go"
    refine TL.cLst (by simp) fun kl Hm hkl' tm hm => ?_
    have hslm := tm _ _ hsll
    have hxs : ∀ l : List Nat, x ∈ [x] ++ l := fun l => List.mem_append_left _ List.mem_cons_self
    have l50 : ∀ s ∈ sa, s.length ≤ 50 := fun s hs => (hd.ms s hs).2.2
    have tk1 := List.length_take (i := r1) (l := sa)
    have dk1 := List.length_drop (i := r1 + 1) (l := sa)
    have th1 := List.length_take (i := r1) (l := he)
    have dh1 := List.length_drop (i := r1 + 1) (l := he)
    obtain ⟨L1, hL1, pL1⟩ : ∃ L : List V, Hm pl7 = some (.lst L) ∧ ∀ q, q < 5 → ∃ t, L[q]? = some (.str (S t)) ∧ herB sg t = false ∧ t.length ≤ 100 := by
      refine ⟨_, TL.tr t8 (TL.tr t9 (TL.tr ta (TL.tr tb (TL.tr tc (TL.tr td (TL.tr te' (TL.tr sek (TL.tr tl tm)))))))) _ _ h7, fun q hq => ?_⟩
      match q, hq with
      | 0, _ => exact ⟨_, by rw [TL.cutS_init]; rfl, her_len (by rw [List.length_take]; omega), by rw [List.length_take]; omega⟩
      | 1, _ => exact ⟨_, rfl, her_len (by rw [List.length_append, List.length_singleton]; omega), by rw [List.length_append, List.length_singleton]; omega⟩
      | 2, _ => exact ⟨_, rfl, her_x (x := x) (by simp) hx, by simp only [List.length_append, List.length_take, List.length_drop, List.length_singleton]; omega⟩
      | 3, _ => exact ⟨_, rfl, her_len (by rw [List.length_nil]; omega), by simp⟩
      | 4, _ => exact ⟨_, rfl, her_x (x := x) (by simp) hx, by simp only [List.length_append, List.length_take, List.length_drop, List.length_singleton]; omega⟩
      | q + 5, h => omega
    obtain ⟨L2, hL2, pL2⟩ : ∃ L : List V, Hm lc = some (.lst L) ∧ ∀ q, q < 7 → ∃ (p : Addr) (l : List (List Nat)), L[q]? = some (.ref p) ∧ Hm p = some (.lst (TL.tv l)) ∧ sasB sg l = false ∧ l.length ≤ 100 ∧ (∀ s ∈ l, s.length ≤ 100) ∧ ∀ s ∈ l, ∀ c ∈ s, c < 0x110000 := by
      refine ⟨_, tm _ _ hl, fun q hq => ?_⟩
      have tklm := TL.tr tk (TL.tr tl tm)
      have tdm := TL.tr te' (TL.tr sek (TL.tr tl tm))
      have wsa : ∀ s ∈ sa, ∀ c ∈ s, c < 0x110000 := fun s hs c hc => by have := hsg.c c ((hd.ms s hs).2.1 c hc); omega
      have w1 : ∀ c ∈ [c1], c < 0x110000 := fun c hc => by have := hsg.c c1 hm1; rw [List.mem_singleton.mp hc]; omega
      have wx : ∀ c ∈ [x], c < 0x110000 := fun c hc => by rw [List.mem_singleton.mp hc]; omega
      have ws1 : ∀ c ∈ s1, c < 0x110000 := wsa s1 (List.mem_of_getElem? hs1)
      have wap : ∀ {p q : List Nat}, (∀ c ∈ p, c < 0x110000) → (∀ c ∈ q, c < 0x110000) → ∀ c ∈ p ++ q, c < 0x110000 := fun h1 h2 c hc => (List.mem_append.mp hc).elim (h1 c) (h2 c)
      have mid : ∀ z : List Nat, sayB sg z = false → z.length ≤ 100 → (∀ c ∈ z, c < 0x110000) → sasB sg (sa.take r1 ++ [z] ++ sa.drop (r1 + 1)) = false ∧ (sa.take r1 ++ [z] ++ sa.drop (r1 + 1)).length ≤ 100 ∧ (∀ s ∈ sa.take r1 ++ [z] ++ sa.drop (r1 + 1), s.length ≤ 100) ∧ ∀ s ∈ sa.take r1 ++ [z] ++ sa.drop (r1 + 1), ∀ c ∈ s, c < 0x110000 := fun z hz hzl hzw => by
        refine ⟨sas_mem (s := z) (by simp) hz, by rw [List.length_append, List.length_append, List.length_singleton]; omega, fun s hs => ?_, fun s hs => ?_⟩
        rotate_left
        · rcases List.mem_append.mp hs with h | h
          · rcases List.mem_append.mp h with h | h
            · exact wsa s (List.mem_of_mem_take h)
            · rw [List.mem_singleton.mp h]
              exact hzw
          · exact wsa s (List.mem_of_mem_drop h)
        rcases List.mem_append.mp hs with h | h
        · rcases List.mem_append.mp h with h | h
          · have := l50 s (List.mem_of_mem_take h)
            omega
          · rw [List.mem_singleton.mp h]
            exact hzl
        · have := l50 s (List.mem_of_mem_drop h)
          omega
      have la1 : (s1 ++ [x]).length ≤ 100 := by rw [List.length_append, List.length_singleton]; omega
      have la2 : ([x] ++ s1).length ≤ 100 := by rw [List.length_append, List.length_singleton]; omega
      match q, hq with
      | 0, _ => exact ⟨pa, _, rfl, TL.tr t9 (TL.tr ta (TL.tr tb (TL.tr tc (TL.tr td tdm)))) _ _ h8, sas_len (by rw [List.length_take]; omega), by rw [List.length_take]; omega, fun s hs => by have := l50 s (List.mem_of_mem_take hs); omega, fun s hs => wsa s (List.mem_of_mem_take hs)⟩
      | 1, _ =>
        refine ⟨pb, _, rfl, TL.tr ta (TL.tr tb (TL.tr tc (TL.tr td tdm))) _ _ h9, sas_len (by rw [List.length_append, List.length_singleton]; omega), by rw [List.length_append, List.length_singleton]; omega, fun s hs => ?_, fun s hs => ?_⟩
        · rcases List.mem_append.mp hs with h | h
          · have := l50 s h
            omega
          · rw [List.mem_singleton.mp h]
            simp
        · rcases List.mem_append.mp hs with h | h
          · exact wsa s h
          · rw [List.mem_singleton.mp h]
            exact w1
      | 2, _ => exact ⟨pc, _, rfl, TL.tr tc (TL.tr td tdm) _ _ hb, mid _ say_nil (by simp) (fun _ z => nomatch z)⟩
      | 3, _ => exact ⟨pd, _, rfl, tdm _ _ hd', mid _ (say_x (x := x) (by simp) hx) la1 (wap ws1 wx)⟩
      | 4, _ => exact ⟨pe, _, rfl, TL.tr th (TL.tr ti (TL.tr tj tklm)) _ _ hg, mid _ (say_x (x := x) (hxs _) hx) la2 (wap wx ws1)⟩
      | 5, _ => exact ⟨pf, [], rfl, TL.tr ti (TL.tr tj tklm) _ _ hh, sas_len (by rw [List.length_nil]; omega), by decide, (fun s hs => nomatch hs), (fun s hs => nomatch hs)⟩
      | 6, _ => exact ⟨pg, _, rfl, tklm _ _ hj, mid _ (say_x (x := x) List.mem_cons_self hx) (by simp) wx⟩
      | q + 7, h => omega
    obtain ⟨L3, hL3, pL3⟩ : ∃ L : List V, Hm kl = some (.lst L) ∧ ∀ q, q < 4 → ∃ t, L[q]? = some (.str (S t)) ∧ txtB sg t = false ∧ t.length ≤ 100 := by
      refine ⟨_, hm, fun q hq => ?_⟩
      match q, hq with
      | 0, _ => exact ⟨_, rfl, txt_x (x := x) (by simp) hx, by rw [List.length_append, List.length_singleton]; omega⟩
      | 1, _ => exact ⟨_, rfl, txt_x (x := x) (hxs _) hx, by rw [List.length_append, List.length_singleton]; omega⟩
      | 2, _ => exact ⟨_, rfl, txt_x (x := x) List.mem_cons_self hx, by simp⟩
      | 3, _ => exact ⟨_, rfl, txt_x (x := x) (by simp) hx, by rw [List.length_append, List.length_append, List.length_singleton, List.length_singleton]; omega⟩
      | q + 4, h => omega
    obtain ⟨he', et1, bt1, lt1⟩ := pL1 q1 hq1
    obtain ⟨sl', sa', et2, hsl', bt2, lt2, lu2, lw2⟩ := pL2 q2 hq2
    obtain ⟨kn', et3, bt3, lt3⟩ := pL3 q3 hq3
    have t6m : Same H6 Hm := TL.tr t7 (TL.tr t8 (TL.tr t9 (TL.tr ta (TL.tr tb (TL.tr tc (TL.tr td (TL.tr te' (TL.tr sek (TL.tr tl tm)))))))))
    have hwrm := t6m _ _ hwr6
    have hwm := t6m _ _ hw6
    have hBm := hB6.same t6m
    have f0m : Fr [b, g] H Hm := f06.trans (Fr.of_same t6m)
    have l5a : ∀ s ∈ sa, s.length ≤ 100 := fun s hs => by have := l50 s hs; omega
    have w5a : ∀ s ∈ sa, ∀ c ∈ s, c < 0x110000 := fun s hs c hc => by have := hsg.c c ((hd.ms s hs).2.1 c hc); omega
    clear h7 h8 h9 ha hb hc hd' hle hf hg hh hi hj hk hl hm pL1 pL2 pL3 hsl6 hsl7 hsl8 hsl9 hsla hslb hslc hsld hsle hslf hslg hslh hsli hslj hslk hsll hw6 hwr6 hw5
    cases b2 with
    | true =>
      have fin : ∀ (he2 kn2 : List Nat), he2.length ≤ 100 → kn2.length ≤ 100 → (if b1 = true then herB sg he2 = false else he2 = he) → (if b3 = true then txtB sg kn2 = false else kn2 = kn) → ∀ pp Hn, Same Hm Hn → Hn pp = some (.lst [.str (S he2), .ref sl', .str (S kn2)]) → Q (.ref pp) Hn := fun he2 kn2 z1 z2 z3 z4 pp Hn tn hn => k pp sl' he2 kn2 sa' Hn hn (tn _ _ hsl') ⟨z1, lt2, lu2, z2, lw2, z3, bt2, z4⟩ (hBm.same tn) (f0m.trans (Fr.of_same tn))
      cases b1 with
      | true =>
        cases b3 with
        | true =>
          walk_at "go"
          exact TL.cLst (by simp) fun pp Hn hpp tn hn => fin he' kn' lt1 lt3 bt1 bt3 pp Hn tn hn
        | false =>
          walk_at "go"
          exact TL.cLst (by simp) fun pp Hn hpp tn hn => fin he' kn lt1 (by omega) bt1 rfl pp Hn tn hn
      | false =>
        cases b3 with
        | true =>
          walk_at "go"
          exact TL.cLst (by simp) fun pp Hn hpp tn hn => fin he kn' (by omega) lt3 rfl bt3 pp Hn tn hn
        | false =>
          walk_at "go"
          exact TL.cLst (by simp) fun pp Hn hpp tn hn => fin he kn (by omega) (by omega) rfl rfl pp Hn tn hn
    | false =>
      have fin : ∀ (he2 kn2 : List Nat), he2.length ≤ 100 → kn2.length ≤ 100 → (if b1 = true then herB sg he2 = false else he2 = he) → (if b3 = true then txtB sg kn2 = false else kn2 = kn) → ∀ p', Hm p' = none → ∀ pp Hn, Same (upd Hm p' (HO.lst (TL.tv sa))) Hn → Hn pp = some (.lst [.str (S he2), .ref p', .str (S kn2)]) → Q (.ref pp) Hn := fun he2 kn2 z1 z2 z3 z4 p' hp' pp Hn tn hn => by
        have tn' := TL.tr (TL.new (x := HO.lst (TL.tv sa)) hp') tn
        exact k pp p' he2 kn2 sa Hn hn (tn _ _ upd_same) ⟨z1, by omega, l5a, z2, w5a, z3, rfl, z4⟩ (hBm.same tn') (f0m.trans (Fr.of_same tn'))
      cases b1 with
      | true =>
        cases b3 with
        | true =>
          walk_at "go"
          rename_i p' hp'
          exact TL.cLst (by simp) fun pp Hn hpp tn hn => fin he' kn' lt1 lt3 bt1 bt3 p' hp' pp Hn tn hn
        | false =>
          walk_at "go"
          rename_i p' hp'
          exact TL.cLst (by simp) fun pp Hn hpp tn hn => fin he' kn lt1 (by omega) bt1 rfl p' hp' pp Hn tn hn
      | false =>
        cases b3 with
        | true =>
          walk_at "go"
          rename_i p' hp'
          exact TL.cLst (by simp) fun pp Hn hpp tn hn => fin he kn' (by omega) lt3 rfl bt3 p' hp' pp Hn tn hn
        | false =>
          walk_at "go"
          rename_i p' hp'
          exact TL.cLst (by simp) fun pp Hn hpp tn hn => fin he kn (by omega) (by omega) rfl rfl p' hp' pp Hn tn hn
end
end
section
set_option Elab.async false
set_option linter.all false
set_option maxRecDepth 100000
set_option maxHeartbeats 4000000
open PySem PySem.Spec PyProof.Rows L2 NSet

local macro_rules | `(tactic| walk_at "side") => `(tactic| exact .inl (by assumption))
local macro_rules | `(tactic| walk_at "go1") => `(tactic| (with_reducible refine iGTup (by assumption) rfl ?_))
local macro_rules | `(tactic| walk_at "go1") => `(tactic| (with_reducible refine iGCons ?_))
local macro_rules | `(tactic| walk_at "go1") => `(tactic| (with_reducible refine iGNil ?_))
local macro_rules | `(tactic| walk_at "go1") => `(tactic| (with_reducible refine iMakeV ?_))
local macro_rules | `(tactic| walk_at "go1") => `(tactic| (with_reducible refine iMakeD ?_))
local macro_rules | `(tactic| walk_at "go1") => `(tactic| (with_reducible refine iLc2S ?_))
local macro_rules | `(tactic| walk_at "go1") => `(tactic| (with_reducible refine iLc2L ?_))
local macro_rules | `(tactic| walk_at "go1") => `(tactic| (with_reducible refine iIStr ?_))
local macro_rules | `(tactic| walk_at "go1") => `(tactic| (with_reducible refine iIxI ?_))
local macro_rules | `(tactic| walk_at "go1") => `(tactic| (with_reducible refine iCMeth ?_))

section
variable {P : Program} {w : World} {K : PySem.W.Frag} {mg : Str → Option Value} {base : Heap} {a : Ad} {d : Fd}
theorem iCallS {sp : Sp} {E : L2.St → XK} {t : TA} {σ : L2.St} {H : Hp} {Q : VK} (h : t σ H fun vs H1 => sp vs H1 Q (E σ)) : tCallS sp E t σ H Q := h
local macro_rules | `(tactic| walk_at "go1") => `(tactic| (with_reducible refine iCallS ?_))
/-! k23: _law_refused -/
def spRefused (a : Ad) : Sp := fun vs H Q _ => ∃ (al pl sl : Addr) (i : Nat) (sg W he kn he' kn' : List Nat) (sa sa' : List (List Nat)) (b1 b2 b3 : Bool), vs = [.ref al, .int (i : Nat), .ref pl, .str (S (dueL i b1 b2 b3))] ∧ i < 4 ∧ AlG a.cAlphabet H al sg W ∧ SgOk sg ∧ DatOk sg he sa ∧ kn.length ≤ 50 ∧ txtB sg kn = true ∧
  H pl = some (.lst [.str (S he'), .ref sl, .str (S kn')]) ∧ H sl = some (.lst (sa'.map fun t => V.str (S t))) ∧ SpoR sg he sa kn he' sa' kn' b1 b2 b3 ∧ (∀ s ∈ sa', ∀ c ∈ s, c < 0x110000) ∧ ∀ H', Same H H' → Q (.bl true) H'
theorem due_good {sg he : List Nat} {sa : List (List Nat)} {kn he' : List Nat} {sa' : List (List Nat)} {kn' : List Nat} {b1 b2 b3 : Bool} {i : Nat} (R : SpoR sg he sa kn he' sa' kn' b1 b2 b3) (hd : DatOk sg he sa) (hk : kn.length ≤ 50) (ht : txtB sg kn = true) (e : dueL i b1 b2 b3 = []) : DatOk sg he' sa' ∧ (i % 2 = 1 → kn'.length ≤ 50 ∧ txtB sg kn' = true) := by
  cases b1 with
  | true => exact absurd (show wHears = [] from e) (by decide)
  | false =>
    cases b2 with
    | true => exact absurd (show wSays = [] from e) (by decide)
    | false =>
      have r1 : he' = he := R.r1
      have r2 : sa' = sa := R.r2
      subst r1
      subst r2
      refine ⟨hd, fun hi => ?_⟩
      cases b3 with
      | true =>
        unfold dueL at e
        rw [if_neg (by decide), if_neg (by decide), decide_eq_true hi] at e
        exact absurd e (by decide +kernel)
      | false =>
        have r3 : kn' = kn := R.r3
        subst r3
        exact ⟨hk, ht⟩
theorem her_ok {sg he : List Nat} {sa : List (List Nat)} (hd : DatOk sg he sa) : herB sg he = true := by
  unfold herB txtB
  rw [decide_eq_true hd.lh, decide_eq_true hd.mh]
  rfl
theorem due_bad {sg he : List Nat} {sa : List (List Nat)} {kn he' : List Nat} {sa' : List (List Nat)} {kn' : List Nat} {b1 b2 b3 : Bool} {i : Nat} (R : SpoR sg he sa kn he' sa' kn' b1 b2 b3) (hd : DatOk sg he sa) (e : dueL i b1 b2 b3 ≠ []) : WrongI i sg he' sa' kn' (dueL i b1 b2 b3) := by
  cases b1 with
  | true => exact .inl (.inl ⟨rfl, R.r1⟩)
  | false =>
    have r1 : he' = he := R.r1
    subst r1
    cases b2 with
    | true => exact .inl (.inr ⟨rfl, her_ok hd, R.r2⟩)
    | false =>
      have r2 : sa' = sa := R.r2
      subst r2
      cases b3 with
      | false => exact absurd rfl e
      | true =>
        by_cases hi : i % 2 = 1
        · have r3 : txtB sg kn' = false := R.r3
          have ed : dueL i false false true = wKnows := by
            unfold dueL
            rw [if_neg (by decide), if_neg (by decide), decide_eq_true hi]
            rfl
          exact .inr ⟨hi, ed, hd, r3⟩
        · exact absurd (by
            unfold dueL
            rw [if_neg (by decide), if_neg (by decide), decide_eq_false hi]
            rfl) e
theorem scRefused : FnScope ["_law_alphabet", "_law_kind", "_law_parts", "_law_due_here", "_law_kept", "_law_told", "e"] ["_law_alphabet", "_law_kind", "_law_parts", "_law_due_here"] (defScope sRefused) := ⟨rfl, rfl, rfl, by decide +kernel, rfl, by decide +kernel, by decide +kernel⟩
theorem ok_refused (T : Fns K mg a d) (M : Px K a) (Z : Qx P K mg a d) (BBadPerson : ErrX K a a.cBadPerson a.cUnk "part") (GBadPerson : FnOk P w K mg base CX0 1 a.eBadPerson d.eBadPerson ["self", "part"] (spErr a.cBadPerson "part")) :
    FnOk P w K mg base CX0 8 a.aRefused d.dRefused ["_law_alphabet", "_law_kind", "_law_parts", "_law_due_here"] (spRefused a) := by
  have GMake := FnOk.or (ok_make (P := P) (w := w) (base := base) T M Z) (ok_makeX (P := P) (w := w) (base := base) T M Z GBadPerson)
  refine T.FRefused.ok scRefused (fun vs H Q E h => ?_) (fun cdv A0 outer s H vs Q E hr h => ?_)
  · obtain ⟨al, pl, sl, i, sg, W, he, kn, he', kn', sa, sa', b1, b2, b3, rfl, _⟩ := h
    rfl
  · obtain ⟨al, pl, sl, i, sg, W, he, kn, he', kn', sa, sa', b1, b2, b3, rfl, hi, hal, hsg, hd, hkl, hkt, hpl, hsl, R, hlow, k⟩ := h
    refine ⟨_, ((pss_cons (ps_set (i := 4) scRefused.nd rfl (Or.inl rfl) (pe_callTy call_list_of (by rfl) T.z_list (by decide +kernel) (pa_cons (pe_ix (r := rIxL K) ix_list (pv 2) pe_int (fun _ _ => rfl)) pa_nil)))
      (pss_cons (ps_set (i := 5) scRefused.nd rfl (Or.inl rfl) pe_non)
      (pss_cons (ps_try_as (i := 6) (tb := _) (ts := _) (Wout := fun _ _ _ _ => False) rfl rfl scRefused.nd rfl rfl ⟨rfl, by decide, Or.inl T.gcBadPerson⟩ takes0 (fun W pn xe tk _ => (pss_one (ps_set (i := 5) scRefused.nd rfl (Or.inl rfl) (pe_callS GMake (hr.mono (by decide)) (by rfl) T.gMake T.FMake.kp T.bMake (fun σ => passAt tk σ) (pa_cons (pv 0) (pa_cons (pv 1) (pa_cons (pe_ix (r := rIxL K) ix_list (pv 2) pe_int (fun _ _ => rfl)) (pa_cons (pe_ix (r := rIxL K) ix_list (pv 2) pe_int (fun _ _ => rfl)) (pa_cons (pe_ix (r := rIxL K) ix_list (pv 2) pe_int (fun _ _ => rfl)) pa_nil))))))))) (fun ab oe cls db pn hz hf => (pss_cons (ps_if (PW.pt (pw_or (pt_not (pt_val (pe_callB (call_isX hz hf) (by rfl) T.z_isinstance (by decide +kernel) (pa_cons (pv 6) (pa_cons (pe_glob (v := .ref a.cTale) (by rfl) T.gcTaleError rfl) pa_nil))))) (pw_or (pt_not (pt_val (pe_callB (call_isX hz hf) (by rfl) T.z_isinstance (by decide +kernel) (pa_cons (pv 6) (pa_cons (pe_bltn (v := .ty "ValueError") (by rfl) T.z_VE (by decide +kernel) rfl) pa_nil))))) (pw_or1 (pt_val (pe_callB (call_isX hz hf) (by rfl) T.z_isinstance (by decide +kernel) (pa_cons (pv 6) (pa_cons (pe_glob (v := .ref a.cUnk) (by rfl) T.gcUnknownSign rfl) pa_nil)))))))) (pss_one (ps_ret pe_bl)) pss_nil)
      (pss_one (ps_ret (pe_and (pe_cmpR op_ne (pv 3) (pe_strS (l := []) (by decide +kernel)) (nomark _)) (pe_and (pe_cmpR op_eq (pe_xf BBadPerson.xf BBadPerson.np hz hf (pv 6)) (pv 3) (nomark _)) (pe_one (pe_cmpR (r := rEqD K) (op_eqD (by exact hr.units)) (pe_ix (r := rIxL K) ix_list (pv 2) pe_int (fun _ _ => rfl)) (pv 4) (nomark _))))))))))
      (pss_one (ps_ret (pe_and (pe_cmpR op_eq (pv 3) (pe_strS (l := []) (by decide +kernel)) (nomark _)) (pe_one (pe_cmpR (op_eqD hr.units) (pe_ix (r := rIxL K) ix_list (pv 2) pe_int (fun _ _ => rfl)) (pv 4) (nomark _)))))))))), ?_⟩
    have G := due_good (i := i) R hd hkl hkt
    have B := due_bad (i := i) R hd
    generalize dueL i b1 b2 b3 = due at G B
    have hi7 := R.l1
    walk_at "go"
    rename_i kp hkp
    have sk : Same H (upd H kp (.lst (TL.tv sa'))) := TL.new hkp
    have hk1 : (upd H kp (.lst (TL.tv sa'))) kp = some (.lst (TL.tv sa')) := upd_same
    show spMk a _ (upd H kp (.lst (TL.tv sa'))) _ _ ∨ spMkX a _ (upd H kp (.lst (TL.tv sa'))) _ _
    generalize (upd H kp (.lst (TL.tv sa'))) = H1 at sk hk1 ⊢
    have hsl1 := sk _ _ hsl
    have hpl1 := sk _ _ hpl
    by_cases hdue : due = []
    · subst hdue
      obtain ⟨hd', hk'⟩ := G rfl
      refine Or.inl ⟨al, sl, i, sg, W, he', kn', sa', rfl, hi, hal.same sk, hsg, hsl1, hd', hk', fun p H2 s2 hP => ?_⟩
      have hpl2 := s2 _ _ hpl1
      walk_at "go"
      refine TL.iEq (s2 _ _ hsl1) (s2 _ _ hk1) hlow hlow ?_
      rw [decide_eq_true rfl]
      exact k H2 (TL.tr sk s2)
    · refine Or.inr ⟨al, sl, i, sg, W, he', kn', due, sa', rfl, hi, hal.same sk, hsg, hsl1, R.l1, R.l2, R.l3, R.l4, B hdue, fun dd H2 h1 h2 s2 => ?_⟩
      have hpl2 := s2 _ _ hpl1
      refine ⟨true, BBadPerson.e1, fun _ ab hab => ?_, fun q => Bool.noConfusion q⟩
      walk_at "go"
      refine iIsX1 BBadPerson.ec h2 (.own a.cTale) BBadPerson.k1 ?_
      walk_at "go"
      refine iIsX1 BBadPerson.ec h2 (.ty "ValueError") BBadPerson.k2 ?_
      walk_at "go"
      refine iIsX1 BBadPerson.ec h2 (.own a.cUnk) BBadPerson.k3 ?_
      walk_at "go"
      refine ⟨_, rfl, rfl, rfl, dd, _, _, rfl, h2, rfl, ?_⟩
      walk_at "go"
      refine TL.iEq (s2 _ _ hsl1) (s2 _ _ hk1) hlow hlow ?_
      rw [decide_eq_true rfl]
      exact k H2 (TL.tr sk s2)
end
end
section
set_option Elab.async false
set_option linter.all false
set_option maxRecDepth 100000
set_option maxHeartbeats 4000000
open PySem PySem.Spec PyProof.Rows L2 NSet

local macro_rules | `(tactic| walk_at "side") => `(tactic| exact .inl (by assumption))
local macro_rules | `(tactic| walk_at "go1") => `(tactic| (with_reducible refine iGTup (by assumption) rfl ?_))
local macro_rules | `(tactic| walk_at "go1") => `(tactic| (with_reducible refine iGCons ?_))
local macro_rules | `(tactic| walk_at "go1") => `(tactic| (with_reducible refine iGNil ?_))
local macro_rules | `(tactic| walk_at "go1") => `(tactic| (with_reducible refine iMakeV ?_))
local macro_rules | `(tactic| walk_at "go1") => `(tactic| (with_reducible refine iMakeD ?_))
local macro_rules | `(tactic| walk_at "go1") => `(tactic| (with_reducible refine iLc2S ?_))
local macro_rules | `(tactic| walk_at "go1") => `(tactic| (with_reducible refine iLc2L ?_))
local macro_rules | `(tactic| walk_at "go1") => `(tactic| (with_reducible refine iIStr ?_))
local macro_rules | `(tactic| walk_at "go1") => `(tactic| (with_reducible refine iIxI ?_))
local macro_rules | `(tactic| walk_at "go1") => `(tactic| (with_reducible refine iCMeth ?_))

section
variable {P : Program} {w : World} {K : PySem.W.Frag} {mg : Str → Option Value} {base : Heap} {a : Ad} {d : Fd}
local macro_rules | `(tactic| walk_at "go1") => `(tactic| (with_reducible refine iRevS ?_))
local macro_rules | `(tactic| walk_at "go1") => `(tactic| (with_reducible refine TL.iLstS ?_))
local macro_rules | `(tactic| walk_at "nrm") => `(tactic| try simp only [List.set_cons_succ, List.set_cons_zero])
theorem pe_revLK {X : Cx} {K : PySem.W.Frag} {e : Expr} {te : TE} {k : Nat} {p1 p2 p3 pos : Pos} (he : PE X e te) (hK : X.K = K := by rfl) : PE X (.Subscript e (.Slice none none (some (.UnaryOp .USub (.Constant (.int 1) k p1) p2)) p3) pos) (tRevL K te) := by
  subst hK
  exact pe_revL he
theorem iBM0 {T : String} {K : PySem.W.Frag} {r : V → List V → Hp → VK → Prop} {te : TE} {σ : L2.St} {H : Hp} {Q : VK} (h : te σ H fun x H1 => tyV K T x H1 ∧ r x [] H1 Q) : tBM0 K T r te σ H Q := h
theorem iRevrs {l : Addr} {xs : List V} {H : Hp} {Q : VK} (h : H l = some (.lst xs)) (k : Q .non (upd H l (.lst xs.reverse))) : rReverse (.ref l) [] H Q := ⟨l, xs, rfl, rfl, h, k⟩
local macro_rules | `(tactic| walk_at "go1") => `(tactic| (with_reducible refine iBM0 ?_))
local macro_rules | `(tactic| walk_at "go1") => `(tactic| ((with_reducible apply iRevrs); (walk_at "lk")))
local macro_rules | `(tactic| walk_at "go1") => `(tactic| (with_reducible refine iRevL ?_))
theorem AlOk.due {l v : List Nat} (h : AlOk l v) : dueT l v = "" := by
  unfold dueT
  rw [if_neg (by
    rintro (q | q | q)
    · have := h.h1; omega
    · have := h.h4; omega
    · exact q h.dl), if_neg (fun q => q ⟨h.vn, h.vl⟩)]
theorem az_ge : ∀ c ∈ azL, 97 ≤ c ∧ c ≤ 122 := by decide +kernel
theorem AlOk.ge {l v : List Nat} (h : AlOk l v) : ∀ c ∈ l, 97 ≤ c ∧ c ≤ 122 := fun c hc => az_ge c (h.dl.2 c hc)
theorem asc_srt {l : List Nat} (h : l.Nodup) : Asc (srtL l) := ((srtL_le l).and (srtL_nodup.mpr h)).imp fun q => by omega
theorem AlOk.sg {l v : List Nat} (h : AlOk l v) : SgOk (45 :: srtL l) := by
  refine ⟨List.pairwise_cons.mpr ⟨fun c hc => ?_, asc_srt h.dl.1⟩, ?_, by simp, fun c hc => ?_⟩
  · have := h.ge c (srtL_mem.mp hc); omega
  · have := h.h4
    rw [List.length_cons, srtL_len]; omega
  · rcases List.mem_cons.mp hc with e | e
    · omega
    · have := h.ge c (srtL_mem.mp e); omega
theorem AlOk.vlen {l v : List Nat} (h : AlOk l v) : v.length ≤ 4 := by
  have := len_of_sub h.vn h.vl
  have := h.h4
  omega
theorem AlOk.sl {l v : List Nat} (h : AlOk l v) : SgL (45 :: srtL l) := by
  refine ⟨?_, fun c hc => ?_⟩
  · have := h.h1
    rw [List.length_cons, srtL_len]; omega
  · rcases List.mem_cons.mp hc with e | e
    · exact .inl e
    · exact .inr (h.ge c (srtL_mem.mp e))
theorem iMkA {C B : Addr} {al dx : Addr} {H0 : Hp} {l v : List Nat} {R : Hp → Prop} {E : XK} (ht : H0 al = none) (hd : H0 dx = none) (hn : dx ≠ al) (hk : AlOk l v) (k : ∀ H', Same H0 H' → AlG C H' al (45 :: srtL l) (srtL v) → R H') :
    spAl C B [.ref al, .str (S l), .str (S v)] (upd (upd H0 dx (.own al)) al (.ins C dx [])) (fun w H2 => w = .non ∧ R H2) E := by
  have s1 : Same H0 (upd (upd H0 dx (.own al)) al (.ins C dx [])) := fun c o hc => by
    rw [upd_ne (fun z => by rw [z, ht] at hc; cases hc), upd_ne (fun z => by rw [z, hd] at hc; cases hc)]
    exact hc
  have := hk.h4
  have := hk.vlen
  refine ⟨al, dx, l, v, rfl, upd_same, by omega, by omega, fun _ H' h1 h2 => ⟨rfl, k H' (fun c o hc => h2 c o (fun z => by rw [z, ht] at hc; cases hc) (s1 c o hc)) ⟨l, v, h1, rfl, rfl⟩⟩, fun h => absurd hk.due h⟩
/-- what no list is stays -/
def Kl (H H' : Hp) : Prop := ∀ c o, H c = some o → (∀ xs, o ≠ .lst xs) → H' c = some o
theorem Kl.of {H H' : Hp} (s : Same H H') : Kl H H' := fun c o h _ => s c o h
theorem Kl.tr {H H' H2 : Hp} (s : Kl H H') (t : Kl H' H2) : Kl H H2 := fun c o h n => t c o (s c o h n) n
theorem Kl.bag {H H' : Hp} {b g u : Addr} (f : Fr [b, g] H H') (h : BagB H b g u) : Kl H H' := fun c o hx ho => by
  obtain ⟨gl, sl, n, r, e1, e2, e3, _⟩ := h
  refine f c o (fun m => ?_) hx
  rcases List.mem_cons.mp m with z | z
  · rw [z, e1] at hx; exact ho _ (Option.some.inj hx).symm
  · rw [List.mem_singleton.mp z, e2] at hx; exact ho _ (Option.some.inj hx).symm
theorem Kl.upd {H : Hp} {p : Addr} {xs : List V} {o : HO} (h : H p = some (.lst xs)) : Kl H (L2.upd H p o) := fun c o' hc n => by
  rw [upd_ne (fun z => by rw [z, h] at hc; exact n _ (Option.some.inj hc).symm)]
  exact hc
theorem AlG.kl {C : Addr} {H H' : Hp} {al : Addr} {sg W : List Nat} (h : AlG C H al sg W) (f : Kl H H') : AlG C H' al sg W := by
  obtain ⟨l, v, ⟨dy, h2⟩, z⟩ := h
  exact ⟨l, v, ⟨dy, f _ _ h2 fun xs z => by cases z⟩, z⟩
theorem PsB.kl {a : Ad} {H H' : Hp} {p al : Addr} {i : Nat} {sg W he : List Nat} {sa : List (List Nat)} {more : List (Str × V)} (h : PsB a H p al i sg W he sa more) (s : Kl H H') : PsB a H' p al i sg W he sa more := by
  obtain ⟨⟨dx, hd, sd, h1, h2, h3⟩, h4⟩ := h
  exact ⟨⟨dx, hd, sd, s _ _ h1 fun xs z => (by cases z), s _ _ h2 fun xs z => (by cases z), s _ _ h3 fun xs z => (by cases z)⟩, h4.kl s⟩
/-- a list of people, each of its own kind -/
structure PL (a : Ad) (H : Hp) (D al : Addr) (n : Nat) (sg W he : List Nat) (sa : List (List Nat)) (kn : List Nat) (ps : List Addr) : Prop where
  n : ps.length = n
  l : H D = some (.lst (ps.map V.ref))
  p : ∀ i p, ps[i]? = some p → PsB a H p al i sg W he sa (moreK i kn)
theorem PL.start {a : Ad} {H : Hp} {D al : Addr} {sg W he kn : List Nat} {sa : List (List Nat)} : PL a (L2.upd H D (.lst [])) D al 0 sg W he sa kn [] := ⟨rfl, upd_same, fun i p h => by simp at h⟩
theorem PL.snoc {a : Ad} {H H3 : Hp} {D al p : Addr} {n : Nat} {sg W he kn : List Nat} {sa : List (List Nat)} {ps : List Addr} (h : PL a H D al n sg W he sa kn ps) (s : Same H H3) (hp : PsB a H3 p al n sg W he sa (moreK n kn)) :
    PL a (L2.upd H3 D (.lst (ps.map V.ref ++ [V.ref p]))) D al (n + 1) sg W he sa kn (ps ++ [p]) := by
  have hk : Kl H3 (L2.upd H3 D (.lst (ps.map V.ref ++ [V.ref p]))) := .upd (s _ _ h.l)
  refine ⟨by rw [List.length_append, h.n]; rfl, by rw [upd_same, List.map_append]; rfl, fun i q hq => ?_⟩
  rw [List.getElem?_append] at hq
  split at hq
  · exact (h.p i q hq).kl ((Kl.of s).tr hk)
  · rename_i hi
    have hn := h.n
    have h0 : i - ps.length = 0 := by
      cases e : i - ps.length with
      | zero => rfl
      | succ z => rw [e] at hq; simp at hq
    rw [h0] at hq
    have e2 : i = n := by omega
    subst e2
    have : p = q := by simpa using hq
    subst this
    exact hp.kl hk
theorem PL.kl {a : Ad} {H H' : Hp} {D al : Addr} {n : Nat} {sg W he kn : List Nat} {sa : List (List Nat)} {ps : List Addr} (h : PL a H D al n sg W he sa kn ps) (s : Kl H H') (hD : H' D = H D) : PL a H' D al n sg W he sa kn ps := ⟨h.n, hD.trans h.l, fun i p hp => (h.p i p hp).kl s⟩
theorem PL.same {a : Ad} {H H' : Hp} {D al : Addr} {n : Nat} {sg W he kn : List Nat} {sa : List (List Nat)} {ps : List Addr} (h : PL a H D al n sg W he sa kn ps) (s : Same H H') : PL a H' D al n sg W he sa kn ps := ⟨h.n, s _ _ h.l, fun i p hp => (h.p i p hp).same s⟩
theorem PL.at {a : Ad} {H : Hp} {D al : Addr} {n : Nat} {sg W he kn : List Nat} {sa : List (List Nat)} {ps : List Addr} (h : PL a H D al n sg W he sa kn ps) {i : Nat} (hi : i < n) : ∃ p, (ps.map V.ref)[i]? = some (V.ref p) ∧ PsB a H p al i sg W he sa (moreK i kn) := by
  have hn := h.n
  refine ⟨ps[i], ?_, h.p i _ (List.getElem?_eq_getElem (by omega))⟩
  rw [List.getElem?_map, List.getElem?_eq_getElem (by omega)]
  rfl
theorem DatOk.rev {sg he : List Nat} {sa : List (List Nat)} (h : DatOk sg he sa) : DatOk sg he.reverse sa.reverse := ⟨by rw [List.length_reverse]; exact h.lh, fun c hc => h.mh c (List.mem_reverse.mp hc), by rw [List.length_reverse]; exact h.ls, fun s hs => h.ms s (List.mem_reverse.mp hs)⟩
theorem iNeT {K : PySem.W.Frag} {H : Hp} {Q : VK} {p q : Addr} {l m : List (List Nat)} (h1 : H p = some (.lst (TL.tv l))) (h2 : H q = some (.lst (TL.tv m))) (c1 : ∀ r ∈ l, ∀ c ∈ r, c < 0x110000) (c2 : ∀ r ∈ m, ∀ c ∈ r, c < 0x110000) (k : Q (.bl (!decide (l = m))) H) : rNeD K (.ref p) (.ref q) H Q := by
  refine ⟨.list (TL.pv l), .list (TL.pv m), .lst (SqL.of h1) (TL.dp _), .lst (SqL.of h2) (TL.dp _), TL.shaped c1, TL.shaped c2, ?_⟩
  rw [TL.eqvL]
  exact k
def spLaw (K : PySem.W.Frag) : Sp := fun vs H Q _ => ∃ (x : Addr) (ns : List Int), vs = [.ref x] ∧ SqL K H x (ns.map V.int) ∧ ns.length ≤ 63 ∧ ∀ H', Q (.bl true) H'
theorem scLaw : FnScope ["_law_script", "_law_bag_here", "_law_wrong", "_law_many", "_law_names_here", "_law_signs_here", "_law_alphabet", "_law_hears", "_law_knows", "_law_says", "_law_k", "_law_handed", "_law_people", "_law_kind", "_law_turned", "_law_strange_here", "_law_parts"] ["_law_script"] (defScope sLaw) := ⟨rfl, rfl, rfl, by decide +kernel, rfl, by decide +kernel, by decide +kernel⟩
theorem ok_law {fA B : Addr} {fdA : FuncData} {mc : Value} {tm tj tl : Tok} (T : Fns K mg a d) (M : Px K a) (Z : Qx P K mg a d) (GAlEq : FnOk P w K mg base CX0 1 a.aAlEq d.dAlEq ["self", "other"] (spEq a.cAlphabet)) (MT : Mk K a.cTable a.aTInit) (bTInit : Binds K d.dTInit ["self", "alphabet", "pairs"] [])
    (BUnknownSign : ErrX K a a.cUnk a.cBadPerson "sign") (GUnknownSign : FnOk P w K mg base CX0 1 a.eUnk d.eUnk ["self", "sign"] (spErr a.cUnk "sign"))
    (BBadPerson : ErrX K a a.cBadPerson a.cUnk "part") (GBadPerson : FnOk P w K mg base CX0 1 a.eBadPerson d.eBadPerson ["self", "part"] (spErr a.cBadPerson "part"))
    (AV : AlV K mg a.cAlphabet mc tm tj tl) (MA : Mk K a.cAlphabet fA) (GA : FnOk P w K mg base (L2.CX P w) 3 fA fdA ["self", "letters", "vowels"] (spAl a.cAlphabet B)) (bA : Binds K fdA ["self", "letters", "vowels"] []) : FnOk P w K mg base CX0 12 a.aLaw d.dLaw ["_law_script"] (spLaw K) := by
  have GBag := ok_bag (P := P) (w := w) (base := base) T
  have GTake := ok_take (P := P) (w := w) (base := base) T
  have GNames := ok_names (P := P) (w := w) (base := base) T
  have GSigns := ok_signs (P := P) (w := w) (base := base) T
  have GDraw := ok_draw (P := P) (w := w) (base := base) T
  have GMake := ok_make (P := P) (w := w) (base := base) T M Z
  have GStrange := ok_strange (P := P) (w := w) (base := base) T
  have GRight := ok_right (P := P) (w := w) (base := base) T M Z GAlEq MT bTInit
  have GNoSign := ok_noSign (P := P) (w := w) (base := base) T M Z BUnknownSign GUnknownSign
  have GSpoilt := ok_spoilt (P := P) (w := w) (base := base) T
  have GRefused := ok_refused (P := P) (w := w) (base := base) T M Z BBadPerson GBadPerson
  have GDue := ok_due (P := P) (w := w) (base := base) T
  refine T.FLaw.ok scLaw (fun vs H Q E h => ?_) (fun cdv A0 outer s H vs Q E hr h => ?_)
  · obtain ⟨x, ns, rfl, _⟩ := h
    rfl
  · obtain ⟨x, ns, rfl, hx, hnl, k⟩ := h
    refine ⟨_, ((pss_cons (ps_set (i := 1) scLaw.nd rfl (Or.inl rfl) (pe_call GBag (hr.mono (by decide)) (by rfl) T.gBag T.FBag.kp T.bBag .nil pass0 (pa_cons (pv 0) pa_nil)))
      (pss_cons (ps_set (i := 2) scLaw.nd rfl (Or.inl rfl) (pe_lst (pa_cons (pe_cmpR op_eq (pe_call GTake (hr.mono (by decide)) (by rfl) T.gTake T.FTake.kp T.bTake .nil pass0 (pa_cons (pv 1) (pa_cons pe_int pa_nil))) pe_int (nomark _)) (pa_cons (pe_cmpR op_eq (pe_call GTake (hr.mono (by decide)) (by rfl) T.gTake T.FTake.kp T.bTake .nil pass0 (pa_cons (pv 1) (pa_cons pe_int pa_nil))) pe_int (nomark _)) (pa_cons (pe_cmpR op_eq (pe_call GTake (hr.mono (by decide)) (by rfl) T.gTake T.FTake.kp T.bTake .nil pass0 (pa_cons (pv 1) (pa_cons pe_int pa_nil))) pe_int (nomark _)) pa_nil)))))
      (pss_cons (ps_set (i := 3) scLaw.nd rfl (Or.inl rfl) (pe_call GTake (hr.mono (by decide)) (by rfl) T.gTake T.FTake.kp T.bTake .nil pass0 (pa_cons (pv 1) (pa_cons pe_int pa_nil))))
      (pss_cons (ps_set (i := 4) scLaw.nd rfl (Or.inl rfl) (pe_call GNames (hr.mono (by decide)) (by rfl) T.gNames T.FNames.kp T.bNames .nil pass0 (pa_cons (pv 1) (pa_cons (pe_op op_add pe_int (pe_call GTake (hr.mono (by decide)) (by rfl) T.gTake T.FTake.kp T.bTake .nil pass0 (pa_cons (pv 1) (pa_cons pe_int pa_nil)))) pa_nil))))
      (pss_cons (ps_set (i := 5) scLaw.nd rfl (Or.inl rfl) (pe_call GSigns (hr.mono (by decide)) (by rfl) T.gSigns T.FSigns.kp T.bSigns .nil pass0 (pa_cons (pe_ix (r := rIxL K) ix_list (pv 4) pe_int (fun _ _ => rfl)) pa_nil)))
      (pss_cons (ps_set (i := 6) scLaw.nd rfl (Or.inr rfl) (pe_make MA GA (hr.mono (by decide)) (by rfl) AV.gC bA .nil passE (pa_cons (pe_ix (r := rIxL K) ix_list (pv 4) pe_int (fun _ _ => rfl)) (pa_cons (pe_ix (r := rIxL K) ix_list (pv 4) pe_int (fun _ _ => rfl)) pa_nil))))
      (pss_cons (ps_set (i := 7) scLaw.nd rfl (Or.inr rfl) (pe_call GDraw (hr.mono (by decide)) (by rfl) T.gDraw T.FDraw.kp T.bDraw .nil pass0 (pa_cons (pv 1) (pa_cons (pv 5) (pa_cons (pe_callB call_lenS (by rfl) T.z_len (by decide +kernel) (pa_cons (pv 5) pa_nil)) pa_nil)))))
      (pss_cons (ps_set (i := 8) scLaw.nd rfl (Or.inr rfl) (pe_call GDraw (hr.mono (by decide)) (by rfl) T.gDraw T.FDraw.kp T.bDraw .nil pass0 (pa_cons (pv 1) (pa_cons (pv 5) (pa_cons (pv 3) pa_nil)))))
      (pss_cons (ps_set (i := 9) scLaw.nd rfl (Or.inr rfl) (pe_lst pa_nil))
      (pss_cons (ps_for PassesOwn.never rfl (pi_range1 (by rfl) T.z_range (pa_cons (pe_callB call_lenS (by rfl) T.z_len (by decide +kernel) (pa_cons (pv 5) pa_nil)) pa_nil)) (pg_name (i := 10) scLaw.nd rfl (Or.inl rfl)) (pss_one (ps_expr (pe_bm PySem.F.plainAttrs_list PySem.F.slot_list_append PySem.F.type_list_append mt_append (pv 9) (pa_cons (pe_call GDraw (hr.mono (by decide)) (by rfl) T.gDraw T.FDraw.kp T.bDraw .nil pass0 (pa_cons (pv 1) (pa_cons (pv 5) (pa_cons (pe_op op_add pe_int (pe_call GTake (hr.mono (by decide)) (by rfl) T.gTake T.FTake.kp T.bTake .nil pass0 (pa_cons (pv 1) (pa_cons pe_int pa_nil)))) pa_nil)))) pa_nil)))))
      (pss_cons (ps_set (i := 11) scLaw.nd rfl (Or.inr rfl) (pe_callTy call_list_of (by rfl) T.z_list (by decide +kernel) (pa_cons (pv 9) pa_nil)))
      (pss_cons (ps_setLc (i := 12) (own := [("_law_kind", 13)]) (g := gName 13) (by rfl) scLaw.nd rfl rfl (by rfl) (pi_range1 (by rfl) T.z_range (pa_cons pe_int pa_nil)) (blkOk_by (own := [("_law_kind", 13)]) (N := ["_law_script", "_law_bag_here", "_law_wrong", "_law_many", "_law_names_here", "_law_signs_here", "_law_alphabet", "_law_hears", "_law_knows", "_law_says", "_law_k", "_law_handed", "_law_people", "_law_kind", "_law_turned", "_law_strange_here", "_law_parts"]) (sc := defScope sLaw) (by decide +kernel)) (fun _ _ _ _ _ => pg_name (i := 13) scLaw.nd rfl (Or.inl rfl)) (fun _ _ _ _ _ => pts_nil) (fun _ _ _ _ _ => (pe_call GMake (hr.mono (by decide)) (by rfl) T.gMake T.FMake.kp T.bMake .nil passE (pa_cons (pv 6) (pa_cons (pv 13) (pa_cons (pv 7) (pa_cons (pv 11) (pa_cons (pv 8) pa_nil))))))))
      (pss_cons (ps_setLc (i := 14) (own := [("_law_kind", 13)]) (g := gName 13) (by rfl) scLaw.nd rfl rfl (by rfl) (pi_range1 (by rfl) T.z_range (pa_cons pe_int pa_nil)) (blkOk_by (own := [("_law_kind", 13)]) (N := ["_law_script", "_law_bag_here", "_law_wrong", "_law_many", "_law_names_here", "_law_signs_here", "_law_alphabet", "_law_hears", "_law_knows", "_law_says", "_law_k", "_law_handed", "_law_people", "_law_kind", "_law_turned", "_law_strange_here", "_law_parts"]) (sc := defScope sLaw) (by decide +kernel)) (fun _ _ _ _ _ => pg_name (i := 13) scLaw.nd rfl (Or.inl rfl)) (fun _ _ _ _ _ => pts_nil) (fun _ _ _ _ _ => (pe_call GMake (hr.mono (by decide)) (by rfl) T.gMake T.FMake.kp T.bMake .nil passE (pa_cons (pv 6) (pa_cons (pv 13) (pa_cons (pe_revS (pv 7)) (pa_cons (pe_revLK (K := K) (pv 9)) (pa_cons (pe_slice sl_str (pv 7) po_none (po_some pe_int)) pa_nil))))))))
      (pss_cons (ps_if (pt_cmpR (op_neD hr.units) (pv 11) (pv 9) (nomark _)) (pss_one (ps_ret pe_bl)) pss_nil)
      (pss_cons (ps_expr (pe_bm0 PySem.F.plainAttrs_list PySem.F.slot_list_reverse PySem.F.type_list_reverse mt_reverse (pv 11)))
      (pss_cons (ps_expr (pe_bm PySem.F.plainAttrs_list PySem.F.slot_list_append PySem.F.type_list_append mt_append (pv 11) (pa_cons (pe_strS (l := []) (by decide +kernel)) pa_nil)))
      (pss_cons (ps_set (i := 15) scLaw.nd rfl (Or.inl rfl) (pe_call GStrange (hr.mono (by decide)) (by rfl) T.gStrange T.FStrange.kp T.bStrange .nil pass0 (pa_cons (pv 1) (pa_cons (pv 5) pa_nil))))
      (pss_cons (ps_for PassesOwn.never rfl (pi_range1 (by rfl) T.z_range (pa_cons pe_int pa_nil)) (pg_name (i := 13) scLaw.nd rfl (Or.inl rfl)) (pss_cons (ps_if (pt_not (pt_val (pe_call GRight (hr.mono (by decide)) (by rfl) T.gRight T.FRight.kp T.bRight .nil pass0 (pa_cons (pe_ix (r := rIxL K) ix_list (pv 12) (pv 13) (fun _ _ => rfl)) (pa_cons (pv 13) (pa_cons (pv 6) (pa_cons (pv 5) (pa_cons (pv 7) (pa_cons (pv 9) (pa_cons (pv 8) pa_nil)))))))))) (pss_one (ps_ret pe_bl)) pss_nil)
      (pss_cons (ps_if (pt_not (pt_val (pe_call GRight (hr.mono (by decide)) (by rfl) T.gRight T.FRight.kp T.bRight .nil pass0 (pa_cons (pe_ix (r := rIxL K) ix_list (pv 14) (pv 13) (fun _ _ => rfl)) (pa_cons (pv 13) (pa_cons (pv 6) (pa_cons (pv 5) (pa_cons (pe_revS (pv 7)) (pa_cons (pe_revL (pv 9)) (pa_cons (pe_slice sl_str (pv 7) po_none (po_some pe_int)) pa_nil)))))))))) (pss_one (ps_ret pe_bl)) pss_nil)
      (pss_one (ps_if (PW.pt (pw_or (pt_not (pt_val (pe_call GNoSign (hr.mono (by decide)) (by rfl) T.gNoSign T.FNoSign.kp T.bNoSign .nil pass0 (pa_cons (pe_ix (r := rIxL K) ix_list (pv 12) (pv 13) (fun _ _ => rfl)) (pa_cons (pv 15) (pa_cons pe_bl pa_nil)))))) (pw_or1 (pt_not (pt_val (pe_call GNoSign (hr.mono (by decide)) (by rfl) T.gNoSign T.FNoSign.kp T.bNoSign .nil pass0 (pa_cons (pe_ix (r := rIxL K) ix_list (pv 12) (pv 13) (fun _ _ => rfl)) (pa_cons (pv 15) (pa_cons pe_bl pa_nil))))))))) (pss_one (ps_ret pe_bl)) pss_nil)))))
      (pss_cons (ps_set (i := 16) scLaw.nd rfl (Or.inl rfl) (pe_call GSpoilt (hr.mono (by decide)) (by rfl) T.gSpoilt T.FSpoilt.kp T.bSpoilt .nil pass0 (pa_cons (pv 1) (pa_cons (pv 5) (pa_cons (pv 7) (pa_cons (pv 9) (pa_cons (pv 8) (pa_cons (pv 2) pa_nil))))))))
      (pss_cons (ps_for PassesOwn.never rfl (pi_range1 (by rfl) T.z_range (pa_cons pe_int pa_nil)) (pg_name (i := 13) scLaw.nd rfl (Or.inl rfl)) (pss_cons (ps_if (pt_not (pt_val (pe_call GRefused (hr.mono (by decide)) (by rfl) T.gRefused T.FRefused.kp T.bRefused .nil pass0 (pa_cons (pv 6) (pa_cons (pv 13) (pa_cons (pv 16) (pa_cons (pe_call GDue (hr.mono (by decide)) (by rfl) T.gDue T.FDue.kp T.bDue .nil pass0 (pa_cons (pv 13) (pa_cons (pv 2) pa_nil))) pa_nil))))))) (pss_one (ps_ret pe_bl)) pss_nil)
      (pss_one (ps_if (pt_not (pt_val (pe_call GRight (hr.mono (by decide)) (by rfl) T.gRight T.FRight.kp T.bRight .nil pass0 (pa_cons (pe_ix (r := rIxL K) ix_list (pv 12) (pv 13) (fun _ _ => rfl)) (pa_cons (pv 13) (pa_cons (pv 6) (pa_cons (pv 5) (pa_cons (pv 7) (pa_cons (pv 9) (pa_cons (pv 8) pa_nil)))))))))) (pss_one (ps_ret pe_bl)) pss_nil))))
      (pss_one (ps_ret pe_bl))))))))))))))))))))))), ?_⟩
    rw [show L2.start [("_law_script" : Str), ("_law_bag_here" : Str), ("_law_wrong" : Str), ("_law_many" : Str), ("_law_names_here" : Str), ("_law_signs_here" : Str), ("_law_alphabet" : Str), ("_law_hears" : Str), ("_law_knows" : Str), ("_law_says" : Str), ("_law_k" : Str), ("_law_handed" : Str), ("_law_people" : Str), ("_law_kind" : Str), ("_law_turned" : Str), ("_law_strange_here" : Str), ("_law_parts" : Str)] [V.ref x] = [some (V.ref x), none, none, none, none, none, none, none, none, none, none, none, none, none, none, none, none] from rfl]
    walk_at "go"
    refine ⟨x, ns, rfl, hx, by omega, fun b g u H1 _ _ _ hB1 s1 => ?_⟩
    walk_at "nrm"
    walk_at "go"
    refine ⟨b, g, u, 2, rfl, hB1, by decide, by decide, fun w0 H2 hw0 hB2 f2 => ?_⟩
    walk_at "go"
    refine ⟨b, g, u, 2, rfl, hB2, by decide, by decide, fun w1 H3 hw1 hB3 f3 => ?_⟩
    walk_at "go"
    refine ⟨b, g, u, 2, rfl, hB3, by decide, by decide, fun w2 H4 hw2 hB4 f4 => ?_⟩
    walk_at "go"
    refine TL.cLst (by simp) fun wr H5 hwrn s5 hwr => ?_
    have nw := hB4.ne hwrn
    have iw : wr ∉ [b, g] := by simp [nw.1, nw.2.1]
    have hB5 := hB4.same s5
    generalize decide (V.int (w0 : Nat) = V.int 1) = b1 at hwr
    generalize decide (V.int (w1 : Nat) = V.int 1) = b2 at hwr
    generalize decide (V.int (w2 : Nat) = V.int 1) = b3 at hwr
    walk_at "nrm"
    walk_at "go"
    refine ⟨b, g, u, 5, rfl, hB5, by decide, by decide, fun m H6 hm hB6 f6 => ?_⟩
    have hwr6 := f6 _ _ iw hwr
    walk_at "nrm"
    walk_at "go"
    refine ⟨b, g, u, 4, rfl, hB6, by decide, by decide, fun m4 H7 hm4 hB7 f7 => ?_⟩
    have hwr7 := f7 _ _ iw hwr6
    walk_at "nrm"
    walk_at "go"
    refine ⟨b, g, u, 1 + m4, rfl, hB7, by omega, by omega, fun np l v H9 _ nb ng nu hnp hok hnl4 hB9 f9 => ?_⟩
    have hwr9 := f9 _ _ iw hwr7
    have h4 := hok.h4
    have hv4 := hok.vlen
    walk_at "nrm"
    walk_at "go"
    refine ⟨l, rfl, h4, fun H10 s10 => ?_⟩
    have hnp10 := s10 _ _ hnp
    walk_at "nrm"
    walk_at "go"
    intro al dal hal1 hal2 hal3
    refine iMkA hal1 hal2 hal3 hok fun H11 s11 hal => ?_
    have hsg := hok.sg
    have hs := hok.sl
    have hl5 := hsg.l
    have s911 : Same H9 H11 := Vk.Same.trans s10 s11
    have hB11 := hB9.same s911
    have hwr11 := s911 _ _ hwr9
    clear hnp10 hnp hB1 hB2 hB3 hB4 hB5 hB6 hB7 hB9 hwr hwr6 hwr7 hwr9
    generalize esg : 45 :: srtL l = sg at hsg hs hl5 hal ⊢
    generalize srtL v = W at hal
    walk_at "nrm"
    walk_at "go"
    refine ⟨b, g, u, sg, sg.length, rfl, hB11, hsg, by omega, fun he H12 hel hem hB12 f12 => ?_⟩
    have hal12 := hal.kl (.bag f12 hB11)
    have hwr12 := f12 _ _ iw hwr11
    walk_at "nrm"
    walk_at "go"
    refine ⟨b, g, u, sg, m, rfl, hB12, hsg, by omega, fun kn H13 hkl hkm hB13 f13 => ?_⟩
    have hal13 := hal12.kl (.bag f13 hB12)
    have hwr13 := f13 _ _ iw hwr12
    walk_at "nrm"
    walk_at "go"
    refine TL.cLst (by simp) fun sl H14 hsln s14 hsl14 => ?_
    have ns := hB13.ne hsln
    have is : sl ∉ [b, g] := by simp [ns.1, ns.2.1]
    have hB14 := hB13.same s14
    have hal14 := hal13.same s14
    have hwr14 := s14 _ _ hwr13
    walk_at "nrm"
    walk_at "go"
    have nws : wr ≠ sl := ne_of_none hwr13 hsln
    refine for_R (fun i σ H' => Stop (∃ (v10 : Option V) (sas : List (List Nat)), σ = [some (.ref x), some (.ref b), some (.ref wr), some (.int (m : Nat)), some (.ref np), some (.str (S sg)), some (.ref al), some (.str (S he)), some (.str (S kn)), some (.ref sl), v10, none, none, none, none, none, none] ∧
      H' sl = some (.lst (TL.tv sas)) ∧ sas.length = i ∧ (∀ s ∈ sas, s ≠ [] ∧ (∀ c ∈ s, c ∈ sg) ∧ s.length ≤ 50) ∧ BagB H' b g u ∧ AlG a.cAlphabet H' al sg W ∧ H' wr = some (.lst [.bl b1, .bl b2, .bl b3]))) ⟨none, [], rfl, hsl14, rfl, (fun _ z => nomatch z), hB14, hal14, hwr14⟩ ?_ ?_
    · rintro i σ H1 hi ⟨v10, sas, rfl, hsl1, hsn, hso, hB1, hal1, hwr1⟩
      have hi2 : i < sg.length := by simpa using hi
      walk_at "go"
      refine ⟨b, g, u, 5, rfl, hB1, by decide, by decide, fun r1 H2 hr1 hB2 f2 => ?_⟩
      walk_at "go"
      refine ⟨b, g, u, sg, 1 + r1, rfl, hB2, hsg, by omega, fun t1 H3 htl htm hB3 f3 => ?_⟩
      have hsl3 := f3 _ _ is (f2 _ _ is hsl1)
      have hwr3 := f3 _ _ iw (f2 _ _ iw hwr1)
      have hal3 := (hal1.kl (.bag f2 hB1)).kl (.bag f3 hB2)
      have hsz : (TL.tv sas).length < sizeLine := by rw [TL.tvL, sizeLine_eq]; omega
      walk_at "go"
      refine ⟨_, _, _, rfl, rfl, hsl3, hsz, _, sas ++ [t1], rfl, by rw [upd_same]; exact congrArg (fun l => some (HO.lst l)) (TL.tvA sas [t1]), by rw [List.length_append, List.length_singleton, hsn], fun s hs => ?_, hB3.upd ns.1 ns.2.1 ns.2.2, hal3.kl (.upd hsl3), by rw [upd_ne nws]; exact hwr3⟩
      rcases List.mem_append.mp hs with h | h
      · exact hso s h
      · rw [List.mem_singleton.mp h]
        exact ⟨fun z => (by rw [z, List.length_nil] at htl; omega), htm, by omega⟩
    · rintro σ H15 ⟨v10, sas, rfl, hsl15, hsn, hso, hB15, hal15, hwr15⟩
      have hsn : sas.length = sg.length := by simpa using hsn
      have hd : DatOk sg he sas := ⟨hel, hem, hsn, hso⟩
      have hlow : ∀ s ∈ sas, ∀ c ∈ s, c < 0x110000 := fun s h c hc => by have := hsg.c c ((hso s h).2.1 c hc); omega
      clear hsl14 hB14 hal14 hwr14 hwr13 hal13 hB13 hwr12 hal12 hB12 hwr11 hal hB11
      walk_at "go"
      rename_i hl hhl D hD
      have nhl := hB15.ne hhl
      have ihl : hl ∉ [b, g] := by simp [nhl.1, nhl.2.1]
      have slhl : sl ≠ hl := ne_of_none hsl15 hhl
      have wrhl : wr ≠ hl := ne_of_none hwr15 hhl
      have s16 : Same H15 (L2.upd H15 hl (.lst (TL.tv sas))) := TL.new hhl
      have hhl16 : (L2.upd H15 hl (.lst (TL.tv sas))) hl = some (.lst (TL.tv sas)) := upd_same
      change (L2.upd H15 hl (.lst (TL.tv sas))) D = none at hD
      generalize (L2.upd H15 hl (.lst (TL.tv sas))) = H16 at s16 hhl16 hD ⊢
      have hkt : txtB sg kn = true := decide_eq_true hkm
      have hal16 := hal15.same s16
      refine lcg_R (fun j H' => Stop (∃ ps, PL a H' D al j sg W he sas kn ps ∧ Same H16 H')) ⟨[], .start, TL.new hD⟩ (fun _ => rfl) (fun j H1 hj hP => ?_) (fun H17 hP => ?_)
      · obtain ⟨ps, hPL, s1'⟩ := hP
        have ij : (0 : Int) + (j : Int) = (j : Int) := Int.zero_add _
        rw [ij]
        have hj4 : j < 4 := by simpa using hj
        walk_at "go"
        refine ⟨al, hl, j, sg, W, he, kn, sas, rfl, hj4, hal16.same s1', hsg, s1' _ _ hhl16, hd, fun _ => ⟨by omega, hkt⟩, fun p H3 s3 hp3 => ?_⟩
        refine ⟨_, s3 _ _ hPL.l, by rw [List.length_map, hPL.n, sizeLine_eq]; omega, _, hPL.snoc s3 hp3, ?_⟩
        exact fun c o hc => by
          rw [upd_ne (fun z => by rw [z, hD] at hc; cases hc)]
          exact s3 _ _ (s1' _ _ hc)
      · obtain ⟨ps, hPL, s17⟩ := hP
        have hPL : PL a H17 D al 4 sg W he sas kn ps := hPL
        have hsl17 := s17 _ _ (s16 _ _ hsl15)
        have hhl17 := s17 _ _ hhl16
        have hwr17 := s17 _ _ (s16 _ _ hwr15)
        have hal17 := hal16.same s17
        have hB17 := hB15.same (Vk.Same.trans s16 s17)
        have nD : D ≠ b ∧ D ≠ g ∧ D ≠ u := (hB15.same s16).ne hD
        have iD : D ∉ [b, g] := by simp [nD.1, nD.2.1]
        have dhl : D ≠ hl := fun z => by rw [z, hhl16] at hD; cases hD
        clear hhl16 hsl15 hwr15 hal15 hal16 hB15
        walk_at "nrm"
        walk_at "go"
        rename_i D2 hD2
        have hd2 := hd.rev
        have hk2 : (he.take 1).length ≤ 50 ∧ txtB sg (he.take 1) = true := ⟨by rw [List.length_take]; omega, decide_eq_true fun c hc => hem c (List.mem_of_mem_take hc)⟩
        refine lcg_R (fun j H' => Stop (∃ ps, PL a H' D2 al j sg W he.reverse sas.reverse (he.take 1) ps ∧ Same H17 H')) ⟨[], .start, TL.new hD2⟩ (fun _ => rfl) (fun j H1 hj hP => ?_) (fun H18 hP => ?_)
        · obtain ⟨ps2, hPL2, s1'⟩ := hP
          have ij : (0 : Int) + (j : Int) = (j : Int) := Int.zero_add _
          rw [ij]
          have hj4 : j < 4 := by simpa using hj
          have hsl1 := s1' _ _ hsl17
          walk_at "go"
          rename_i q hq
          have sq : Same H1 (L2.upd H1 q (.lst (TL.tv sas).reverse)) := TL.new hq
          have hqv : (L2.upd H1 q (.lst (TL.tv sas).reverse)) q = some (.lst (TL.tv sas.reverse)) := by
            rw [upd_same]
            exact congrArg (fun l => some (HO.lst l)) List.map_reverse.symm
          generalize (L2.upd H1 q (.lst (TL.tv sas).reverse)) = H1q at sq hqv ⊢
          refine ⟨al, q, j, sg, W, he.reverse, he.take 1, sas.reverse, rfl, hj4, (hal17.same s1').same sq, hsg, hqv, hd2, fun _ => hk2, fun p H3 s3 hp3 => ?_⟩
          refine ⟨_, s3 _ _ (sq _ _ hPL2.l), by rw [List.length_map, hPL2.n, sizeLine_eq]; omega, _, hPL2.snoc (TL.tr sq s3) hp3, ?_⟩
          exact fun c o hc => by
            rw [upd_ne (fun z => by rw [z, hD2] at hc; cases hc)]
            exact s3 _ _ (sq _ _ (s1' _ _ hc))
        · obtain ⟨ps2, hPL2, s18⟩ := hP
          have hPL2 : PL a H18 D2 al 4 sg W he.reverse sas.reverse (he.take 1) ps2 := hPL2
          have nD2 := hB17.ne hD2
          have iD2 : D2 ∉ [b, g] := by simp [nD2.1, nD2.2.1]
          have d2hl : D2 ≠ hl := fun z => by rw [z, hhl17] at hD2; cases hD2
          have hsl18 := s18 _ _ hsl17
          have hhl18 := s18 _ _ hhl17
          have hwr18 := s18 _ _ hwr17
          have hal18 := hal17.same s18
          have hB18 := hB17.same s18
          have hPL18 := hPL.same s18
          clear hhl17 hsl17 hwr17 hal17 hB17 hPL
          walk_at "nrm"
          walk_at "go"
          refine iNeT hhl18 hsl18 hlow hlow ?_
          rw [decide_eq_true rfl]
          walk_at "go"
          refine ⟨_, _, _, rfl, rfl, upd_same, by rw [List.length_reverse, TL.tvL, sizeLine_eq]; omega, ?_⟩
          generalize eG : (L2.upd (L2.upd H18 hl (HO.lst (TL.tv sas).reverse)) hl (HO.lst ((TL.tv sas).reverse ++ [V.str (S [])]))) = H19
          have off : ∀ z, z ≠ hl → H19 z = H18 z := fun z n => by rw [← eG, upd_ne n, upd_ne n]
          have k19 : Kl H18 H19 := by
            rw [← eG]
            exact (Kl.upd hhl18).tr (.upd upd_same)
          have hsl19 := (off sl slhl).trans hsl18
          have hwr19 := (off wr wrhl).trans hwr18
          have hal19 := hal18.kl k19
          have hB19 : BagB H19 b g u := by
            rw [← eG]
            exact (hB18.upd nhl.1 nhl.2.1 nhl.2.2).upd nhl.1 nhl.2.1 nhl.2.2
          have hP19 := hPL18.kl k19 (off D dhl)
          have hQ19 := hPL2.kl k19 (off D2 d2hl)
          clear eG off hsl18 hhl18 hwr18 hal18 hB18 hPL18 hPL2
          walk_at "nrm"
          walk_at "go"
          refine ⟨b, g, u, sg, rfl, hB19, hsg, hs, fun st H20 hst hB20 f20 => ?_⟩
          have k20 : Kl H19 H20 := .bag f20 hB19
          have hsl20 := f20 _ _ is hsl19
          have hwr20 := f20 _ _ iw hwr19
          have hal20 := hal19.kl k20
          have hP20 : PL a H20 D al 4 sg W he sas kn ps := ⟨hP19.n, f20 _ _ iD hP19.l, fun i p hp => (hP19.p i p hp).kl k20⟩
          have hQ20 : PL a H20 D2 al 4 sg W he.reverse sas.reverse (he.take 1) ps2 := ⟨hQ19.n, f20 _ _ iD2 hQ19.l, fun i p hp => (hQ19.p i p hp).kl k20⟩
          clear hsl19 hwr19 hal19 hB19 hP19 hQ19
          walk_at "nrm"
          walk_at "go"
          refine for_R (fun i σ H' => Stop (∃ (v13 : Option V), σ = [some (.ref x), some (.ref b), some (.ref wr), some (.int (m : Nat)), some (.ref np), some (.str (S sg)), some (.ref al), some (.str (S he)), some (.str (S kn)), some (.ref sl), v10, some (.ref hl), some (.ref D), v13, some (.ref D2), some (.str (S st)), none] ∧ Same H20 H')) ⟨_, rfl, fun _ _ z => z⟩ ?_ ?_
          · rintro j σ H1 hj ⟨v13, rfl, sj⟩
            have ij : (0 : Int) + (j : Int) = (j : Int) := Int.zero_add _
            rw [ij]
            have hj4 : j < 4 := by simpa using hj
            obtain ⟨p, hpe, hpb⟩ := hP20.at hj4
            obtain ⟨q, hqe, hqb⟩ := hQ20.at hj4
            have hDl := sj _ _ hP20.l
            have hD2l := sj _ _ hQ20.l
            have hsl1 := sj _ _ hsl20
            walk_at "go"
            refine ⟨p, al, sl, j, sg, W, he, kn, sas, rfl, hj4, hpb.same sj, hsg, hsl1, hd, by omega, hkt, fun Ha sa1 => ?_⟩
            have hD2a := sa1 _ _ hD2l
            have hDa := sa1 _ _ hDl
            have hsla := sa1 _ _ hsl1
            have sja := Vk.Same.trans sj sa1
            walk_at "go"
            rename_i rq hrq
            have sq : Same Ha (L2.upd Ha rq (.lst (TL.tv sas).reverse)) := TL.new hrq
            have hqv : (L2.upd Ha rq (.lst (TL.tv sas).reverse)) rq = some (.lst (TL.tv sas.reverse)) := by
              rw [upd_same]
              exact congrArg (fun l => some (HO.lst l)) List.map_reverse.symm
            generalize (L2.upd Ha rq (.lst (TL.tv sas).reverse)) = Hb at sq hqv ⊢
            refine ⟨q, al, rq, j, sg, W, he.reverse, he.take 1, sas.reverse, rfl, hj4, hqb.same (TL.tr sja sq), hsg, hqv, hd2, hk2.1, hk2.2, fun Hc sc1 => ?_⟩
            have sjc := TL.tr sja (TL.tr sq sc1)
            have hDc := sjc _ _ hP20.l
            walk_at "go"
            refine ⟨p, al, j, sg, W, he, kn, st, sas, true, rfl, hj4, hpb.same sjc, hsg, hst, fun Hd sd1 => ?_⟩
            have sjd := TL.tr sjc sd1
            have hDd := sjd _ _ hP20.l
            walk_at "go"
            refine ⟨p, al, j, sg, W, he, kn, st, sas, false, rfl, hj4, hpb.same sjd, hsg, hst, fun He se1 => ?_⟩
            walk_at "go"
            exact ⟨_, rfl, TL.tr sjd se1⟩
          · rintro σ H21 ⟨v13, rfl, sj⟩
            have hB21 := hB20.same sj
            have hsl21 := sj _ _ hsl20
            have hwr21 := sj _ _ hwr20
            have hal21 := hal20.same sj
            have hP21 := hP20.same sj
            clear hsl20 hwr20 hal20 hB20 hP20 hQ20
            walk_at "go"
            refine ⟨b, g, u, sl, wr, sg, he, kn, sas, b1, b2, b3, rfl, hB21, hsg, hs, hd, by omega, hsl21, ns.1, ns.2.1, hwr21, nw.1, nw.2.1, fun pl sl' he' kn' sa' H22 hpl hsl' R hB22 f22 => ?_⟩
            have k22 : Kl H21 H22 := .bag f22 hB21
            have hsl22 := f22 _ _ is hsl21
            have hwr22 := f22 _ _ iw hwr21
            have hal22 := hal21.kl k22
            have hP22 : PL a H22 D al 4 sg W he sas kn ps := ⟨hP21.n, f22 _ _ iD hP21.l, fun i p hp => (hP21.p i p hp).kl k22⟩
            clear hsl21 hwr21 hal21 hB21 hP21
            walk_at "nrm"
            walk_at "go"
            refine for_R (fun i σ H' => Stop (∃ (v13 : Option V), σ = [some (.ref x), some (.ref b), some (.ref wr), some (.int (m : Nat)), some (.ref np), some (.str (S sg)), some (.ref al), some (.str (S he)), some (.str (S kn)), some (.ref sl), v10, some (.ref hl), some (.ref D), v13, some (.ref D2), some (.str (S st)), some (.ref pl)] ∧ Same H22 H')) ⟨_, rfl, fun _ _ z => z⟩ ?_ ?_
            · rintro j σ H1 hj ⟨v13, rfl, sj⟩
              have ij : (0 : Int) + (j : Int) = (j : Int) := Int.zero_add _
              rw [ij]
              have hj4 : j < 4 := by simpa using hj
              obtain ⟨p, hpe, hpb⟩ := hP22.at hj4
              walk_at "go"
              refine ⟨wr, j, b1, b2, b3, rfl, hj4, sj _ _ hwr22, ?_⟩
              walk_at "go"
              refine ⟨al, pl, sl', j, sg, W, he, kn, he', kn', sas, sa', b1, b2, b3, rfl, hj4, hal22.same sj, hsg, hd, by omega, hkt, sj _ _ hpl, sj _ _ hsl', R, R.l5, fun Ha sa1 => ?_⟩
              have sja := TL.tr sj sa1
              have hDa := sja _ _ hP22.l
              walk_at "go"
              refine ⟨p, al, sl, j, sg, W, he, kn, sas, rfl, hj4, hpb.same sja, hsg, sja _ _ hsl22, hd, by omega, hkt, fun Hb sb1 => ?_⟩
              walk_at "go"
              exact ⟨_, rfl, TL.tr sja sb1⟩
            · rintro σ H23 ⟨v13, rfl, sj⟩
              walk_at "go"
              exact k _
end
end
section
set_option Elab.async false
set_option linter.all false
set_option maxRecDepth 100000
set_option maxHeartbeats 8000000
open PySem PySem.Spec PyProof.Rows L2
theorem find_of_cls {K : PySem.W.Frag} {C : Addr} {cd : ClassData} {name : Str} (h : PySem.W.clsIn K C = some cd) : PySem.W.findIn K (.ref C) name = PySem.W.alongIn K name cd.mro := by
  unfold PySem.W.clsIn at h
  split at h
  · rename_i ho
    cases h
    unfold PySem.W.findIn
    simp only [ho]
  · cases h
theorem kit_of {K : PySem.W.Frag} {t c : Addr} {b : Bool} (hc : PySem.W.isClsIn K c = true) (ht : PySem.W.typeIn K (.ref c) = some (.type "type")) (hs : PySem.W.subIn K (.ref t) (.ref c) = some b) (hcc : PySem.W.subIn K (.ref c) (.ref c) = some true) : PySem.W.kitOne K (.ref t) (.ref c) = some b := by
  have h1 : (PySem.W.clsIn K c).isSome = true := hc
  unfold PySem.W.kitOne
  by_cases e : (Value.ref t == Value.ref c) = true
  · rw [if_pos e]
    have e2 : Value.ref t = Value.ref c := eq_of_beq e
    rw [e2, hcc] at hs
    exact hs
  · rw [if_neg e]
    show (if ((PySem.W.clsIn K c).isSome && PySem.W.typeIn K (.ref c) == some (.type "type")) = true then PySem.W.subIn K (.ref t) (.ref c) else none) = _
    rw [h1, ht, if_pos (by rfl), hs]
theorem kit_own {K : PySem.W.Frag} {C : Addr} : PySem.W.kitOne K (.ref C) (.ref C) = some true := by
  unfold PySem.W.kitOne
  rw [if_pos (beq_self_eq_true _)]
theorem kit_any2 {K : PySem.W.Frag} {t c1 c2 : Addr} (h1 : PySem.W.kitOne K (.ref t) (.ref c1) = some false) (h2 : PySem.W.kitOne K (.ref t) (.ref c2) = some false) : PySem.W.kitAny K (.ref t) [.ref c1, .ref c2] = some false := by
  simp [PySem.W.kitAny, h1, h2]
theorem c4 {Pr : Nat → Prop} (h0 : Pr 0) (h1 : Pr 1) (h2 : Pr 2) (h3 : Pr 3) : ∀ i, i < 4 → Pr i
  | 0, _ => h0
  | 1, _ => h1
  | 2, _ => h2
  | 3, _ => h3
  | i + 4, h => absurd h (by omega)
theorem c2 {Pr : Nat → Prop} (h0 : Pr 0) (h1 : Pr 1) : ∀ i, i < 2 → Pr i
  | 0, _ => h0
  | 1, _ => h1
  | i + 2, h => absurd h (by omega)
theorem o2 {i j : Nat} {Pr : Nat → Prop} (h0 : Pr i) (h1 : Pr j) : ∀ k, k = i ∨ k = j → Pr k := fun k h => h.elim (fun e => e ▸ h0) (fun e => e ▸ h1)
theorem ne_ref {a b : Addr} (h : a ≠ b) : (Value.ref a != .ref b) = true := by
  rw [bne_iff_ne]
  intro e
  injection e with e
  exact h e
theorem along_skip {K : PySem.W.Frag} {m : Str} {c d : Value} {r : List Value} {u v : Value} (h1 : PySem.W.alongIn K m (c :: r) = some (some u)) (h2 : PySem.W.alongIn K m r = some (some v)) (n : u ≠ v) : PySem.W.alongIn K m (c :: d :: r) = some (some u) := by
  unfold PySem.W.alongIn at h1 ⊢
  cases e : PySem.W.ownIn K m c with
  | none =>
    rw [e] at h1
    cases h1
  | some o =>
    rw [e] at h1
    cases o with
    | some w => exact h1
    | none =>
      have h3 : PySem.W.alongIn K m r = some (some u) := h1
      rw [h2] at h3
      exact absurd (Option.some.inj (Option.some.inj h3)).symm n
abbrev sEBadPair : Stmt := inClass (top 5) 0
def kt (i j : Nat) : Bool := decide (j = 0 ∨ j = i ∨ i = 3)
theorem c44 {K : PySem.W.Frag} {f : Nat → Addr} (h00 : PySem.W.kitOne K (.ref (f 0)) (.ref (f 0)) = some true) (h01 : PySem.W.kitOne K (.ref (f 0)) (.ref (f 1)) = some false) (h02 : PySem.W.kitOne K (.ref (f 0)) (.ref (f 2)) = some false) (h03 : PySem.W.kitOne K (.ref (f 0)) (.ref (f 3)) = some false) (h10 : PySem.W.kitOne K (.ref (f 1)) (.ref (f 0)) = some true) (h11 : PySem.W.kitOne K (.ref (f 1)) (.ref (f 1)) = some true) (h12 : PySem.W.kitOne K (.ref (f 1)) (.ref (f 2)) = some false) (h13 : PySem.W.kitOne K (.ref (f 1)) (.ref (f 3)) = some false) (h20 : PySem.W.kitOne K (.ref (f 2)) (.ref (f 0)) = some true) (h21 : PySem.W.kitOne K (.ref (f 2)) (.ref (f 1)) = some false) (h22 : PySem.W.kitOne K (.ref (f 2)) (.ref (f 2)) = some true) (h23 : PySem.W.kitOne K (.ref (f 2)) (.ref (f 3)) = some false) (h30 : PySem.W.kitOne K (.ref (f 3)) (.ref (f 0)) = some true) (h31 : PySem.W.kitOne K (.ref (f 3)) (.ref (f 1)) = some true) (h32 : PySem.W.kitOne K (.ref (f 3)) (.ref (f 2)) = some true) (h33 : PySem.W.kitOne K (.ref (f 3)) (.ref (f 3)) = some true) : ∀ i j, i < 4 → j < 4 → PySem.W.kitOne K (.ref (f i)) (.ref (f j)) = some (decide (j = 0 ∨ j = i ∨ i = 3)) := fun i j hi hj => by
  match i, hi, j, hj with
  | 0, _, 0, _ => exact h00
  | 0, _, 1, _ => exact h01
  | 0, _, 2, _ => exact h02
  | 0, _, 3, _ => exact h03
  | 1, _, 0, _ => exact h10
  | 1, _, 1, _ => exact h11
  | 1, _, 2, _ => exact h12
  | 1, _, 3, _ => exact h13
  | 2, _, 0, _ => exact h20
  | 2, _, 1, _ => exact h21
  | 2, _, 2, _ => exact h22
  | 2, _, 3, _ => exact h23
  | 3, _, 0, _ => exact h30
  | 3, _, 1, _ => exact h31
  | 3, _, 2, _ => exact h32
  | 3, _, 3, _ => exact h33
  | i + 4, h, _, _ => omega
  | 0, _, j + 4, h => omega
  | 1, _, j + 4, h => omega
  | 2, _, j + 4, h => omega
  | 3, _, j + 4, h => omega
theorem all_mk {l : PySem.W.OpenLaw} {w : World} {K : PySem.W.Frag} {h : Heap} {mg : Str → Option Value} {fa : Addr} (X : K.In h) (G : h.Ns mainGlobals mg) (hfa : mg "law" = some (.ref fa))
    {fDiff fInOrder fBag fTake fNames fSigns fMake fRows fIs fStrange fOdd fNoSign fKinds fRight fSpoilt fRefused fDue fDraw fLaw C TB PN KN DN KD fAlEq fIsSign fIsText fTInit fTGet fTLen fTPairs fPInit fPHeard fPSaid fPTable pPTable fKKnown pKKnown fKI ccKI cdaKI fKS ccKS cdaKS fDS ccDS cdaDS fXS ccXS cdaXS TDA fA TE BA fBA ccBA cdaBA BP fBP ccBP cdaBP US fUS ccUS cdaUS BQ fBQ ccBQ cdaBQ : Addr} {odDiff anDiff odInOrder anInOrder odBag anBag odTake anTake odNames anNames odSigns anSigns odMake anMake odRows anRows odIs anIs odStrange anStrange odOdd anOdd odNoSign anNoSign odKinds anKinds odRight anRight odSpoilt anSpoilt odRefused anRefused odDue anDue odDraw anDraw odLaw anLaw odAlEq anAlEq odIsSign anIsSign odIsText anIsText odTInit anTInit odTGet anTGet odTLen anTLen odTPairs anTPairs odPInit anPInit odPHeard anPHeard odPSaid anPSaid odPTable anPTable odKKnown anKKnown odKI anKI ddccKI ddcdKI odKS anKS ddccKS ddcdKS odDS anDS ddccDS ddcdDS odXS anXS ddccXS ddcdXS odA anA odBA anBA ddccBA ddcdBA odBP anBP ddccBP ddcdBP odUS anUS ddccUS ddcdUS odBQ anBQ ddccBQ ddcdBQ : Option Addr} {slDiff slInOrder slBag slTake slNames slSigns slMake slRows slIs slStrange slOdd slNoSign slKinds slRight slSpoilt slRefused slDue slDraw slLaw slAlEq slIsSign slIsText slTInit slTGet slTLen slTPairs slPInit slPHeard slPSaid slPTable slKKnown slKI slccKI slcdKI slKS slccKS slcdKS slDS slccDS slcdDS slXS slccXS slcdXS slA slBA slccBA slcdBA slBP slccBP slcdBP slUS slccUS slcdUS slBQ slccBQ slcdBQ : Array (Option Value)} {ocDiff kVDiff dcDiff pmDiff cdDiff ctDiff ocInOrder kVInOrder dcInOrder pmInOrder cdInOrder ctInOrder ocBag kVBag dcBag pmBag cdBag ctBag ocTake kVTake dcTake pmTake cdTake ctTake ocNames kVNames dcNames pmNames cdNames ctNames ocSigns kVSigns dcSigns pmSigns cdSigns ctSigns ocMake kVMake dcMake pmMake cdMake ctMake ocRows kVRows dcRows pmRows cdRows ctRows ocIs kVIs dcIs pmIs cdIs ctIs ocStrange kVStrange dcStrange pmStrange cdStrange ctStrange ocOdd kVOdd dcOdd pmOdd cdOdd ctOdd ocNoSign kVNoSign dcNoSign pmNoSign cdNoSign ctNoSign ocKinds kVKinds dcKinds pmKinds cdKinds ctKinds ocRight kVRight dcRight pmRight cdRight ctRight ocSpoilt kVSpoilt dcSpoilt pmSpoilt cdSpoilt ctSpoilt ocRefused kVRefused dcRefused pmRefused cdRefused ctRefused ocDue kVDue dcDue pmDue cdDue ctDue ocDraw kVDraw dcDraw pmDraw cdDraw ctDraw ocLaw kVLaw dcLaw pmLaw cdLaw ctLaw ocAlEq kVAlEq dcAlEq pmAlEq cdAlEq ctAlEq ocIsSign kVIsSign dcIsSign pmIsSign cdIsSign ctIsSign ocIsText kVIsText dcIsText pmIsText cdIsText ctIsText ocTInit kVTInit dcTInit pmTInit cdTInit ctTInit ocTGet kVTGet dcTGet pmTGet cdTGet ctTGet ocTLen kVTLen dcTLen pmTLen cdTLen ctTLen ocTPairs kVTPairs dcTPairs pmTPairs cdTPairs ctTPairs ocPInit kVPInit dcPInit pmPInit cdPInit ctPInit ocPHeard kVPHeard dcPHeard pmPHeard cdPHeard ctPHeard ocPSaid kVPSaid dcPSaid pmPSaid cdPSaid ctPSaid ocPTable kVPTable dcPTable pmPTable cdPTable ctPTable ocKKnown kVKKnown dcKKnown pmKKnown cdKKnown ctKKnown ocKI kVKI dcKI pmKI ctKI clccKI clcdKI ocKS kVKS dcKS pmKS ctKS clccKS clcdKS ocDS kVDS dcDS pmDS ctDS clccDS clcdDS ocXS kVXS dcXS pmXS ctXS clccXS clcdXS ocA kVA dcA pmA cdA ctA ocBA kVBA dcBA pmBA ctBA clccBA clcdBA ocBP kVBP dcBP pmBP ctBP clccBP clcdBP ocUS kVUS dcUS pmUS ctUS clccUS clcdUS ocBQ kVBQ dcBQ pmBQ ctBQ clccBQ clcdBQ : Value} {tM tJ tl tj2 : Tok} {rsPTable : List Value} {rsKKnown : List Value} {vsCKI : Array Value} {flKI : Str} {tfKI : Tok} {vsCKS : Array Value} {flKS : Str} {tfKS : Tok} {vsCDS : Array Value} {flDS : Str} {tfDS : Tok} {vsCXS : Array Value} {flXS : Str} {tfXS : Tok} {nDA : Nat} {odDA : Option Addr} {slDA : Array (Option Value)} {ocDA : Value} {tDA : Tok} {vsCBA : Array Value} {flBA : Str} {tfBA : Tok} {vsCBP : Array Value} {flBP : Str} {tfBP : Tok} {vsCUS : Array Value} {flUS : Str} {tfUS : Tok} {vsCBQ : Array Value} {flBQ : Str} {tfBQ : Tok}
    {nmPN qPN : Str} {bsPN subPN : List Value} {NPN : Addr} {snPN : List Str} {hdPNx abPN dlPN : Bool} {colPN : Option Bool}
    {nmKN qKN : Str} {bsKN subKN : List Value} {NKN : Addr} {snKN : List Str} {hdKNx abKN dlKN : Bool} {colKN : Option Bool}
    {nmDN qDN : Str} {bsDN subDN : List Value} {NDN : Addr} {snDN : List Str} {hdDNx abDN dlDN : Bool} {colDN : Option Bool}
    {nmKD qKD : Str} {bsKD subKD : List Value} {NKD : Addr} {snKD : List Str} {hdKDx abKD dlKD : Bool} {colKD : Option Bool}
    {nmTE qTE : Str} {NTE : Addr} {bsTE : List Value} {snTE : List Str} {subTE : List Value} {abTE : Bool} {colTE : Option Bool} {ddTE : Option Addr} {m0TE m1TE m2TE m3TE m5TE : Option Value}
    {nmBA qBA : Str} {NBA : Addr} {bsBA : List Value} {snBA : List Str} {subBA : List Value} {abBA : Bool} {colBA : Option Bool} {ddBA : Option Addr} {m0BA m1BA m2BA m3BA m5BA : Option Value}
    {nmBP qBP : Str} {NBP : Addr} {bsBP : List Value} {snBP : List Str} {subBP : List Value} {abBP : Bool} {colBP : Option Bool} {ddBP : Option Addr} {m0BP m1BP m2BP m3BP m5BP : Option Value}
    {nmUS qUS : Str} {NUS : Addr} {bsUS : List Value} {snUS : List Str} {subUS : List Value} {abUS : Bool} {colUS : Option Bool} {ddUS : Option Addr} {m0US m1US m2US m3US m5US : Option Value}
    {nmBQ qBQ : Str} {NBQ : Addr} {bsBQ : List Value} {snBQ : List Str} {subBQ : List Value} {abBQ : Bool} {colBQ : Option Bool} {ddBQ : Option Addr} {m0BQ m1BQ m2BQ m3BQ m5BQ : Option Value}
    (lDiff : K.lookup fDiff = some ⟨ocDiff, odDiff, .func (PySem.W.fnOf "differ_within" "differ_within" (defArgs sDiff) (defBody sDiff) (defScope sDiff) .none kVDiff dcDiff pmDiff anDiff cdDiff ctDiff), slDiff⟩)
    (cDiff : PySem.W.codeIn K cdDiff "differ_within" = true)
    (aDiff : PySem.W.nsIn K mainGlobals "differ_within" = some (some (.ref fDiff)))
    (kDiff : PySem.W.keepIn K (.ref fDiff) = true)
    (lInOrder : K.lookup fInOrder = some ⟨ocInOrder, odInOrder, .func (PySem.W.fnOf "in_order" "in_order" (defArgs sInOrder) (defBody sInOrder) (defScope sInOrder) .none kVInOrder dcInOrder pmInOrder anInOrder cdInOrder ctInOrder), slInOrder⟩)
    (cInOrder : PySem.W.codeIn K cdInOrder "in_order" = true)
    (aInOrder : PySem.W.nsIn K mainGlobals "in_order" = some (some (.ref fInOrder)))
    (kInOrder : PySem.W.keepIn K (.ref fInOrder) = true)
    (lBag : K.lookup fBag = some ⟨ocBag, odBag, .func (PySem.W.fnOf "_law_bag" "_law_bag" (defArgs sBag) (defBody sBag) (defScope sBag) .none kVBag dcBag pmBag anBag cdBag ctBag), slBag⟩)
    (cBag : PySem.W.codeIn K cdBag "_law_bag" = true)
    (aBag : PySem.W.nsIn K mainGlobals "_law_bag" = some (some (.ref fBag)))
    (kBag : PySem.W.keepIn K (.ref fBag) = true)
    (lTake : K.lookup fTake = some ⟨ocTake, odTake, .func (PySem.W.fnOf "_law_take" "_law_take" (defArgs sTake) (defBody sTake) (defScope sTake) .none kVTake dcTake pmTake anTake cdTake ctTake), slTake⟩)
    (cTake : PySem.W.codeIn K cdTake "_law_take" = true)
    (aTake : PySem.W.nsIn K mainGlobals "_law_take" = some (some (.ref fTake)))
    (kTake : PySem.W.keepIn K (.ref fTake) = true)
    (lNames : K.lookup fNames = some ⟨ocNames, odNames, .func (PySem.W.fnOf "_law_names" "_law_names" (defArgs sNames) (defBody sNames) (defScope sNames) .none kVNames dcNames pmNames anNames cdNames ctNames), slNames⟩)
    (cNames : PySem.W.codeIn K cdNames "_law_names" = true)
    (aNames : PySem.W.nsIn K mainGlobals "_law_names" = some (some (.ref fNames)))
    (kNames : PySem.W.keepIn K (.ref fNames) = true)
    (lSigns : K.lookup fSigns = some ⟨ocSigns, odSigns, .func (PySem.W.fnOf "_law_signs" "_law_signs" (defArgs sSigns) (defBody sSigns) (defScope sSigns) .none kVSigns dcSigns pmSigns anSigns cdSigns ctSigns), slSigns⟩)
    (cSigns : PySem.W.codeIn K cdSigns "_law_signs" = true)
    (aSigns : PySem.W.nsIn K mainGlobals "_law_signs" = some (some (.ref fSigns)))
    (kSigns : PySem.W.keepIn K (.ref fSigns) = true)
    (lMake : K.lookup fMake = some ⟨ocMake, odMake, .func (PySem.W.fnOf "_law_make" "_law_make" (defArgs sMake) (defBody sMake) (defScope sMake) .none kVMake dcMake pmMake anMake cdMake ctMake), slMake⟩)
    (cMake : PySem.W.codeIn K cdMake "_law_make" = true)
    (aMake : PySem.W.nsIn K mainGlobals "_law_make" = some (some (.ref fMake)))
    (kMake : PySem.W.keepIn K (.ref fMake) = true)
    (lRows : K.lookup fRows = some ⟨ocRows, odRows, .func (PySem.W.fnOf "_law_said" "_law_said" (defArgs sRows) (defBody sRows) (defScope sRows) .none kVRows dcRows pmRows anRows cdRows ctRows), slRows⟩)
    (cRows : PySem.W.codeIn K cdRows "_law_said" = true)
    (aRows : PySem.W.nsIn K mainGlobals "_law_said" = some (some (.ref fRows)))
    (kRows : PySem.W.keepIn K (.ref fRows) = true)
    (lIs : K.lookup fIs = some ⟨ocIs, odIs, .func (PySem.W.fnOf "_law_is" "_law_is" (defArgs sIs) (defBody sIs) (defScope sIs) .none kVIs dcIs pmIs anIs cdIs ctIs), slIs⟩)
    (cIs : PySem.W.codeIn K cdIs "_law_is" = true)
    (aIs : PySem.W.nsIn K mainGlobals "_law_is" = some (some (.ref fIs)))
    (kIs : PySem.W.keepIn K (.ref fIs) = true)
    (lStrange : K.lookup fStrange = some ⟨ocStrange, odStrange, .func (PySem.W.fnOf "_law_strange" "_law_strange" (defArgs sStrange) (defBody sStrange) (defScope sStrange) .none kVStrange dcStrange pmStrange anStrange cdStrange ctStrange), slStrange⟩)
    (cStrange : PySem.W.codeIn K cdStrange "_law_strange" = true)
    (aStrange : PySem.W.nsIn K mainGlobals "_law_strange" = some (some (.ref fStrange)))
    (kStrange : PySem.W.keepIn K (.ref fStrange) = true)
    (lOdd : K.lookup fOdd = some ⟨ocOdd, odOdd, .func (PySem.W.fnOf "_law_odd" "_law_odd" (defArgs sOdd) (defBody sOdd) (defScope sOdd) .none kVOdd dcOdd pmOdd anOdd cdOdd ctOdd), slOdd⟩)
    (cOdd : PySem.W.codeIn K cdOdd "_law_odd" = true)
    (aOdd : PySem.W.nsIn K mainGlobals "_law_odd" = some (some (.ref fOdd)))
    (kOdd : PySem.W.keepIn K (.ref fOdd) = true)
    (lNoSign : K.lookup fNoSign = some ⟨ocNoSign, odNoSign, .func (PySem.W.fnOf "_law_no_sign" "_law_no_sign" (defArgs sNoSign) (defBody sNoSign) (defScope sNoSign) .none kVNoSign dcNoSign pmNoSign anNoSign cdNoSign ctNoSign), slNoSign⟩)
    (cNoSign : PySem.W.codeIn K cdNoSign "_law_no_sign" = true)
    (aNoSign : PySem.W.nsIn K mainGlobals "_law_no_sign" = some (some (.ref fNoSign)))
    (kNoSign : PySem.W.keepIn K (.ref fNoSign) = true)
    (lKinds : K.lookup fKinds = some ⟨ocKinds, odKinds, .func (PySem.W.fnOf "_law_kinds" "_law_kinds" (defArgs sKinds) (defBody sKinds) (defScope sKinds) .none kVKinds dcKinds pmKinds anKinds cdKinds ctKinds), slKinds⟩)
    (cKinds : PySem.W.codeIn K cdKinds "_law_kinds" = true)
    (aKinds : PySem.W.nsIn K mainGlobals "_law_kinds" = some (some (.ref fKinds)))
    (kKinds : PySem.W.keepIn K (.ref fKinds) = true)
    (lRight : K.lookup fRight = some ⟨ocRight, odRight, .func (PySem.W.fnOf "_law_right" "_law_right" (defArgs sRight) (defBody sRight) (defScope sRight) .none kVRight dcRight pmRight anRight cdRight ctRight), slRight⟩)
    (cRight : PySem.W.codeIn K cdRight "_law_right" = true)
    (aRight : PySem.W.nsIn K mainGlobals "_law_right" = some (some (.ref fRight)))
    (kRight : PySem.W.keepIn K (.ref fRight) = true)
    (lSpoilt : K.lookup fSpoilt = some ⟨ocSpoilt, odSpoilt, .func (PySem.W.fnOf "_law_spoilt" "_law_spoilt" (defArgs sSpoilt) (defBody sSpoilt) (defScope sSpoilt) .none kVSpoilt dcSpoilt pmSpoilt anSpoilt cdSpoilt ctSpoilt), slSpoilt⟩)
    (cSpoilt : PySem.W.codeIn K cdSpoilt "_law_spoilt" = true)
    (aSpoilt : PySem.W.nsIn K mainGlobals "_law_spoilt" = some (some (.ref fSpoilt)))
    (kSpoilt : PySem.W.keepIn K (.ref fSpoilt) = true)
    (lRefused : K.lookup fRefused = some ⟨ocRefused, odRefused, .func (PySem.W.fnOf "_law_refused" "_law_refused" (defArgs sRefused) (defBody sRefused) (defScope sRefused) .none kVRefused dcRefused pmRefused anRefused cdRefused ctRefused), slRefused⟩)
    (cRefused : PySem.W.codeIn K cdRefused "_law_refused" = true)
    (aRefused : PySem.W.nsIn K mainGlobals "_law_refused" = some (some (.ref fRefused)))
    (kRefused : PySem.W.keepIn K (.ref fRefused) = true)
    (lDue : K.lookup fDue = some ⟨ocDue, odDue, .func (PySem.W.fnOf "_law_due" "_law_due" (defArgs sDue) (defBody sDue) (defScope sDue) .none kVDue dcDue pmDue anDue cdDue ctDue), slDue⟩)
    (cDue : PySem.W.codeIn K cdDue "_law_due" = true)
    (aDue : PySem.W.nsIn K mainGlobals "_law_due" = some (some (.ref fDue)))
    (kDue : PySem.W.keepIn K (.ref fDue) = true)
    (lDraw : K.lookup fDraw = some ⟨ocDraw, odDraw, .func (PySem.W.fnOf "_law_draw" "_law_draw" (defArgs sDraw) (defBody sDraw) (defScope sDraw) .none kVDraw dcDraw pmDraw anDraw cdDraw ctDraw), slDraw⟩)
    (cDraw : PySem.W.codeIn K cdDraw "_law_draw" = true)
    (aDraw : PySem.W.nsIn K mainGlobals "_law_draw" = some (some (.ref fDraw)))
    (kDraw : PySem.W.keepIn K (.ref fDraw) = true)
    (lLaw : K.lookup fLaw = some ⟨ocLaw, odLaw, .func (PySem.W.fnOf "law" "law" (defArgs sLaw) (defBody sLaw) (defScope sLaw) .none kVLaw dcLaw pmLaw anLaw cdLaw ctLaw), slLaw⟩)
    (cLaw : PySem.W.codeIn K cdLaw "law" = true)
    (aLaw : PySem.W.nsIn K mainGlobals "law" = some (some (.ref fLaw)))
    (kLaw : PySem.W.keepIn K (.ref fLaw) = true)
    (z_len : PySem.W.nsIn K mainGlobals "len" = some none)
    (z_set : PySem.W.nsIn K mainGlobals "set" = some none)
    (z_all : PySem.W.nsIn K mainGlobals "all" = some none)
    (z_abs : PySem.W.nsIn K mainGlobals "abs" = some none)
    (z_int : PySem.W.nsIn K mainGlobals "int" = some none)
    (z_range : PySem.W.nsIn K mainGlobals "range" = some none)
    (z_sorted : PySem.W.nsIn K mainGlobals "sorted" = some none)
    (z_isinstance : PySem.W.nsIn K mainGlobals "isinstance" = some none)
    (z_str : PySem.W.nsIn K mainGlobals "str" = some none)
    (z_bool : PySem.W.nsIn K mainGlobals "bool" = some none)
    (z_list : PySem.W.nsIn K mainGlobals "list" = some none)
    (z_tuple : PySem.W.nsIn K mainGlobals "tuple" = some none)
    (z_any : PySem.W.nsIn K mainGlobals "any" = some none)
    (z_enumerate : PySem.W.nsIn K mainGlobals "enumerate" = some none)
    (z_min : PySem.W.nsIn K mainGlobals "min" = some none)
    (z_max : PySem.W.nsIn K mainGlobals "max" = some none)
    (z_ValueError : PySem.W.nsIn K mainGlobals "ValueError" = some none)
    (z_zip : PySem.W.nsIn K mainGlobals "zip" = some none)
    (z_dict : PySem.W.nsIn K mainGlobals "dict" = some none)
    (aC : PySem.W.nsIn K mainGlobals "Alphabet" = some (some (.ref C)))
    (pgC : PySem.W.plainGet K C Str.empty = true)
    (hdC : PySem.W.hasDictIn K C = true)
    (poC : PySem.W.plainOver K C = true)
    (saC : PySem.W.findIn K (.ref C) "__setattr__" = some (some (.builtin "object.__setattr__")))
    (mkC : PySem.W.makesIn K C = true)
    (kC : PySem.W.keepIn K (.ref C) = true)
    (nC_letters : PySem.W.findIn K (.ref C) "letters" = some none)
    (nC_vowels : PySem.W.findIn K (.ref C) "vowels" = some none)
    (nC_consonants : PySem.W.findIn K (.ref C) "consonants" = some none)
    (nC_signs : PySem.W.findIn K (.ref C) "signs" = some none)
    (ig : PySem.W.specialIn K (.builtin "object.__class__") "__get__" = some (some (.builtin "getset_descriptor.__get__")))
    (it : PySem.W.takesIn K (.builtin "object.__class__") = some true)
    (icC : PySem.W.findIn K (.ref C) "__class__" = some (some (.builtin "object.__class__")))
    (imC : PySem.W.mroIn K C (.type "object") = some true)
    (rdC : PySem.W.readsIn K C (.type "type") = true)
    (gaC : PySem.W.specialIn K (.ref C) "__getattribute__" = some (some (.builtin "type.__getattribute__")))
    (vM : PySem.W.findCls K (.ref C) (.type "type") "MOST" = some (.val (.int 4 tM)))
    (vJ : PySem.W.findCls K (.ref C) (.type "type") "JOINT" = some (.val (.str "-" tJ)))
    (aJ : PySem.W.findIn K (.ref C) "JOINT" = some (some (.str "-" tj2)))
    (gJ : PySem.W.specialIn K (.str "-" tj2) "__get__" = some none)
    (aSL : PySem.W.nsIn K mainGlobals "SMALL_LETTERS" = some (some (.str "abcdefghijklmnopqrstuvwxyz" tl)))
    (aTB : PySem.W.nsIn K mainGlobals "Table" = some (some (.ref TB)))
    (pgTB : PySem.W.plainGet K TB Str.empty = true)
    (hdTB : PySem.W.hasDictIn K TB = true)
    (poTB : PySem.W.plainOver K TB = true)
    (saTB : PySem.W.findIn K (.ref TB) "__setattr__" = some (some (.builtin "object.__setattr__")))
    (mkTB : PySem.W.makesIn K TB = true)
    (kTB : PySem.W.keepIn K (.ref TB) = true)
    (nTB_alphabet : PySem.W.findIn K (.ref TB) "alphabet" = some none)
    (nTB_pairs : PySem.W.findIn K (.ref TB) "_pairs" = some none)
    (icTB : PySem.W.findIn K (.ref TB) "__class__" = some (some (.builtin "object.__class__")))
    (imTB : PySem.W.mroIn K TB (.type "object") = some true)
    (aPN : PySem.W.nsIn K mainGlobals "Person" = some (some (.ref PN)))
    (pgPN : PySem.W.plainGet K PN Str.empty = true)
    (hdPN : PySem.W.hasDictIn K PN = true)
    (poPN : PySem.W.plainOver K PN = true)
    (saPN : PySem.W.findIn K (.ref PN) "__setattr__" = some (some (.builtin "object.__setattr__")))
    (mkPN : PySem.W.makesIn K PN = true)
    (kPN : PySem.W.keepIn K (.ref PN) = true)
    (icPN : PySem.W.findIn K (.ref PN) "__class__" = some (some (.builtin "object.__class__")))
    (imPN : PySem.W.mroIn K PN (.type "object") = some true)
    (nPN_alphabet : PySem.W.findIn K (.ref PN) "alphabet" = some none)
    (nPN_hears : PySem.W.findIn K (.ref PN) "_hears" = some none)
    (nPN_says : PySem.W.findIn K (.ref PN) "_says" = some none)
    (nPN_known : PySem.W.findIn K (.ref PN) "_known" = some none)
    (iscPN : PySem.W.isClsIn K PN = true)
    (tyPN : PySem.W.typeIn K (.ref PN) = some (.type "type"))
    (sPN_PN : PySem.W.subIn K (.ref PN) (.ref PN) = some true)
    (clPN : PySem.W.clsIn K PN = some { name := nmPN, bases := bsPN, mro := [.ref PN, .type "object"], ns := NPN, qualname := qPN, hasDict := hdPNx, slotNames := snPN, subclasses := subPN, abstract := abPN, collection := colPN, hasDel := dlPN })
    (aKN : PySem.W.nsIn K mainGlobals "Knower" = some (some (.ref KN)))
    (pgKN : PySem.W.plainGet K KN Str.empty = true)
    (hdKN : PySem.W.hasDictIn K KN = true)
    (poKN : PySem.W.plainOver K KN = true)
    (saKN : PySem.W.findIn K (.ref KN) "__setattr__" = some (some (.builtin "object.__setattr__")))
    (mkKN : PySem.W.makesIn K KN = true)
    (kKN : PySem.W.keepIn K (.ref KN) = true)
    (icKN : PySem.W.findIn K (.ref KN) "__class__" = some (some (.builtin "object.__class__")))
    (imKN : PySem.W.mroIn K KN (.type "object") = some true)
    (nKN_alphabet : PySem.W.findIn K (.ref KN) "alphabet" = some none)
    (nKN_hears : PySem.W.findIn K (.ref KN) "_hears" = some none)
    (nKN_says : PySem.W.findIn K (.ref KN) "_says" = some none)
    (nKN_known : PySem.W.findIn K (.ref KN) "_known" = some none)
    (iscKN : PySem.W.isClsIn K KN = true)
    (tyKN : PySem.W.typeIn K (.ref KN) = some (.type "type"))
    (sKN_KN : PySem.W.subIn K (.ref KN) (.ref KN) = some true)
    (clKN : PySem.W.clsIn K KN = some { name := nmKN, bases := bsKN, mro := [.ref KN, .ref PN, .type "object"], ns := NKN, qualname := qKN, hasDict := hdKNx, slotNames := snKN, subclasses := subKN, abstract := abKN, collection := colKN, hasDel := dlKN })
    (aDN : PySem.W.nsIn K mainGlobals "Doubter" = some (some (.ref DN)))
    (pgDN : PySem.W.plainGet K DN Str.empty = true)
    (hdDN : PySem.W.hasDictIn K DN = true)
    (poDN : PySem.W.plainOver K DN = true)
    (saDN : PySem.W.findIn K (.ref DN) "__setattr__" = some (some (.builtin "object.__setattr__")))
    (mkDN : PySem.W.makesIn K DN = true)
    (kDN : PySem.W.keepIn K (.ref DN) = true)
    (icDN : PySem.W.findIn K (.ref DN) "__class__" = some (some (.builtin "object.__class__")))
    (imDN : PySem.W.mroIn K DN (.type "object") = some true)
    (nDN_alphabet : PySem.W.findIn K (.ref DN) "alphabet" = some none)
    (nDN_hears : PySem.W.findIn K (.ref DN) "_hears" = some none)
    (nDN_says : PySem.W.findIn K (.ref DN) "_says" = some none)
    (nDN_known : PySem.W.findIn K (.ref DN) "_known" = some none)
    (iscDN : PySem.W.isClsIn K DN = true)
    (tyDN : PySem.W.typeIn K (.ref DN) = some (.type "type"))
    (sDN_DN : PySem.W.subIn K (.ref DN) (.ref DN) = some true)
    (clDN : PySem.W.clsIn K DN = some { name := nmDN, bases := bsDN, mro := [.ref DN, .ref PN, .type "object"], ns := NDN, qualname := qDN, hasDict := hdDNx, slotNames := snDN, subclasses := subDN, abstract := abDN, collection := colDN, hasDel := dlDN })
    (aKD : PySem.W.nsIn K mainGlobals "KnowingDoubter" = some (some (.ref KD)))
    (pgKD : PySem.W.plainGet K KD Str.empty = true)
    (hdKD : PySem.W.hasDictIn K KD = true)
    (poKD : PySem.W.plainOver K KD = true)
    (saKD : PySem.W.findIn K (.ref KD) "__setattr__" = some (some (.builtin "object.__setattr__")))
    (mkKD : PySem.W.makesIn K KD = true)
    (kKD : PySem.W.keepIn K (.ref KD) = true)
    (icKD : PySem.W.findIn K (.ref KD) "__class__" = some (some (.builtin "object.__class__")))
    (imKD : PySem.W.mroIn K KD (.type "object") = some true)
    (nKD_alphabet : PySem.W.findIn K (.ref KD) "alphabet" = some none)
    (nKD_hears : PySem.W.findIn K (.ref KD) "_hears" = some none)
    (nKD_says : PySem.W.findIn K (.ref KD) "_says" = some none)
    (nKD_known : PySem.W.findIn K (.ref KD) "_known" = some none)
    (iscKD : PySem.W.isClsIn K KD = true)
    (tyKD : PySem.W.typeIn K (.ref KD) = some (.type "type"))
    (sKD_KD : PySem.W.subIn K (.ref KD) (.ref KD) = some true)
    (clKD : PySem.W.clsIn K KD = some { name := nmKD, bases := bsKD, mro := [.ref KD, .ref KN, .ref DN, .ref PN, .type "object"], ns := NKD, qualname := qKD, hasDict := hdKDx, slotNames := snKD, subclasses := subKD, abstract := abKD, collection := colKD, hasDel := dlKD })
    (sPN_KN : PySem.W.subIn K (.ref PN) (.ref KN) = some false)
    (sPN_DN : PySem.W.subIn K (.ref PN) (.ref DN) = some false)
    (sPN_KD : PySem.W.subIn K (.ref PN) (.ref KD) = some false)
    (sKN_PN : PySem.W.subIn K (.ref KN) (.ref PN) = some true)
    (sKN_DN : PySem.W.subIn K (.ref KN) (.ref DN) = some false)
    (sKN_KD : PySem.W.subIn K (.ref KN) (.ref KD) = some false)
    (sDN_PN : PySem.W.subIn K (.ref DN) (.ref PN) = some true)
    (sDN_KN : PySem.W.subIn K (.ref DN) (.ref KN) = some false)
    (sDN_KD : PySem.W.subIn K (.ref DN) (.ref KD) = some false)
    (sKD_PN : PySem.W.subIn K (.ref KD) (.ref PN) = some true)
    (sKD_KN : PySem.W.subIn K (.ref KD) (.ref KN) = some true)
    (sKD_DN : PySem.W.subIn K (.ref KD) (.ref DN) = some true)
    (lAlEq : K.lookup fAlEq = some ⟨ocAlEq, odAlEq, .func (PySem.W.fnOf "__eq__" "Alphabet.__eq__" (defArgs sAlEq) (defBody sAlEq) (defScope sAlEq) .none kVAlEq dcAlEq pmAlEq anAlEq cdAlEq ctAlEq), slAlEq⟩)
    (cAlEq : PySem.W.codeIn K cdAlEq "Alphabet.__eq__" = true)
    (aAlEq : PySem.W.findIn K (.ref C) "__eq__" = some (some (.ref fAlEq)))
    (kAlEq : PySem.W.keepIn K (.ref fAlEq) = true)
    (iAlEq : PySem.W.isFn K (.ref fAlEq) = true)
    (lIsSign : K.lookup fIsSign = some ⟨ocIsSign, odIsSign, .func (PySem.W.fnOf "is_sign" "Alphabet.is_sign" (defArgs sIsSign) (defBody sIsSign) (defScope sIsSign) .none kVIsSign dcIsSign pmIsSign anIsSign cdIsSign ctIsSign), slIsSign⟩)
    (cIsSign : PySem.W.codeIn K cdIsSign "Alphabet.is_sign" = true)
    (aIsSign : PySem.W.findIn K (.ref C) "is_sign" = some (some (.ref fIsSign)))
    (kIsSign : PySem.W.keepIn K (.ref fIsSign) = true)
    (iIsSign : PySem.W.isFn K (.ref fIsSign) = true)
    (lIsText : K.lookup fIsText = some ⟨ocIsText, odIsText, .func (PySem.W.fnOf "is_text" "Alphabet.is_text" (defArgs sIsText) (defBody sIsText) (defScope sIsText) .none kVIsText dcIsText pmIsText anIsText cdIsText ctIsText), slIsText⟩)
    (cIsText : PySem.W.codeIn K cdIsText "Alphabet.is_text" = true)
    (aIsText : PySem.W.findIn K (.ref C) "is_text" = some (some (.ref fIsText)))
    (kIsText : PySem.W.keepIn K (.ref fIsText) = true)
    (iIsText : PySem.W.isFn K (.ref fIsText) = true)
    (lTInit : K.lookup fTInit = some ⟨ocTInit, odTInit, .func (PySem.W.fnOf "__init__" "Table.__init__" (defArgs sTInit) (defBody sTInit) (defScope sTInit) .none kVTInit dcTInit pmTInit anTInit cdTInit ctTInit), slTInit⟩)
    (cTInit : PySem.W.codeIn K cdTInit "Table.__init__" = true)
    (aTInit : PySem.W.findIn K (.ref TB) "__init__" = some (some (.ref fTInit)))
    (kTInit : PySem.W.keepIn K (.ref fTInit) = true)
    (iTInit : PySem.W.isFn K (.ref fTInit) = true)
    (lTGet : K.lookup fTGet = some ⟨ocTGet, odTGet, .func (PySem.W.fnOf "__getitem__" "Table.__getitem__" (defArgs sTGet) (defBody sTGet) (defScope sTGet) .none kVTGet dcTGet pmTGet anTGet cdTGet ctTGet), slTGet⟩)
    (cTGet : PySem.W.codeIn K cdTGet "Table.__getitem__" = true)
    (aTGet : PySem.W.findIn K (.ref TB) "__getitem__" = some (some (.ref fTGet)))
    (kTGet : PySem.W.keepIn K (.ref fTGet) = true)
    (iTGet : PySem.W.isFn K (.ref fTGet) = true)
    (lTLen : K.lookup fTLen = some ⟨ocTLen, odTLen, .func (PySem.W.fnOf "__len__" "Table.__len__" (defArgs sTLen) (defBody sTLen) (defScope sTLen) .none kVTLen dcTLen pmTLen anTLen cdTLen ctTLen), slTLen⟩)
    (cTLen : PySem.W.codeIn K cdTLen "Table.__len__" = true)
    (aTLen : PySem.W.findIn K (.ref TB) "__len__" = some (some (.ref fTLen)))
    (kTLen : PySem.W.keepIn K (.ref fTLen) = true)
    (iTLen : PySem.W.isFn K (.ref fTLen) = true)
    (lTPairs : K.lookup fTPairs = some ⟨ocTPairs, odTPairs, .func (PySem.W.fnOf "pairs" "Table.pairs" (defArgs sTPairs) (defBody sTPairs) (defScope sTPairs) .none kVTPairs dcTPairs pmTPairs anTPairs cdTPairs ctTPairs), slTPairs⟩)
    (cTPairs : PySem.W.codeIn K cdTPairs "Table.pairs" = true)
    (aTPairs : PySem.W.findIn K (.ref TB) "pairs" = some (some (.ref fTPairs)))
    (kTPairs : PySem.W.keepIn K (.ref fTPairs) = true)
    (iTPairs : PySem.W.isFn K (.ref fTPairs) = true)
    (lPInit : K.lookup fPInit = some ⟨ocPInit, odPInit, .func (PySem.W.fnOf "__init__" "Person.__init__" (defArgs sPInit) (defBody sPInit) (defScope sPInit) .none kVPInit dcPInit pmPInit anPInit cdPInit ctPInit), slPInit⟩)
    (cPInit : PySem.W.codeIn K cdPInit "Person.__init__" = true)
    (aPInit : PySem.W.findIn K (.ref PN) "__init__" = some (some (.ref fPInit)))
    (kPInit : PySem.W.keepIn K (.ref fPInit) = true)
    (iPInit : PySem.W.isFn K (.ref fPInit) = true)
    (lPHeard : K.lookup fPHeard = some ⟨ocPHeard, odPHeard, .func (PySem.W.fnOf "heard" "Person.heard" (defArgs sPHeard) (defBody sPHeard) (defScope sPHeard) .none kVPHeard dcPHeard pmPHeard anPHeard cdPHeard ctPHeard), slPHeard⟩)
    (cPHeard : PySem.W.codeIn K cdPHeard "Person.heard" = true)
    (aPHeard : PySem.W.findIn K (.ref PN) "heard" = some (some (.ref fPHeard)))
    (kPHeard : PySem.W.keepIn K (.ref fPHeard) = true)
    (iPHeard : PySem.W.isFn K (.ref fPHeard) = true)
    (lPSaid : K.lookup fPSaid = some ⟨ocPSaid, odPSaid, .func (PySem.W.fnOf "said" "Person.said" (defArgs sPSaid) (defBody sPSaid) (defScope sPSaid) .none kVPSaid dcPSaid pmPSaid anPSaid cdPSaid ctPSaid), slPSaid⟩)
    (cPSaid : PySem.W.codeIn K cdPSaid "Person.said" = true)
    (aPSaid : PySem.W.findIn K (.ref PN) "said" = some (some (.ref fPSaid)))
    (kPSaid : PySem.W.keepIn K (.ref fPSaid) = true)
    (iPSaid : PySem.W.isFn K (.ref fPSaid) = true)
    (lPTable : K.lookup fPTable = some ⟨ocPTable, odPTable, .func (PySem.W.fnOf "table" "Person.table" (defArgs sPTable) (defBody sPTable) (defScope sPTable) .none kVPTable dcPTable pmPTable anPTable cdPTable ctPTable), slPTable⟩)
    (cPTable : PySem.W.codeIn K cdPTable "Person.table" = true)
    (kPTable : PySem.W.keepIn K (.ref fPTable) = true)
    (aPTablePN : PySem.W.findIn K (.ref PN) "table" = some (some (.ref pPTable)))
    (aPTableKN : PySem.W.findIn K (.ref KN) "table" = some (some (.ref pPTable)))
    (aPTableDN : PySem.W.findIn K (.ref DN) "table" = some (some (.ref pPTable)))
    (aPTableKD : PySem.W.findIn K (.ref KD) "table" = some (some (.ref pPTable)))
    (gPTable : PySem.W.specialIn K (.ref pPTable) "__get__" = some (some (.builtin "property.__get__")))
    (tPTable : PySem.W.takesIn K (.ref pPTable) = some true)
    (rPTable : PySem.W.recIn K pPTable "property" = some (.ref fPTable :: rsPTable))
    (lKKnown : K.lookup fKKnown = some ⟨ocKKnown, odKKnown, .func (PySem.W.fnOf "known" "Knower.known" (defArgs sKKnown) (defBody sKKnown) (defScope sKKnown) .none kVKKnown dcKKnown pmKKnown anKKnown cdKKnown ctKKnown), slKKnown⟩)
    (cKKnown : PySem.W.codeIn K cdKKnown "Knower.known" = true)
    (kKKnown : PySem.W.keepIn K (.ref fKKnown) = true)
    (aKKnownKN : PySem.W.findIn K (.ref KN) "known" = some (some (.ref pKKnown)))
    (aKKnownKD : PySem.W.findIn K (.ref KD) "known" = some (some (.ref pKKnown)))
    (gKKnown : PySem.W.specialIn K (.ref pKKnown) "__get__" = some (some (.builtin "property.__get__")))
    (tKKnown : PySem.W.takesIn K (.ref pKKnown) = some true)
    (rKKnown : PySem.W.recIn K pKKnown "property" = some (.ref fKKnown :: rsKKnown))
    (aPHeardKN : PySem.W.findIn K (.ref KN) "heard" = some (some (.ref fPHeard)))
    (aPHeardDN : PySem.W.findIn K (.ref DN) "heard" = some (some (.ref fPHeard)))
    (aPHeardKD : PySem.W.findIn K (.ref KD) "heard" = some (some (.ref fPHeard)))
    (aPInitDN : PySem.W.findIn K (.ref DN) "__init__" = some (some (.ref fPInit)))
    (tyPInit : PySem.W.typeIn K (.ref fPInit) = some (.type "function"))
    (fnPInit : PySem.W.fnIn K fPInit = true)
    (tyPSaid : PySem.W.typeIn K (.ref fPSaid) = some (.type "function"))
    (fnPSaid : PySem.W.fnIn K fPSaid = true)
    (fnTGet : PySem.W.fnIn K fTGet = true)
    (eqC : PySem.W.notFirst K C (.ref C) = true)
    (noT : (l.prog.main.scope.names.lookup ("super" : Str)).isSome = false)
    (noM : PySem.W.nsIn K mainGlobals "super" = some none)
    (anyS : PySem.W.nsIn K cStatics "thirdparty.any" = some none)
    (lKI : K.lookup fKI = some ⟨ocKI, odKI, .func (PySem.W.ksFn "__init__" "Knower.__init__" (defArgs sKInit) (defBody sKInit) (defScope sKInit) .none kVKI dcKI pmKI anKI (.ref cdaKI) ctKI ccKI), slKI⟩)
    (cKI : PySem.W.codeIn K (.ref cdaKI) "Knower.__init__" = true)
    (aKI : PySem.W.findIn K (.ref KN) "__init__" = some (some (.ref fKI)))
    (iKI : PySem.W.isFn K (.ref fKI) = true)
    (kKI : PySem.W.keepIn K (.ref fKI) = true)
    (lccKI : K.lookup ccKI = some ⟨clccKI, ddccKI, .cell (some (.ref KN)), slccKI⟩)
    (lcdKI : K.lookup cdaKI = some ⟨clcdKI, ddcdKI, .fields vsCKI, slcdKI⟩)
    (hvKI : vsCKI[2]? = some (.str flKI tfKI))
    (hflKI : ((l.prog.main.file : Str) == flKI) = true)
    (tyKI : PySem.W.typeIn K (.ref fKI) = some (.type "function"))
    (fnKI : PySem.W.fnIn K fKI = true)
    (lKS : K.lookup fKS = some ⟨ocKS, odKS, .func (PySem.W.ksFn "said" "Knower.said" (defArgs sKSaid) (defBody sKSaid) (defScope sKSaid) .none kVKS dcKS pmKS anKS (.ref cdaKS) ctKS ccKS), slKS⟩)
    (cKS : PySem.W.codeIn K (.ref cdaKS) "Knower.said" = true)
    (aKS : PySem.W.findIn K (.ref KN) "said" = some (some (.ref fKS)))
    (iKS : PySem.W.isFn K (.ref fKS) = true)
    (kKS : PySem.W.keepIn K (.ref fKS) = true)
    (lccKS : K.lookup ccKS = some ⟨clccKS, ddccKS, .cell (some (.ref KN)), slccKS⟩)
    (lcdKS : K.lookup cdaKS = some ⟨clcdKS, ddcdKS, .fields vsCKS, slcdKS⟩)
    (hvKS : vsCKS[2]? = some (.str flKS tfKS))
    (hflKS : ((l.prog.main.file : Str) == flKS) = true)
    (tyKS : PySem.W.typeIn K (.ref fKS) = some (.type "function"))
    (fnKS : PySem.W.fnIn K fKS = true)
    (lDS : K.lookup fDS = some ⟨ocDS, odDS, .func (PySem.W.ksFn "said" "Doubter.said" (defArgs sDSaid) (defBody sDSaid) (defScope sDSaid) .none kVDS dcDS pmDS anDS (.ref cdaDS) ctDS ccDS), slDS⟩)
    (cDS : PySem.W.codeIn K (.ref cdaDS) "Doubter.said" = true)
    (aDS : PySem.W.findIn K (.ref DN) "said" = some (some (.ref fDS)))
    (iDS : PySem.W.isFn K (.ref fDS) = true)
    (kDS : PySem.W.keepIn K (.ref fDS) = true)
    (lccDS : K.lookup ccDS = some ⟨clccDS, ddccDS, .cell (some (.ref DN)), slccDS⟩)
    (lcdDS : K.lookup cdaDS = some ⟨clcdDS, ddcdDS, .fields vsCDS, slcdDS⟩)
    (hvDS : vsCDS[2]? = some (.str flDS tfDS))
    (hflDS : ((l.prog.main.file : Str) == flDS) = true)
    (tyDS : PySem.W.typeIn K (.ref fDS) = some (.type "function"))
    (fnDS : PySem.W.fnIn K fDS = true)
    (lXS : K.lookup fXS = some ⟨ocXS, odXS, .func (PySem.W.ksFn "said" "KnowingDoubter.said" (defArgs sKDSaid) (defBody sKDSaid) (defScope sKDSaid) .none kVXS dcXS pmXS anXS (.ref cdaXS) ctXS ccXS), slXS⟩)
    (cXS : PySem.W.codeIn K (.ref cdaXS) "KnowingDoubter.said" = true)
    (aXS : PySem.W.findIn K (.ref KD) "said" = some (some (.ref fXS)))
    (iXS : PySem.W.isFn K (.ref fXS) = true)
    (kXS : PySem.W.keepIn K (.ref fXS) = true)
    (lccXS : K.lookup ccXS = some ⟨clccXS, ddccXS, .cell (some (.ref KD)), slccXS⟩)
    (lcdXS : K.lookup cdaXS = some ⟨clcdXS, ddcdXS, .fields vsCXS, slcdXS⟩)
    (hvXS : vsCXS[2]? = some (.str flXS tfXS))
    (hflXS : ((l.prog.main.file : Str) == flXS) = true)
    (tyXS : PySem.W.typeIn K (.ref fXS) = some (.type "function"))
    (fnXS : PySem.W.fnIn K fXS = true)
    (aKIKD : PySem.W.findIn K (.ref KD) "__init__" = some (some (.ref fKI)))
    (lA : K.lookup fA = some ⟨ocA, odA, .func (PySem.W.fnOf "__init__" "Alphabet.__init__" (defArgs sAI) (defBody sAI) (defScope sAI) (.ref TDA) kVA dcA pmA anA cdA ctA), slA⟩)
    (cA : PySem.W.codeIn K cdA "Alphabet.__init__" = true)
    (aA : PySem.W.findIn K (.ref C) "__init__" = some (some (.ref fA)))
    (lDA : K.lookup TDA = some ⟨ocDA, odDA, .seq [Value.str "" tDA].toArray nDA, slDA⟩)
    (kA : PySem.W.keepIn K (.ref fA) = true)
    (iA : PySem.W.isFn K (.ref fA) = true)
    (xTE : K.lookup TE = some (excClassObj nmTE qTE TE NTE bsTE [.type "ValueError", .type "Exception", .type "BaseException", .type "object"] true snTE subTE abTE colTE ddTE m0TE m1TE m2TE m3TE m5TE "ValueError.__new__"))
    (aTE : PySem.W.nsIn K mainGlobals "TaleError" = some (some (.ref TE)))
    (eTE : PySem.W.subIn K (.ref TE) (.type "BaseException") = some true)
    (tTE : PySem.W.typeIn K (.ref TE) = some (.type "type"))
    (hTE : PySem.W.hasDictIn K TE = true)
    (iTE : PySem.W.findIn K (.ref TE) "__init__" = some (some (.builtin "ValueError.__init__")))
    (xBA : K.lookup BA = some (excClassObj nmBA qBA BA NBA bsBA [.ref TE, .type "ValueError", .type "Exception", .type "BaseException", .type "object"] true snBA subBA abBA colBA ddBA m0BA m1BA m2BA m3BA m5BA "ValueError.__new__"))
    (aBA : PySem.W.nsIn K mainGlobals "BadAlphabet" = some (some (.ref BA)))
    (eBA : PySem.W.subIn K (.ref BA) (.type "BaseException") = some true)
    (tBA : PySem.W.typeIn K (.ref BA) = some (.type "type"))
    (hBA : PySem.W.hasDictIn K BA = true)
    (nBA_part : PySem.W.findIn K (.ref BA) "part" = some none)
    (saBA : PySem.W.findIn K (.ref BA) "__setattr__" = some (some (.builtin "object.__setattr__")))
    (gaBA : PySem.W.findIn K (.ref BA) "__getattribute__" = some (some (.builtin "BaseException.__getattribute__")))
    (ggBA : PySem.W.findIn K (.ref BA) "__getattr__" = some none)
    (aFBA : PySem.W.findIn K (.ref BA) "__init__" = some (some (.ref fBA)))
    (tFBA : PySem.W.typeIn K (.ref fBA) = some (.type "function"))
    (lBA : K.lookup fBA = some ⟨ocBA, odBA, .func (PySem.W.ksFn "__init__" "BadAlphabet.__init__" (defArgs sBA) (defBody sBA) (defScope sBA) .none kVBA dcBA pmBA anBA (.ref cdaBA) ctBA ccBA), slBA⟩)
    (cBA : PySem.W.codeIn K (.ref cdaBA) "BadAlphabet.__init__" = true)
    (kBA : PySem.W.keepIn K (.ref BA) = true)
    (lccBA : K.lookup ccBA = some ⟨clccBA, ddccBA, .cell (some (.ref BA)), slccBA⟩)
    (lcdBA : K.lookup cdaBA = some ⟨clcdBA, ddcdBA, .fields vsCBA, slcdBA⟩)
    (hvBA : vsCBA[2]? = some (.str flBA tfBA))
    (hflBA : ((l.prog.main.file : Str) == flBA) = true)
    (mmBA : PySem.W.mroIn K BA (.ref BA) = some true)
    (vBA : PySem.W.subIn K (.ref BA) (.type "ValueError") = some true)
    (xBP : K.lookup BP = some (excClassObj nmBP qBP BP NBP bsBP [.ref TE, .type "ValueError", .type "Exception", .type "BaseException", .type "object"] true snBP subBP abBP colBP ddBP m0BP m1BP m2BP m3BP m5BP "ValueError.__new__"))
    (aBP : PySem.W.nsIn K mainGlobals "BadPair" = some (some (.ref BP)))
    (eBP : PySem.W.subIn K (.ref BP) (.type "BaseException") = some true)
    (tBP : PySem.W.typeIn K (.ref BP) = some (.type "type"))
    (hBP : PySem.W.hasDictIn K BP = true)
    (nBP_index : PySem.W.findIn K (.ref BP) "index" = some none)
    (saBP : PySem.W.findIn K (.ref BP) "__setattr__" = some (some (.builtin "object.__setattr__")))
    (gaBP : PySem.W.findIn K (.ref BP) "__getattribute__" = some (some (.builtin "BaseException.__getattribute__")))
    (ggBP : PySem.W.findIn K (.ref BP) "__getattr__" = some none)
    (aFBP : PySem.W.findIn K (.ref BP) "__init__" = some (some (.ref fBP)))
    (tFBP : PySem.W.typeIn K (.ref fBP) = some (.type "function"))
    (lBP : K.lookup fBP = some ⟨ocBP, odBP, .func (PySem.W.ksFn "__init__" "BadPair.__init__" (defArgs sEBadPair) (defBody sEBadPair) (defScope sEBadPair) .none kVBP dcBP pmBP anBP (.ref cdaBP) ctBP ccBP), slBP⟩)
    (cBP : PySem.W.codeIn K (.ref cdaBP) "BadPair.__init__" = true)
    (kBP : PySem.W.keepIn K (.ref BP) = true)
    (lccBP : K.lookup ccBP = some ⟨clccBP, ddccBP, .cell (some (.ref BP)), slccBP⟩)
    (lcdBP : K.lookup cdaBP = some ⟨clcdBP, ddcdBP, .fields vsCBP, slcdBP⟩)
    (hvBP : vsCBP[2]? = some (.str flBP tfBP))
    (hflBP : ((l.prog.main.file : Str) == flBP) = true)
    (mmBP : PySem.W.mroIn K BP (.ref BP) = some true)
    (vBP : PySem.W.subIn K (.ref BP) (.type "ValueError") = some true)
    (xUS : K.lookup US = some (excClassObj nmUS qUS US NUS bsUS [.ref TE, .type "ValueError", .type "Exception", .type "BaseException", .type "object"] true snUS subUS abUS colUS ddUS m0US m1US m2US m3US m5US "ValueError.__new__"))
    (aUS : PySem.W.nsIn K mainGlobals "UnknownSign" = some (some (.ref US)))
    (eUS : PySem.W.subIn K (.ref US) (.type "BaseException") = some true)
    (tUS : PySem.W.typeIn K (.ref US) = some (.type "type"))
    (hUS : PySem.W.hasDictIn K US = true)
    (nUS_sign : PySem.W.findIn K (.ref US) "sign" = some none)
    (saUS : PySem.W.findIn K (.ref US) "__setattr__" = some (some (.builtin "object.__setattr__")))
    (gaUS : PySem.W.findIn K (.ref US) "__getattribute__" = some (some (.builtin "BaseException.__getattribute__")))
    (ggUS : PySem.W.findIn K (.ref US) "__getattr__" = some none)
    (aFUS : PySem.W.findIn K (.ref US) "__init__" = some (some (.ref fUS)))
    (tFUS : PySem.W.typeIn K (.ref fUS) = some (.type "function"))
    (lUS : K.lookup fUS = some ⟨ocUS, odUS, .func (PySem.W.ksFn "__init__" "UnknownSign.__init__" (defArgs sEUnknownSign) (defBody sEUnknownSign) (defScope sEUnknownSign) .none kVUS dcUS pmUS anUS (.ref cdaUS) ctUS ccUS), slUS⟩)
    (cUS : PySem.W.codeIn K (.ref cdaUS) "UnknownSign.__init__" = true)
    (kUS : PySem.W.keepIn K (.ref US) = true)
    (lccUS : K.lookup ccUS = some ⟨clccUS, ddccUS, .cell (some (.ref US)), slccUS⟩)
    (lcdUS : K.lookup cdaUS = some ⟨clcdUS, ddcdUS, .fields vsCUS, slcdUS⟩)
    (hvUS : vsCUS[2]? = some (.str flUS tfUS))
    (hflUS : ((l.prog.main.file : Str) == flUS) = true)
    (mmUS : PySem.W.mroIn K US (.ref US) = some true)
    (vUS : PySem.W.subIn K (.ref US) (.type "ValueError") = some true)
    (xBQ : K.lookup BQ = some (excClassObj nmBQ qBQ BQ NBQ bsBQ [.ref TE, .type "ValueError", .type "Exception", .type "BaseException", .type "object"] true snBQ subBQ abBQ colBQ ddBQ m0BQ m1BQ m2BQ m3BQ m5BQ "ValueError.__new__"))
    (aBQ : PySem.W.nsIn K mainGlobals "BadPerson" = some (some (.ref BQ)))
    (eBQ : PySem.W.subIn K (.ref BQ) (.type "BaseException") = some true)
    (tBQ : PySem.W.typeIn K (.ref BQ) = some (.type "type"))
    (hBQ : PySem.W.hasDictIn K BQ = true)
    (nBQ_part : PySem.W.findIn K (.ref BQ) "part" = some none)
    (saBQ : PySem.W.findIn K (.ref BQ) "__setattr__" = some (some (.builtin "object.__setattr__")))
    (gaBQ : PySem.W.findIn K (.ref BQ) "__getattribute__" = some (some (.builtin "BaseException.__getattribute__")))
    (ggBQ : PySem.W.findIn K (.ref BQ) "__getattr__" = some none)
    (aFBQ : PySem.W.findIn K (.ref BQ) "__init__" = some (some (.ref fBQ)))
    (tFBQ : PySem.W.typeIn K (.ref fBQ) = some (.type "function"))
    (lBQ : K.lookup fBQ = some ⟨ocBQ, odBQ, .func (PySem.W.ksFn "__init__" "BadPerson.__init__" (defArgs sEBadPerson) (defBody sEBadPerson) (defScope sEBadPerson) .none kVBQ dcBQ pmBQ anBQ (.ref cdaBQ) ctBQ ccBQ), slBQ⟩)
    (cBQ : PySem.W.codeIn K (.ref cdaBQ) "BadPerson.__init__" = true)
    (kBQ : PySem.W.keepIn K (.ref BQ) = true)
    (lccBQ : K.lookup ccBQ = some ⟨clccBQ, ddccBQ, .cell (some (.ref BQ)), slccBQ⟩)
    (lcdBQ : K.lookup cdaBQ = some ⟨clcdBQ, ddcdBQ, .fields vsCBQ, slcdBQ⟩)
    (hvBQ : vsCBQ[2]? = some (.str flBQ tfBQ))
    (hflBQ : ((l.prog.main.file : Str) == flBQ) = true)
    (mmBQ : PySem.W.mroIn K BQ (.ref BQ) = some true)
    (vBQ : PySem.W.subIn K (.ref BQ) (.type "ValueError") = some true)
    (sTE_TE : PySem.W.subIn K (.ref TE) (.ref TE) = some true)
    (clTE : PySem.W.isClsIn K TE = true)
    (sUS_US : PySem.W.subIn K (.ref US) (.ref US) = some true)
    (sUS_TE : PySem.W.subIn K (.ref US) (.ref TE) = some true)
    (clUS : PySem.W.isClsIn K US = true)
    (sBQ_BQ : PySem.W.subIn K (.ref BQ) (.ref BQ) = some true)
    (sBQ_TE : PySem.W.subIn K (.ref BQ) (.ref TE) = some true)
    (clBQ : PySem.W.isClsIn K BQ = true)
    (sUS_BQ : PySem.W.subIn K (.ref US) (.ref BQ) = some false)
    (sBQ_US : PySem.W.subIn K (.ref BQ) (.ref US) = some false)
    (icUS : PySem.W.findIn K (.ref US) "__class__" = some (some (.builtin "object.__class__")))
    (imUS : PySem.W.mroIn K US (.type "object") = some true)
    (icBQ : PySem.W.findIn K (.ref BQ) "__class__" = some (some (.builtin "object.__class__")))
    (imBQ : PySem.W.mroIn K BQ (.type "object") = some true) :
    ∃ fd : FuncData, (∀ (s : Shared) (v : Value), BindsTo s fd ⟨[v], []⟩ [("_law_script", v)]) ∧ ∀ base : Heap, K.In base → base.Ns mainGlobals mg → FnOk l.prog w K mg base CX0 12 fa fd ["_law_script"] (spLaw K) := by
  have e := hfa.symm.trans (PySem.W.mg_of X G aLaw)
  cases e
  have gm : ∀ {n : Str} {v : Value}, PySem.W.nsIn K mainGlobals n = some (some v) → mg n = some v := fun e => PySem.W.mg_of X G e
  have gn : ∀ {n : Str}, PySem.W.nsIn K mainGlobals n = some none → mg n = none := fun e => PySem.W.mg_none_of X G e
  have FDiff := fun_mk (st := sDiff) lDiff cDiff kDiff
  have bDiff := FDiff.binds (ps := ["text", "allowed"]) fun _ _ _ _ _ _ us hl => match us, hl with | [_, _], _ => rfl
  have FInOrder := fun_mk (st := sInOrder) lInOrder cInOrder kInOrder
  have bInOrder := FInOrder.binds (ps := ["signs"]) fun _ _ _ _ _ _ us hl => match us, hl with | [_], _ => rfl
  have FBag := fun_mk (st := sBag) lBag cBag kBag
  have bBag := FBag.binds (ps := ["_law_script"]) fun _ _ _ _ _ _ us hl => match us, hl with | [_], _ => rfl
  have FTake := fun_mk (st := sTake) lTake cTake kTake
  have bTake := FTake.binds (ps := ["_law_bag_here", "_law_size"]) fun _ _ _ _ _ _ us hl => match us, hl with | [_, _], _ => rfl
  have FNames := fun_mk (st := sNames) lNames cNames kNames
  have bNames := FNames.binds (ps := ["_law_bag_here", "_law_count"]) fun _ _ _ _ _ _ us hl => match us, hl with | [_, _], _ => rfl
  have FSigns := fun_mk (st := sSigns) lSigns cSigns kSigns
  have bSigns := FSigns.binds (ps := ["_law_letters"]) fun _ _ _ _ _ _ us hl => match us, hl with | [_], _ => rfl
  have FMake := fun_mk (st := sMake) lMake cMake kMake
  have bMake := FMake.binds (ps := ["_law_alphabet", "_law_kind", "_law_hears", "_law_says", "_law_knows"]) fun _ _ _ _ _ _ us hl => match us, hl with | [_, _, _, _, _], _ => rfl
  have FRows := fun_mk (st := sRows) lRows cRows kRows
  have bRows := FRows.binds (ps := ["_law_signs_here", "_law_kind", "_law_hears", "_law_says", "_law_knows"]) fun _ _ _ _ _ _ us hl => match us, hl with | [_, _, _, _, _], _ => rfl
  have FIs := fun_mk (st := sIs) lIs cIs kIs
  have bIs := FIs.binds (ps := ["_law_table", "_law_alphabet", "_law_signs_here", "_law_outs"]) fun _ _ _ _ _ _ us hl => match us, hl with | [_, _, _, _], _ => rfl
  have FStrange := fun_mk (st := sStrange) lStrange cStrange kStrange
  have bStrange := FStrange.binds (ps := ["_law_bag_here", "_law_signs_here"]) fun _ _ _ _ _ _ us hl => match us, hl with | [_, _], _ => rfl
  have FOdd := fun_mk (st := sOdd) lOdd cOdd kOdd
  have bOdd := FOdd.binds (ps := ["_law_bag_here", "_law_signs_here"]) fun _ _ _ _ _ _ us hl => match us, hl with | [_, _], _ => rfl
  have FNoSign := fun_mk (st := sNoSign) lNoSign cNoSign kNoSign
  have bNoSign := FNoSign.binds (ps := ["_law_person", "_law_strange_here", "_law_hearing"]) fun _ _ _ _ _ _ us hl => match us, hl with | [_, _, _], _ => rfl
  have FKinds := fun_mk (st := sKinds) lKinds cKinds kKinds
  have bKinds := FKinds.binds (ps := ["_law_person", "_law_kind"]) fun _ _ _ _ _ _ us hl => match us, hl with | [_, _], _ => rfl
  have FRight := fun_mk (st := sRight) lRight cRight kRight
  have bRight := FRight.binds (ps := ["_law_person", "_law_kind", "_law_alphabet", "_law_signs_here", "_law_hears", "_law_says", "_law_knows"]) fun _ _ _ _ _ _ us hl => match us, hl with | [_, _, _, _, _, _, _], _ => rfl
  have FSpoilt := fun_mk (st := sSpoilt) lSpoilt cSpoilt kSpoilt
  have bSpoilt := FSpoilt.binds (ps := ["_law_bag_here", "_law_signs_here", "_law_hears", "_law_says", "_law_knows", "_law_wrong"]) fun _ _ _ _ _ _ us hl => match us, hl with | [_, _, _, _, _, _], _ => rfl
  have FRefused := fun_mk (st := sRefused) lRefused cRefused kRefused
  have bRefused := FRefused.binds (ps := ["_law_alphabet", "_law_kind", "_law_parts", "_law_due_here"]) fun _ _ _ _ _ _ us hl => match us, hl with | [_, _, _, _], _ => rfl
  have FDue := fun_mk (st := sDue) lDue cDue kDue
  have bDue := FDue.binds (ps := ["_law_kind", "_law_wrong"]) fun _ _ _ _ _ _ us hl => match us, hl with | [_, _], _ => rfl
  have FDraw := fun_mk (st := sDraw) lDraw cDraw kDraw
  have bDraw := FDraw.binds (ps := ["_law_bag_here", "_law_signs_here", "_law_count"]) fun _ _ _ _ _ _ us hl => match us, hl with | [_, _, _], _ => rfl
  have FLaw := fun_mk (st := sLaw) lLaw cLaw kLaw
  have bLaw := FLaw.binds (ps := ["_law_script"]) fun _ _ _ _ _ _ us hl => match us, hl with | [_], _ => rfl
  have FAlEq := fun_mk (st := sAlEq) lAlEq cAlEq kAlEq
  have bAlEq := FAlEq.binds (ps := ["self", "other"]) fun _ _ _ _ _ _ us hl => match us, hl with | [_, _], _ => rfl
  have FIsSign := fun_mk (st := sIsSign) lIsSign cIsSign kIsSign
  have bIsSign := FIsSign.binds (ps := ["self", "text"]) fun _ _ _ _ _ _ us hl => match us, hl with | [_, _], _ => rfl
  have FIsText := fun_mk (st := sIsText) lIsText cIsText kIsText
  have bIsText := FIsText.binds (ps := ["self", "text"]) fun _ _ _ _ _ _ us hl => match us, hl with | [_, _], _ => rfl
  have FTInit := fun_mk (st := sTInit) lTInit cTInit kTInit
  have bTInit := FTInit.binds (ps := ["self", "alphabet", "pairs"]) fun _ _ _ _ _ _ us hl => match us, hl with | [_, _, _], _ => rfl
  have FTGet := fun_mk (st := sTGet) lTGet cTGet kTGet
  have bTGet := FTGet.binds (ps := ["self", "sign"]) fun _ _ _ _ _ _ us hl => match us, hl with | [_, _], _ => rfl
  have FTLen := fun_mk (st := sTLen) lTLen cTLen kTLen
  have bTLen := FTLen.binds (ps := ["self"]) fun _ _ _ _ _ _ us hl => match us, hl with | [_], _ => rfl
  have FTPairs := fun_mk (st := sTPairs) lTPairs cTPairs kTPairs
  have bTPairs := FTPairs.binds (ps := ["self"]) fun _ _ _ _ _ _ us hl => match us, hl with | [_], _ => rfl
  have FPInit := fun_mk (st := sPInit) lPInit cPInit kPInit
  have bPInit := FPInit.binds (ps := ["self", "alphabet", "hears", "says"]) fun _ _ _ _ _ _ us hl => match us, hl with | [_, _, _, _], _ => rfl
  have FPHeard := fun_mk (st := sPHeard) lPHeard cPHeard kPHeard
  have bPHeard := FPHeard.binds (ps := ["self", "sign"]) fun _ _ _ _ _ _ us hl => match us, hl with | [_, _], _ => rfl
  have FPSaid := fun_mk (st := sPSaid) lPSaid cPSaid kPSaid
  have bPSaid := FPSaid.binds (ps := ["self", "sign"]) fun _ _ _ _ _ _ us hl => match us, hl with | [_, _], _ => rfl
  have FPTable := fun_mk (st := sPTable) lPTable cPTable kPTable
  have bPTable := FPTable.binds (ps := ["self"]) fun _ _ _ _ _ _ us hl => match us, hl with | [_], _ => rfl
  have FKKnown := fun_mk (st := sKKnown) lKKnown cKKnown kKKnown
  have bKKnown := FKKnown.binds (ps := ["self"]) fun _ _ _ _ _ _ us hl => match us, hl with | [_], _ => rfl
  have bKI : Binds K (PySem.W.ksFn "__init__" "Knower.__init__" (defArgs sKInit) (defBody sKInit) (defScope sKInit) .none kVKI dcKI pmKI anKI (.ref cdaKI) ctKI ccKI) ["self", "alphabet", "hears", "says", "knows"] [] := Binds.all fun us hl => match us, hl with | [_, _, _, _, _], _ => rfl
  have bKS : Binds K (PySem.W.ksFn "said" "Knower.said" (defArgs sKSaid) (defBody sKSaid) (defScope sKSaid) .none kVKS dcKS pmKS anKS (.ref cdaKS) ctKS ccKS) ["self", "sign"] [] := Binds.all fun us hl => match us, hl with | [_, _], _ => rfl
  have bDS : Binds K (PySem.W.ksFn "said" "Doubter.said" (defArgs sDSaid) (defBody sDSaid) (defScope sDSaid) .none kVDS dcDS pmDS anDS (.ref cdaDS) ctDS ccDS) ["self", "sign"] [] := Binds.all fun us hl => match us, hl with | [_, _], _ => rfl
  have bXS : Binds K (PySem.W.ksFn "said" "KnowingDoubter.said" (defArgs sKDSaid) (defBody sKDSaid) (defScope sKDSaid) .none kVXS dcXS pmXS anXS (.ref cdaXS) ctXS ccXS) ["self", "sign"] [] := Binds.all fun us hl => match us, hl with | [_, _], _ => rfl
  have n_KD_KN : KD ≠ KN := fun e => by
    have z := sKN_KD
    rw [e] at z
    rw [sKN_KN] at z
    cases z
  have n_KD_DN : KD ≠ DN := fun e => by
    have z := sDN_KD
    rw [e] at z
    rw [sDN_DN] at z
    cases z
  have n_KN_DN : KN ≠ DN := fun e => by
    have z := sKN_DN
    rw [e] at z
    rw [sDN_DN] at z
    cases z
  have supKI1 : PySem.W.ks_superIn K KN KN "__init__" = some (some (.ref fPInit)) := by
    have e1 := aPInit
    rw [find_of_cls clPN] at e1
    unfold PySem.W.ks_superIn
    rw [clKN]
    show PySem.W.alongIn K "__init__" (([Value.ref KN, Value.ref PN, .type "object"].dropWhile (· != .ref KN)).drop 1) = _
    rw [List.dropWhile_cons, (show (Value.ref KN != .ref KN) = false by simp), if_neg Bool.false_ne_true]
    exact e1
  have SPKI1 : SupP l.prog K mg KN KN ccKI cdaKI "__init__" fPInit := ⟨⟨_, _, _, lccKI⟩, ⟨_, _, _, _, _, _, lcdKI, hvKI, hflKI⟩, iscKN, sKN_KN, supKI1, tyPInit, fnPInit, noT, gn noM, anyS⟩
  have supKI3 : PySem.W.ks_superIn K KD KN "__init__" = some (some (.ref fPInit)) := by
    have e1 := aPInitDN
    rw [find_of_cls clDN] at e1
    unfold PySem.W.ks_superIn
    rw [clKD]
    show PySem.W.alongIn K "__init__" (([Value.ref KD, Value.ref KN, Value.ref DN, Value.ref PN, .type "object"].dropWhile (· != .ref KN)).drop 1) = _
    rw [List.dropWhile_cons, ne_ref n_KD_KN, if_pos rfl]
    rw [List.dropWhile_cons, (show (Value.ref KN != .ref KN) = false by simp), if_neg Bool.false_ne_true]
    exact e1
  have SPKI3 : SupP l.prog K mg KD KN ccKI cdaKI "__init__" fPInit := ⟨⟨_, _, _, lccKI⟩, ⟨_, _, _, _, _, _, lcdKI, hvKI, hflKI⟩, iscKN, sKD_KN, supKI3, tyPInit, fnPInit, noT, gn noM, anyS⟩
  have supKS1 : PySem.W.ks_superIn K KN KN "said" = some (some (.ref fPSaid)) := by
    have e1 := aPSaid
    rw [find_of_cls clPN] at e1
    unfold PySem.W.ks_superIn
    rw [clKN]
    show PySem.W.alongIn K "said" (([Value.ref KN, Value.ref PN, .type "object"].dropWhile (· != .ref KN)).drop 1) = _
    rw [List.dropWhile_cons, (show (Value.ref KN != .ref KN) = false by simp), if_neg Bool.false_ne_true]
    exact e1
  have SPKS1 : SupP l.prog K mg KN KN ccKS cdaKS "said" fPSaid := ⟨⟨_, _, _, lccKS⟩, ⟨_, _, _, _, _, _, lcdKS, hvKS, hflKS⟩, iscKN, sKN_KN, supKS1, tyPSaid, fnPSaid, noT, gn noM, anyS⟩
  have supKS3 : PySem.W.ks_superIn K KD KN "said" = some (some (.ref fDS)) := by
    have e1 := aDS
    rw [find_of_cls clDN] at e1
    unfold PySem.W.ks_superIn
    rw [clKD]
    show PySem.W.alongIn K "said" (([Value.ref KD, Value.ref KN, Value.ref DN, Value.ref PN, .type "object"].dropWhile (· != .ref KN)).drop 1) = _
    rw [List.dropWhile_cons, ne_ref n_KD_KN, if_pos rfl]
    rw [List.dropWhile_cons, (show (Value.ref KN != .ref KN) = false by simp), if_neg Bool.false_ne_true]
    exact e1
  have SPKS3 : SupP l.prog K mg KD KN ccKS cdaKS "said" fDS := ⟨⟨_, _, _, lccKS⟩, ⟨_, _, _, _, _, _, lcdKS, hvKS, hflKS⟩, iscKN, sKD_KN, supKS3, tyDS, fnDS, noT, gn noM, anyS⟩
  have supDS2 : PySem.W.ks_superIn K DN DN "said" = some (some (.ref fPSaid)) := by
    have e1 := aPSaid
    rw [find_of_cls clPN] at e1
    unfold PySem.W.ks_superIn
    rw [clDN]
    show PySem.W.alongIn K "said" (([Value.ref DN, Value.ref PN, .type "object"].dropWhile (· != .ref DN)).drop 1) = _
    rw [List.dropWhile_cons, (show (Value.ref DN != .ref DN) = false by simp), if_neg Bool.false_ne_true]
    exact e1
  have SPDS2 : SupP l.prog K mg DN DN ccDS cdaDS "said" fPSaid := ⟨⟨_, _, _, lccDS⟩, ⟨_, _, _, _, _, _, lcdDS, hvDS, hflDS⟩, iscDN, sDN_DN, supDS2, tyPSaid, fnPSaid, noT, gn noM, anyS⟩
  have supDS3 : PySem.W.ks_superIn K KD DN "said" = some (some (.ref fPSaid)) := by
    have e1 := aPSaid
    rw [find_of_cls clPN] at e1
    unfold PySem.W.ks_superIn
    rw [clKD]
    show PySem.W.alongIn K "said" (([Value.ref KD, Value.ref KN, Value.ref DN, Value.ref PN, .type "object"].dropWhile (· != .ref DN)).drop 1) = _
    rw [List.dropWhile_cons, ne_ref n_KD_DN, if_pos rfl]
    rw [List.dropWhile_cons, ne_ref n_KN_DN, if_pos rfl]
    rw [List.dropWhile_cons, (show (Value.ref DN != .ref DN) = false by simp), if_neg Bool.false_ne_true]
    exact e1
  have SPDS3 : SupP l.prog K mg KD DN ccDS cdaDS "said" fPSaid := ⟨⟨_, _, _, lccDS⟩, ⟨_, _, _, _, _, _, lcdDS, hvDS, hflDS⟩, iscDN, sKD_DN, supDS3, tyPSaid, fnPSaid, noT, gn noM, anyS⟩
  have nKP : fKS ≠ fPSaid := fun e => by
    have z := lPSaid
    rw [← e, lKS] at z
    simp [PySem.W.ksFn, PySem.W.fnOf] at z
  have eX : PySem.W.alongIn K "said" [.ref KN, .ref DN, .ref PN, .type "object"] = some (some (.ref fKS)) := by
    have e1 := aKS
    rw [find_of_cls clKN] at e1
    have e2 := aPSaid
    rw [find_of_cls clPN] at e2
    exact along_skip e1 e2 (fun z => nKP (by injection z))
  have supXS3 : PySem.W.ks_superIn K KD KD "said" = some (some (.ref fKS)) := by
    have e1 := eX
    skip
    unfold PySem.W.ks_superIn
    rw [clKD]
    show PySem.W.alongIn K "said" (([Value.ref KD, Value.ref KN, Value.ref DN, Value.ref PN, .type "object"].dropWhile (· != .ref KD)).drop 1) = _
    rw [List.dropWhile_cons, (show (Value.ref KD != .ref KD) = false by simp), if_neg Bool.false_ne_true]
    exact e1
  have SPXS3 : SupP l.prog K mg KD KD ccXS cdaXS "said" fKS := ⟨⟨_, _, _, lccXS⟩, ⟨_, _, _, _, _, _, lcdXS, hvXS, hflXS⟩, iscKD, sKD_KD, supXS3, tyKS, fnKS, noT, gn noM, anyS⟩
  have FA : FunD K "__init__" "Alphabet.__init__" (defArgs sAI) (defBody sAI) (defScope sAI) [.str ""] [] fA (PySem.W.fnOf "__init__" "Alphabet.__init__" (defArgs sAI) (defBody sAI) (defScope sAI) (.ref TDA) kVA dcA pmA anA cdA ctA) :=
    ⟨⟨_, _, _, _, _, _, _, _, _, _, rfl, lA, cA, .inr ⟨by simp, TDA, _, [Value.str "" tDA], nDA, rfl, lDA, rfl, .cons ⟨_, rfl⟩ .nil⟩, .inl rfl⟩, kA⟩
  obtain ⟨d0A, v0A, bA⟩ := FA.binds1 (ps := ["self", "letters", "vowels"]) 3 1 (by simp) rfl fun T kV doc pm an cdv ct us its h1 h2 => match us, its, h1, h2 with | [_, _, _], [_], _, _ => ⟨_, rfl, rfl⟩
  have ed0A : d0A = [] := by
    cases v0A
    rfl
  subst ed0A
  have OXBA : OexC K BA := ⟨⟨_, _, _, _, _, _, _, _, _, _, _, _, _, _, _, xBA, rfl⟩, saBA, eBA, tBA, kBA⟩
  have supBA : PySem.W.ks_superIn K BA BA "__init__" = some (some (.builtin "ValueError.__init__")) := by
    have hcl : PySem.W.clsIn K BA = some { name := nmBA, bases := bsBA, mro := .ref BA :: [.ref TE, .type "ValueError", .type "Exception", .type "BaseException", .type "object"], ns := NBA, qualname := qBA, hasDict := true, slotNames := snBA, subclasses := subBA, abstract := abBA, collection := colBA, hasDel := false } := by
      unfold PySem.W.clsIn
      rw [xBA] <;> rfl
    unfold PySem.W.ks_superIn
    rw [hcl]
    have e1 : PySem.W.findIn K (.ref TE) "__init__" = PySem.W.alongIn K "__init__" [.ref TE, .type "ValueError", .type "Exception", .type "BaseException", .type "object"] := by
      unfold PySem.W.findIn
      simp only [xTE]
    rw [← iTE, e1]
    show PySem.W.alongIn K "__init__" (((Value.ref BA :: [.ref TE, .type "ValueError", .type "Exception", .type "BaseException", .type "object"]).dropWhile (· != .ref BA)).drop 1) = _
    have hb : (Value.ref BA != .ref BA) = false := by simp
    rw [List.dropWhile_cons, hb]
    rfl
  have SCBA : SupC l.prog K mg BA ccBA cdaBA := ⟨OXBA, ⟨_, _, _, lccBA⟩, ⟨_, _, _, _, _, _, lcdBA, hvBA, hflBA⟩, mmBA, supBA, vBA, noT, gn noM, anyS⟩
  have bBA : Binds K (PySem.W.ksFn "__init__" "BadAlphabet.__init__" (defArgs sBA) (defBody sBA) (defScope sBA) .none kVBA dcBA pmBA anBA (.ref cdaBA) ctBA ccBA) ["self", "part"] [] := Binds.all fun us hl => match us, hl with | [_, _], _ => rfl
  have OXBP : OexC K BP := ⟨⟨_, _, _, _, _, _, _, _, _, _, _, _, _, _, _, xBP, rfl⟩, saBP, eBP, tBP, kBP⟩
  have supBP : PySem.W.ks_superIn K BP BP "__init__" = some (some (.builtin "ValueError.__init__")) := by
    have hcl : PySem.W.clsIn K BP = some { name := nmBP, bases := bsBP, mro := .ref BP :: [.ref TE, .type "ValueError", .type "Exception", .type "BaseException", .type "object"], ns := NBP, qualname := qBP, hasDict := true, slotNames := snBP, subclasses := subBP, abstract := abBP, collection := colBP, hasDel := false } := by
      unfold PySem.W.clsIn
      rw [xBP] <;> rfl
    unfold PySem.W.ks_superIn
    rw [hcl]
    have e1 : PySem.W.findIn K (.ref TE) "__init__" = PySem.W.alongIn K "__init__" [.ref TE, .type "ValueError", .type "Exception", .type "BaseException", .type "object"] := by
      unfold PySem.W.findIn
      simp only [xTE]
    rw [← iTE, e1]
    show PySem.W.alongIn K "__init__" (((Value.ref BP :: [.ref TE, .type "ValueError", .type "Exception", .type "BaseException", .type "object"]).dropWhile (· != .ref BP)).drop 1) = _
    have hb : (Value.ref BP != .ref BP) = false := by simp
    rw [List.dropWhile_cons, hb]
    rfl
  have SCBP : SupC l.prog K mg BP ccBP cdaBP := ⟨OXBP, ⟨_, _, _, lccBP⟩, ⟨_, _, _, _, _, _, lcdBP, hvBP, hflBP⟩, mmBP, supBP, vBP, noT, gn noM, anyS⟩
  have bBP : Binds K (PySem.W.ksFn "__init__" "BadPair.__init__" (defArgs sEBadPair) (defBody sEBadPair) (defScope sEBadPair) .none kVBP dcBP pmBP anBP (.ref cdaBP) ctBP ccBP) ["self", "index"] [] := Binds.all fun us hl => match us, hl with | [_, _], _ => rfl
  have OXUS : OexC K US := ⟨⟨_, _, _, _, _, _, _, _, _, _, _, _, _, _, _, xUS, rfl⟩, saUS, eUS, tUS, kUS⟩
  have supUS : PySem.W.ks_superIn K US US "__init__" = some (some (.builtin "ValueError.__init__")) := by
    have hcl : PySem.W.clsIn K US = some { name := nmUS, bases := bsUS, mro := .ref US :: [.ref TE, .type "ValueError", .type "Exception", .type "BaseException", .type "object"], ns := NUS, qualname := qUS, hasDict := true, slotNames := snUS, subclasses := subUS, abstract := abUS, collection := colUS, hasDel := false } := by
      unfold PySem.W.clsIn
      rw [xUS] <;> rfl
    unfold PySem.W.ks_superIn
    rw [hcl]
    have e1 : PySem.W.findIn K (.ref TE) "__init__" = PySem.W.alongIn K "__init__" [.ref TE, .type "ValueError", .type "Exception", .type "BaseException", .type "object"] := by
      unfold PySem.W.findIn
      simp only [xTE]
    rw [← iTE, e1]
    show PySem.W.alongIn K "__init__" (((Value.ref US :: [.ref TE, .type "ValueError", .type "Exception", .type "BaseException", .type "object"]).dropWhile (· != .ref US)).drop 1) = _
    have hb : (Value.ref US != .ref US) = false := by simp
    rw [List.dropWhile_cons, hb]
    rfl
  have SCUS : SupC l.prog K mg US ccUS cdaUS := ⟨OXUS, ⟨_, _, _, lccUS⟩, ⟨_, _, _, _, _, _, lcdUS, hvUS, hflUS⟩, mmUS, supUS, vUS, noT, gn noM, anyS⟩
  have bUS : Binds K (PySem.W.ksFn "__init__" "UnknownSign.__init__" (defArgs sEUnknownSign) (defBody sEUnknownSign) (defScope sEUnknownSign) .none kVUS dcUS pmUS anUS (.ref cdaUS) ctUS ccUS) ["self", "sign"] [] := Binds.all fun us hl => match us, hl with | [_, _], _ => rfl
  have OXBQ : OexC K BQ := ⟨⟨_, _, _, _, _, _, _, _, _, _, _, _, _, _, _, xBQ, rfl⟩, saBQ, eBQ, tBQ, kBQ⟩
  have supBQ : PySem.W.ks_superIn K BQ BQ "__init__" = some (some (.builtin "ValueError.__init__")) := by
    have hcl : PySem.W.clsIn K BQ = some { name := nmBQ, bases := bsBQ, mro := .ref BQ :: [.ref TE, .type "ValueError", .type "Exception", .type "BaseException", .type "object"], ns := NBQ, qualname := qBQ, hasDict := true, slotNames := snBQ, subclasses := subBQ, abstract := abBQ, collection := colBQ, hasDel := false } := by
      unfold PySem.W.clsIn
      rw [xBQ] <;> rfl
    unfold PySem.W.ks_superIn
    rw [hcl]
    have e1 : PySem.W.findIn K (.ref TE) "__init__" = PySem.W.alongIn K "__init__" [.ref TE, .type "ValueError", .type "Exception", .type "BaseException", .type "object"] := by
      unfold PySem.W.findIn
      simp only [xTE]
    rw [← iTE, e1]
    show PySem.W.alongIn K "__init__" (((Value.ref BQ :: [.ref TE, .type "ValueError", .type "Exception", .type "BaseException", .type "object"]).dropWhile (· != .ref BQ)).drop 1) = _
    have hb : (Value.ref BQ != .ref BQ) = false := by simp
    rw [List.dropWhile_cons, hb]
    rfl
  have SCBQ : SupC l.prog K mg BQ ccBQ cdaBQ := ⟨OXBQ, ⟨_, _, _, lccBQ⟩, ⟨_, _, _, _, _, _, lcdBQ, hvBQ, hflBQ⟩, mmBQ, supBQ, vBQ, noT, gn noM, anyS⟩
  have bBQ : Binds K (PySem.W.ksFn "__init__" "BadPerson.__init__" (defArgs sEBadPerson) (defBody sEBadPerson) (defScope sEBadPerson) .none kVBQ dcBQ pmBQ anBQ (.ref cdaBQ) ctBQ ccBQ) ["self", "part"] [] := Binds.all fun us hl => match us, hl with | [_, _], _ => rfl
  have EBP : EF K mg "BadPair" BP fBP (PySem.W.ksFn "__init__" "BadPair.__init__" (defArgs sEBadPair) (defBody sEBadPair) (defScope sEBadPair) .none kVBP dcBP pmBP anBP (.ref cdaBP) ctBP ccBP) ["self", "index"] := ⟨OXBP, aFBP, tFBP, gm aBP, bBP⟩
  have EUS : EF K mg "UnknownSign" US fUS (PySem.W.ksFn "__init__" "UnknownSign.__init__" (defArgs sEUnknownSign) (defBody sEUnknownSign) (defScope sEUnknownSign) .none kVUS dcUS pmUS anUS (.ref cdaUS) ctUS ccUS) ["self", "sign"] := ⟨OXUS, aFUS, tFUS, gm aUS, bUS⟩
  have EBQ : EF K mg "BadPerson" BQ fBQ (PySem.W.ksFn "__init__" "BadPerson.__init__" (defArgs sEBadPerson) (defBody sEBadPerson) (defScope sEBadPerson) .none kVBQ dcBQ pmBQ anBQ (.ref cdaBQ) ctBQ ccBQ) ["self", "part"] := ⟨OXBQ, aFBQ, tFBQ, gm aBQ, bBQ⟩
  have T : Fns K mg ⟨fDiff, fAlEq, fIsSign, fIsText, fTInit, fTGet, fTLen, fTPairs, fPInit, fPHeard, fPSaid, fPTable, fKKnown, fInOrder, fBag, fTake, fNames, fSigns, fMake, fRows, fIs, fStrange, fOdd, fNoSign, fKinds, fRight, fSpoilt, fRefused, fDue, fDraw, fa, C, TB, PN, KN, DN, KD, pPTable, pKKnown, TE, US, BP, BQ, fBP, fUS, fBQ, fKI, fKS, fDS, fXS, tj2⟩
      ⟨(PySem.W.fnOf "differ_within" "differ_within" (defArgs sDiff) (defBody sDiff) (defScope sDiff) .none kVDiff dcDiff pmDiff anDiff cdDiff ctDiff), (PySem.W.fnOf "__eq__" "Alphabet.__eq__" (defArgs sAlEq) (defBody sAlEq) (defScope sAlEq) .none kVAlEq dcAlEq pmAlEq anAlEq cdAlEq ctAlEq), (PySem.W.fnOf "is_sign" "Alphabet.is_sign" (defArgs sIsSign) (defBody sIsSign) (defScope sIsSign) .none kVIsSign dcIsSign pmIsSign anIsSign cdIsSign ctIsSign), (PySem.W.fnOf "is_text" "Alphabet.is_text" (defArgs sIsText) (defBody sIsText) (defScope sIsText) .none kVIsText dcIsText pmIsText anIsText cdIsText ctIsText), (PySem.W.fnOf "__init__" "Table.__init__" (defArgs sTInit) (defBody sTInit) (defScope sTInit) .none kVTInit dcTInit pmTInit anTInit cdTInit ctTInit), (PySem.W.fnOf "__getitem__" "Table.__getitem__" (defArgs sTGet) (defBody sTGet) (defScope sTGet) .none kVTGet dcTGet pmTGet anTGet cdTGet ctTGet), (PySem.W.fnOf "__len__" "Table.__len__" (defArgs sTLen) (defBody sTLen) (defScope sTLen) .none kVTLen dcTLen pmTLen anTLen cdTLen ctTLen), (PySem.W.fnOf "pairs" "Table.pairs" (defArgs sTPairs) (defBody sTPairs) (defScope sTPairs) .none kVTPairs dcTPairs pmTPairs anTPairs cdTPairs ctTPairs), (PySem.W.fnOf "__init__" "Person.__init__" (defArgs sPInit) (defBody sPInit) (defScope sPInit) .none kVPInit dcPInit pmPInit anPInit cdPInit ctPInit), (PySem.W.fnOf "heard" "Person.heard" (defArgs sPHeard) (defBody sPHeard) (defScope sPHeard) .none kVPHeard dcPHeard pmPHeard anPHeard cdPHeard ctPHeard), (PySem.W.fnOf "said" "Person.said" (defArgs sPSaid) (defBody sPSaid) (defScope sPSaid) .none kVPSaid dcPSaid pmPSaid anPSaid cdPSaid ctPSaid), (PySem.W.fnOf "table" "Person.table" (defArgs sPTable) (defBody sPTable) (defScope sPTable) .none kVPTable dcPTable pmPTable anPTable cdPTable ctPTable), (PySem.W.fnOf "known" "Knower.known" (defArgs sKKnown) (defBody sKKnown) (defScope sKKnown) .none kVKKnown dcKKnown pmKKnown anKKnown cdKKnown ctKKnown), (PySem.W.fnOf "in_order" "in_order" (defArgs sInOrder) (defBody sInOrder) (defScope sInOrder) .none kVInOrder dcInOrder pmInOrder anInOrder cdInOrder ctInOrder), (PySem.W.fnOf "_law_bag" "_law_bag" (defArgs sBag) (defBody sBag) (defScope sBag) .none kVBag dcBag pmBag anBag cdBag ctBag), (PySem.W.fnOf "_law_take" "_law_take" (defArgs sTake) (defBody sTake) (defScope sTake) .none kVTake dcTake pmTake anTake cdTake ctTake), (PySem.W.fnOf "_law_names" "_law_names" (defArgs sNames) (defBody sNames) (defScope sNames) .none kVNames dcNames pmNames anNames cdNames ctNames), (PySem.W.fnOf "_law_signs" "_law_signs" (defArgs sSigns) (defBody sSigns) (defScope sSigns) .none kVSigns dcSigns pmSigns anSigns cdSigns ctSigns), (PySem.W.fnOf "_law_make" "_law_make" (defArgs sMake) (defBody sMake) (defScope sMake) .none kVMake dcMake pmMake anMake cdMake ctMake), (PySem.W.fnOf "_law_said" "_law_said" (defArgs sRows) (defBody sRows) (defScope sRows) .none kVRows dcRows pmRows anRows cdRows ctRows), (PySem.W.fnOf "_law_is" "_law_is" (defArgs sIs) (defBody sIs) (defScope sIs) .none kVIs dcIs pmIs anIs cdIs ctIs), (PySem.W.fnOf "_law_strange" "_law_strange" (defArgs sStrange) (defBody sStrange) (defScope sStrange) .none kVStrange dcStrange pmStrange anStrange cdStrange ctStrange), (PySem.W.fnOf "_law_odd" "_law_odd" (defArgs sOdd) (defBody sOdd) (defScope sOdd) .none kVOdd dcOdd pmOdd anOdd cdOdd ctOdd), (PySem.W.fnOf "_law_no_sign" "_law_no_sign" (defArgs sNoSign) (defBody sNoSign) (defScope sNoSign) .none kVNoSign dcNoSign pmNoSign anNoSign cdNoSign ctNoSign), (PySem.W.fnOf "_law_kinds" "_law_kinds" (defArgs sKinds) (defBody sKinds) (defScope sKinds) .none kVKinds dcKinds pmKinds anKinds cdKinds ctKinds), (PySem.W.fnOf "_law_right" "_law_right" (defArgs sRight) (defBody sRight) (defScope sRight) .none kVRight dcRight pmRight anRight cdRight ctRight), (PySem.W.fnOf "_law_spoilt" "_law_spoilt" (defArgs sSpoilt) (defBody sSpoilt) (defScope sSpoilt) .none kVSpoilt dcSpoilt pmSpoilt anSpoilt cdSpoilt ctSpoilt), (PySem.W.fnOf "_law_refused" "_law_refused" (defArgs sRefused) (defBody sRefused) (defScope sRefused) .none kVRefused dcRefused pmRefused anRefused cdRefused ctRefused), (PySem.W.fnOf "_law_due" "_law_due" (defArgs sDue) (defBody sDue) (defScope sDue) .none kVDue dcDue pmDue anDue cdDue ctDue), (PySem.W.fnOf "_law_draw" "_law_draw" (defArgs sDraw) (defBody sDraw) (defScope sDraw) .none kVDraw dcDraw pmDraw anDraw cdDraw ctDraw), (PySem.W.fnOf "law" "law" (defArgs sLaw) (defBody sLaw) (defScope sLaw) .none kVLaw dcLaw pmLaw anLaw cdLaw ctLaw), (PySem.W.ksFn "__init__" "BadPair.__init__" (defArgs sEBadPair) (defBody sEBadPair) (defScope sEBadPair) .none kVBP dcBP pmBP anBP (.ref cdaBP) ctBP ccBP), (PySem.W.ksFn "__init__" "UnknownSign.__init__" (defArgs sEUnknownSign) (defBody sEUnknownSign) (defScope sEUnknownSign) .none kVUS dcUS pmUS anUS (.ref cdaUS) ctUS ccUS), (PySem.W.ksFn "__init__" "BadPerson.__init__" (defArgs sEBadPerson) (defBody sEBadPerson) (defScope sEBadPerson) .none kVBQ dcBQ pmBQ anBQ (.ref cdaBQ) ctBQ ccBQ), (PySem.W.ksFn "__init__" "Knower.__init__" (defArgs sKInit) (defBody sKInit) (defScope sKInit) .none kVKI dcKI pmKI anKI (.ref cdaKI) ctKI ccKI), (PySem.W.ksFn "said" "Knower.said" (defArgs sKSaid) (defBody sKSaid) (defScope sKSaid) .none kVKS dcKS pmKS anKS (.ref cdaKS) ctKS ccKS), (PySem.W.ksFn "said" "Doubter.said" (defArgs sDSaid) (defBody sDSaid) (defScope sDSaid) .none kVDS dcDS pmDS anDS (.ref cdaDS) ctDS ccDS), (PySem.W.ksFn "said" "KnowingDoubter.said" (defArgs sKDSaid) (defBody sKDSaid) (defScope sKDSaid) .none kVXS dcXS pmXS anXS (.ref cdaXS) ctXS ccXS)⟩ :=
    { z_len := gn z_len, z_set := gn z_set, z_all := gn z_all, z_abs := gn z_abs, z_int := gn z_int, z_range := gn z_range, z_sorted := gn z_sorted, z_isinstance := gn z_isinstance, z_str := gn z_str, z_bool := gn z_bool, z_list := gn z_list, z_tuple := gn z_tuple, z_any := gn z_any, z_enum := gn z_enumerate, z_min := gn z_min, z_max := gn z_max, z_VE := gn z_ValueError, z_zip := gn z_zip, z_dict := gn z_dict,
      gDiff := gm aDiff, FDiff := FDiff, bDiff := bDiff,
      mAlEq := ⟨aAlEq, iAlEq, kAlEq⟩, FAlEq := FAlEq, bAlEq := bAlEq,
      mIsSign := ⟨aIsSign, iIsSign, kIsSign⟩, FIsSign := FIsSign, bIsSign := bIsSign,
      mIsText := ⟨aIsText, iIsText, kIsText⟩, FIsText := FIsText, bIsText := bIsText,
      mTInit := ⟨aTInit, iTInit, kTInit⟩, FTInit := FTInit, bTInit := bTInit,
      mTGet := ⟨aTGet, iTGet, kTGet⟩, FTGet := FTGet, bTGet := bTGet,
      mTLen := ⟨aTLen, iTLen, kTLen⟩, FTLen := FTLen, bTLen := bTLen,
      mTPairs := ⟨aTPairs, iTPairs, kTPairs⟩, FTPairs := FTPairs, bTPairs := bTPairs,
      mPInit := ⟨aPInit, iPInit, kPInit⟩, FPInit := FPInit, bPInit := bPInit,
      mPHeard := ⟨aPHeard, iPHeard, kPHeard⟩, FPHeard := FPHeard, bPHeard := bPHeard,
      mPSaid := ⟨aPSaid, iPSaid, kPSaid⟩, FPSaid := FPSaid, bPSaid := bPSaid,
      FPTable := FPTable, bPTable := bPTable,
      FKKnown := FKKnown, bKKnown := bKKnown,
      gInOrder := gm aInOrder, FInOrder := FInOrder, bInOrder := bInOrder,
      gBag := gm aBag, FBag := FBag, bBag := bBag,
      gTake := gm aTake, FTake := FTake, bTake := bTake,
      gNames := gm aNames, FNames := FNames, bNames := bNames,
      gSigns := gm aSigns, FSigns := FSigns, bSigns := bSigns,
      gMake := gm aMake, FMake := FMake, bMake := bMake,
      gRows := gm aRows, FRows := FRows, bRows := bRows,
      gIs := gm aIs, FIs := FIs, bIs := bIs,
      gStrange := gm aStrange, FStrange := FStrange, bStrange := bStrange,
      gOdd := gm aOdd, FOdd := FOdd, bOdd := bOdd,
      gNoSign := gm aNoSign, FNoSign := FNoSign, bNoSign := bNoSign,
      gKinds := gm aKinds, FKinds := FKinds, bKinds := bKinds,
      gRight := gm aRight, FRight := FRight, bRight := bRight,
      gSpoilt := gm aSpoilt, FSpoilt := FSpoilt, bSpoilt := bSpoilt,
      gRefused := gm aRefused, FRefused := FRefused, bRefused := bRefused,
      gDue := gm aDue, FDue := FDue, bDue := bDue,
      gDraw := gm aDraw, FDraw := FDraw, bDraw := bDraw,
      gLaw := gm aLaw, FLaw := FLaw, bLaw := bLaw,
      gcTaleError := gm aTE,
      gcUnknownSign := gm aUS,
      gcBadPair := gm aBP,
      gcBadPerson := gm aBQ,
      gcTable := gm aTB,
      gcPerson := gm aPN,
      gcKnower := gm aKN,
      gcDoubter := gm aDN,
      gcKnowingDoubter := gm aKD,
      xBadPair := EBP,
      xUnknownSign := EUS,
      xBadPerson := EBQ,
      clA := ⟨pgC, hdC, poC, saC⟩,
      clT := ⟨pgTB, hdTB, poTB, saTB⟩,
      nL := nC_letters,
      nV := nC_vowels,
      nC := nC_consonants,
      nS := nC_signs,
      nTa := nTB_alphabet,
      nTp := nTB_pairs,
      mkT := mkTB,
      kpT := kTB,
      fnTGet := fnTGet,
      eqA := eqC,
      icT := icTB,
      imT := imTB,
      igO := ig,
      itO := it,
      joint := ⟨aJ, ⟨_, by rw [show S [45] = PySem.Str.ofString "-" by decide +kernel]⟩, gJ, by decide +kernel⟩ }
  have M : Px K ⟨fDiff, fAlEq, fIsSign, fIsText, fTInit, fTGet, fTLen, fTPairs, fPInit, fPHeard, fPSaid, fPTable, fKKnown, fInOrder, fBag, fTake, fNames, fSigns, fMake, fRows, fIs, fStrange, fOdd, fNoSign, fKinds, fRight, fSpoilt, fRefused, fDue, fDraw, fa, C, TB, PN, KN, DN, KD, pPTable, pKKnown, TE, US, BP, BQ, fBP, fUS, fBQ, fKI, fKS, fDS, fXS, tj2⟩ :=
    { cl := c4 (⟨pgPN, hdPN, poPN, saPN⟩) (⟨pgKN, hdKN, poKN, saKN⟩) (⟨pgDN, hdDN, poDN, saDN⟩) (⟨pgKD, hdKD, poKD, saKD⟩)
      nA := c4 (nPN_alphabet) (nKN_alphabet) (nDN_alphabet) (nKD_alphabet)
      nH := c4 (nPN_hears) (nKN_hears) (nDN_hears) (nKD_hears)
      nS := c4 (nPN_says) (nKN_says) (nDN_says) (nKD_says)
      nK := c4 (nPN_known) (nKN_known) (nDN_known) (nKD_known)
      mHeard := c4 (⟨aPHeard, iPHeard, kPHeard⟩) (⟨aPHeardKN, iPHeard, kPHeard⟩) (⟨aPHeardDN, iPHeard, kPHeard⟩) (⟨aPHeardKD, iPHeard, kPHeard⟩)
      mSaid := c4 (⟨aPSaid, iPSaid, kPSaid⟩) (⟨aKS, iKS, kKS⟩) (⟨aDS, iDS, kDS⟩) (⟨aXS, iXS, kXS⟩)
      pTable := c4 (⟨aPTablePN, gPTable, tPTable, ⟨_, rPTable⟩⟩) (⟨aPTableKN, gPTable, tPTable, ⟨_, rPTable⟩⟩) (⟨aPTableDN, gPTable, tPTable, ⟨_, rPTable⟩⟩) (⟨aPTableKD, gPTable, tPTable, ⟨_, rPTable⟩⟩)
      pKnown := c2 (⟨aKKnownKN, gKKnown, tKKnown, ⟨_, rKKnown⟩⟩) (⟨aKKnownKD, gKKnown, tKKnown, ⟨_, rKKnown⟩⟩)
      mak := c4 (⟨mkPN, aPInit, iPInit, kPN⟩) (⟨mkKN, aKI, iKI, kKN⟩) (⟨mkDN, aPInitDN, iPInit, kDN⟩) (⟨mkKD, aKIKD, iKI, kKD⟩)
      ic := c4 (icPN) (icKN) (icDN) (icKD)
      im := c4 (imPN) (imKN) (imDN) (imKD)
      kit := fun i j hi hj => c44 (kit_own) (kit_of iscKN tyKN sPN_KN sKN_KN) (kit_of iscDN tyDN sPN_DN sDN_DN) (kit_of iscKD tyKD sPN_KD sKD_KD) (kit_of iscPN tyPN sKN_PN sPN_PN) (kit_own) (kit_of iscDN tyDN sKN_DN sDN_DN) (kit_of iscKD tyKD sKN_KD sKD_KD) (kit_of iscPN tyPN sDN_PN sPN_PN) (kit_of iscKN tyKN sDN_KN sKN_KN) (kit_own) (kit_of iscKD tyKD sDN_KD sKD_KD) (kit_of iscPN tyPN sKD_PN sPN_PN) (kit_of iscKN tyKN sKD_KN sKN_KN) (kit_of iscDN tyDN sKD_DN sDN_DN) (kit_own) i j hi hj }
  have Z : Qx l.prog K mg ⟨fDiff, fAlEq, fIsSign, fIsText, fTInit, fTGet, fTLen, fTPairs, fPInit, fPHeard, fPSaid, fPTable, fKKnown, fInOrder, fBag, fTake, fNames, fSigns, fMake, fRows, fIs, fStrange, fOdd, fNoSign, fKinds, fRight, fSpoilt, fRefused, fDue, fDraw, fa, C, TB, PN, KN, DN, KD, pPTable, pKKnown, TE, US, BP, BQ, fBP, fUS, fBQ, fKI, fKS, fDS, fXS, tj2⟩
      ⟨(PySem.W.fnOf "differ_within" "differ_within" (defArgs sDiff) (defBody sDiff) (defScope sDiff) .none kVDiff dcDiff pmDiff anDiff cdDiff ctDiff), (PySem.W.fnOf "__eq__" "Alphabet.__eq__" (defArgs sAlEq) (defBody sAlEq) (defScope sAlEq) .none kVAlEq dcAlEq pmAlEq anAlEq cdAlEq ctAlEq), (PySem.W.fnOf "is_sign" "Alphabet.is_sign" (defArgs sIsSign) (defBody sIsSign) (defScope sIsSign) .none kVIsSign dcIsSign pmIsSign anIsSign cdIsSign ctIsSign), (PySem.W.fnOf "is_text" "Alphabet.is_text" (defArgs sIsText) (defBody sIsText) (defScope sIsText) .none kVIsText dcIsText pmIsText anIsText cdIsText ctIsText), (PySem.W.fnOf "__init__" "Table.__init__" (defArgs sTInit) (defBody sTInit) (defScope sTInit) .none kVTInit dcTInit pmTInit anTInit cdTInit ctTInit), (PySem.W.fnOf "__getitem__" "Table.__getitem__" (defArgs sTGet) (defBody sTGet) (defScope sTGet) .none kVTGet dcTGet pmTGet anTGet cdTGet ctTGet), (PySem.W.fnOf "__len__" "Table.__len__" (defArgs sTLen) (defBody sTLen) (defScope sTLen) .none kVTLen dcTLen pmTLen anTLen cdTLen ctTLen), (PySem.W.fnOf "pairs" "Table.pairs" (defArgs sTPairs) (defBody sTPairs) (defScope sTPairs) .none kVTPairs dcTPairs pmTPairs anTPairs cdTPairs ctTPairs), (PySem.W.fnOf "__init__" "Person.__init__" (defArgs sPInit) (defBody sPInit) (defScope sPInit) .none kVPInit dcPInit pmPInit anPInit cdPInit ctPInit), (PySem.W.fnOf "heard" "Person.heard" (defArgs sPHeard) (defBody sPHeard) (defScope sPHeard) .none kVPHeard dcPHeard pmPHeard anPHeard cdPHeard ctPHeard), (PySem.W.fnOf "said" "Person.said" (defArgs sPSaid) (defBody sPSaid) (defScope sPSaid) .none kVPSaid dcPSaid pmPSaid anPSaid cdPSaid ctPSaid), (PySem.W.fnOf "table" "Person.table" (defArgs sPTable) (defBody sPTable) (defScope sPTable) .none kVPTable dcPTable pmPTable anPTable cdPTable ctPTable), (PySem.W.fnOf "known" "Knower.known" (defArgs sKKnown) (defBody sKKnown) (defScope sKKnown) .none kVKKnown dcKKnown pmKKnown anKKnown cdKKnown ctKKnown), (PySem.W.fnOf "in_order" "in_order" (defArgs sInOrder) (defBody sInOrder) (defScope sInOrder) .none kVInOrder dcInOrder pmInOrder anInOrder cdInOrder ctInOrder), (PySem.W.fnOf "_law_bag" "_law_bag" (defArgs sBag) (defBody sBag) (defScope sBag) .none kVBag dcBag pmBag anBag cdBag ctBag), (PySem.W.fnOf "_law_take" "_law_take" (defArgs sTake) (defBody sTake) (defScope sTake) .none kVTake dcTake pmTake anTake cdTake ctTake), (PySem.W.fnOf "_law_names" "_law_names" (defArgs sNames) (defBody sNames) (defScope sNames) .none kVNames dcNames pmNames anNames cdNames ctNames), (PySem.W.fnOf "_law_signs" "_law_signs" (defArgs sSigns) (defBody sSigns) (defScope sSigns) .none kVSigns dcSigns pmSigns anSigns cdSigns ctSigns), (PySem.W.fnOf "_law_make" "_law_make" (defArgs sMake) (defBody sMake) (defScope sMake) .none kVMake dcMake pmMake anMake cdMake ctMake), (PySem.W.fnOf "_law_said" "_law_said" (defArgs sRows) (defBody sRows) (defScope sRows) .none kVRows dcRows pmRows anRows cdRows ctRows), (PySem.W.fnOf "_law_is" "_law_is" (defArgs sIs) (defBody sIs) (defScope sIs) .none kVIs dcIs pmIs anIs cdIs ctIs), (PySem.W.fnOf "_law_strange" "_law_strange" (defArgs sStrange) (defBody sStrange) (defScope sStrange) .none kVStrange dcStrange pmStrange anStrange cdStrange ctStrange), (PySem.W.fnOf "_law_odd" "_law_odd" (defArgs sOdd) (defBody sOdd) (defScope sOdd) .none kVOdd dcOdd pmOdd anOdd cdOdd ctOdd), (PySem.W.fnOf "_law_no_sign" "_law_no_sign" (defArgs sNoSign) (defBody sNoSign) (defScope sNoSign) .none kVNoSign dcNoSign pmNoSign anNoSign cdNoSign ctNoSign), (PySem.W.fnOf "_law_kinds" "_law_kinds" (defArgs sKinds) (defBody sKinds) (defScope sKinds) .none kVKinds dcKinds pmKinds anKinds cdKinds ctKinds), (PySem.W.fnOf "_law_right" "_law_right" (defArgs sRight) (defBody sRight) (defScope sRight) .none kVRight dcRight pmRight anRight cdRight ctRight), (PySem.W.fnOf "_law_spoilt" "_law_spoilt" (defArgs sSpoilt) (defBody sSpoilt) (defScope sSpoilt) .none kVSpoilt dcSpoilt pmSpoilt anSpoilt cdSpoilt ctSpoilt), (PySem.W.fnOf "_law_refused" "_law_refused" (defArgs sRefused) (defBody sRefused) (defScope sRefused) .none kVRefused dcRefused pmRefused anRefused cdRefused ctRefused), (PySem.W.fnOf "_law_due" "_law_due" (defArgs sDue) (defBody sDue) (defScope sDue) .none kVDue dcDue pmDue anDue cdDue ctDue), (PySem.W.fnOf "_law_draw" "_law_draw" (defArgs sDraw) (defBody sDraw) (defScope sDraw) .none kVDraw dcDraw pmDraw anDraw cdDraw ctDraw), (PySem.W.fnOf "law" "law" (defArgs sLaw) (defBody sLaw) (defScope sLaw) .none kVLaw dcLaw pmLaw anLaw cdLaw ctLaw), (PySem.W.ksFn "__init__" "BadPair.__init__" (defArgs sEBadPair) (defBody sEBadPair) (defScope sEBadPair) .none kVBP dcBP pmBP anBP (.ref cdaBP) ctBP ccBP), (PySem.W.ksFn "__init__" "UnknownSign.__init__" (defArgs sEUnknownSign) (defBody sEUnknownSign) (defScope sEUnknownSign) .none kVUS dcUS pmUS anUS (.ref cdaUS) ctUS ccUS), (PySem.W.ksFn "__init__" "BadPerson.__init__" (defArgs sEBadPerson) (defBody sEBadPerson) (defScope sEBadPerson) .none kVBQ dcBQ pmBQ anBQ (.ref cdaBQ) ctBQ ccBQ), (PySem.W.ksFn "__init__" "Knower.__init__" (defArgs sKInit) (defBody sKInit) (defScope sKInit) .none kVKI dcKI pmKI anKI (.ref cdaKI) ctKI ccKI), (PySem.W.ksFn "said" "Knower.said" (defArgs sKSaid) (defBody sKSaid) (defScope sKSaid) .none kVKS dcKS pmKS anKS (.ref cdaKS) ctKS ccKS), (PySem.W.ksFn "said" "Doubter.said" (defArgs sDSaid) (defBody sDSaid) (defScope sDSaid) .none kVDS dcDS pmDS anDS (.ref cdaDS) ctDS ccDS), (PySem.W.ksFn "said" "KnowingDoubter.said" (defArgs sKDSaid) (defBody sKDSaid) (defScope sKDSaid) .none kVXS dcXS pmXS anXS (.ref cdaXS) ctXS ccXS)⟩ :=
    { zKI := ⟨ccKI, cdaKI, ⟨⟨_, _, _, _, _, _, _, _, _, rfl, lKI⟩, ⟨_, _, _, lccKI⟩, cKI⟩, o2 SPKI1 SPKI3⟩
      zKS := ⟨ccKS, cdaKS, ⟨⟨_, _, _, _, _, _, _, _, _, rfl, lKS⟩, ⟨_, _, _, lccKS⟩, cKS⟩, o2 SPKS1 SPKS3⟩
      zDS := ⟨ccDS, cdaDS, ⟨⟨_, _, _, _, _, _, _, _, _, rfl, lDS⟩, ⟨_, _, _, lccDS⟩, cDS⟩, o2 SPDS2 SPDS3⟩
      zKD := ⟨ccXS, cdaXS, ⟨⟨_, _, _, _, _, _, _, _, _, rfl, lXS⟩, ⟨_, _, _, lccXS⟩, cXS⟩, SPXS3⟩
      bKI := bKI, bKS := bKS, bDS := bDS, bKDS := bXS }
  have A : AlF K C := ⟨⟨pgC, hdC, poC, saC⟩, nC_letters, nC_vowels, nC_consonants, nC_signs, icC, ig, it, imC⟩
  have AV : AlV K mg C (.type "type") tM tJ tl := ⟨gm aC, by rw [← az_S]; exact gm aSL, ⟨rdC, gaC⟩, ⟨vM, ⟨_, rfl⟩⟩, ⟨vJ, ⟨_, rfl⟩⟩⟩
  have BA' : BaF l.prog K mg BA fBA := ⟨OXBA, aFBA, tFBA, gm aBA⟩
  have XeUS : ErrX K (⟨fDiff, fAlEq, fIsSign, fIsText, fTInit, fTGet, fTLen, fTPairs, fPInit, fPHeard, fPSaid, fPTable, fKKnown, fInOrder, fBag, fTake, fNames, fSigns, fMake, fRows, fIs, fStrange, fOdd, fNoSign, fKinds, fRight, fSpoilt, fRefused, fDue, fDraw, fa, C, TB, PN, KN, DN, KD, pPTable, pKKnown, TE, US, BP, BQ, fBP, fUS, fBQ, fKI, fKS, fDS, fXS, tj2⟩ : Ad) US BQ "sign" := ⟨⟨gaUS, ggUS, eUS, hUS⟩, nUS_sign, ⟨gaUS, ggUS, eUS, hUS, icUS, ig, it, imUS⟩, PySem.W.exm_ref eUS hUS tUS sUS_US, kit_of clTE tTE sUS_TE sTE_TE, by
        unfold PySem.W.kitOne
        have hne : (Value.ref US == Value.type "ValueError") = false := beq_eq_false_iff_ne.mpr fun e => by cases e
        rw [hne, if_neg Bool.false_ne_true]
        show (if PySem.W.kitMeta "ValueError" = true then PySem.W.subIn K (.ref US) (.type "ValueError") else none) = _
        rw [if_pos (by decide +kernel), vUS], kit_of clBQ tBQ sUS_BQ sBQ_BQ⟩
  have XeBQ : ErrX K (⟨fDiff, fAlEq, fIsSign, fIsText, fTInit, fTGet, fTLen, fTPairs, fPInit, fPHeard, fPSaid, fPTable, fKKnown, fInOrder, fBag, fTake, fNames, fSigns, fMake, fRows, fIs, fStrange, fOdd, fNoSign, fKinds, fRight, fSpoilt, fRefused, fDue, fDraw, fa, C, TB, PN, KN, DN, KD, pPTable, pKKnown, TE, US, BP, BQ, fBP, fUS, fBQ, fKI, fKS, fDS, fXS, tj2⟩ : Ad) BQ US "part" := ⟨⟨gaBQ, ggBQ, eBQ, hBQ⟩, nBQ_part, ⟨gaBQ, ggBQ, eBQ, hBQ, icBQ, ig, it, imBQ⟩, PySem.W.exm_ref eBQ hBQ tBQ sBQ_BQ, kit_of clTE tTE sBQ_TE sTE_TE, by
        unfold PySem.W.kitOne
        have hne : (Value.ref BQ == Value.type "ValueError") = false := beq_eq_false_iff_ne.mpr fun e => by cases e
        rw [hne, if_neg Bool.false_ne_true]
        show (if PySem.W.kitMeta "ValueError" = true then PySem.W.subIn K (.ref BQ) (.type "ValueError") else none) = _
        rw [if_pos (by decide +kernel), vBQ], kit_of clUS tUS sBQ_US sUS_US⟩
  refine ⟨PySem.W.fnOf "law" "law" (defArgs sLaw) (defBody sLaw) (defScope sLaw) .none kVLaw dcLaw pmLaw anLaw cdLaw ctLaw, fun s v => .of_eq rfl, fun base _ _ => ?_⟩
  have GA := ok_alph (P := l.prog) (w := w) (base := base) FA T.toTxA A AV BA' FDiff bDiff (ok_ba SCBA nBA_part lBA cBA) bBA
  have GAlEq := ok_eq (P := l.prog) (w := w) (base := base) FAlEq T.toTxA A (gm aC)
  exact ok_law T M Z GAlEq ⟨mkTB, aTInit, iTInit, kTB⟩ bTInit XeUS (ok_eUnknownSign SCUS nUS_sign lUS cUS) XeBQ (ok_eBadPerson SCBQ nBQ_part lBQ cBQ) AV ⟨mkC, aA, iA, kC⟩ GA bA
theorem walk {l : PySem.W.OpenLaw} {q : Program} {loose : List Str} {XP : (Str → Option Value) → Heap → Prop} {YP : World → Heap → Prop} {d : DefRec} {K : Params → PySem.W.Frag} (hn : l.most = some 63) (hdf : d.params.defaults = [])
    (hY : ∀ (w : World) (h : Heap), YP w h → (K w.params).In h)
    (F : ∀ (w : World) (mg : Str → Option Value) (fa : Addr) (h : Heap), (K w.params).In h → h.Ns mainGlobals mg → mg d.name = some (.ref fa) →
      ∃ fd : FuncData, (∀ (s : Shared) (u : Value), BindsTo s fd ⟨[u], []⟩ [("_law_script", u)]) ∧ ∀ base : Heap, (K w.params).In base → base.Ns mainGlobals mg → FnOk l.prog w (K w.params) mg base CX0 12 fa fd ["_law_script"] (spLaw (K w.params))) :
    PySem.W.WalkO q loose XP YP l.row.toRowW d [] (fun f vs => PySem.call f vs) :=
  L2.walk_of (n := 63) (k := 12) (x := "_law_script") (CX := fun _ => CX0) (sp := fun w => spLaw (K w.params)) hn (by decide) hdf ⟨rfl, by decide, by decide⟩ hY F (fun _ _ a ns hl _ hS => ⟨a, ns, rfl, hS, hl, fun _ => rfl⟩) fun _ _ _ _ _ z => z
end
end Vk
set_option Elab.async false
open PySem PySem.W PyProof.Rows
set_option maxRecDepth 100000 in
set_option maxHeartbeats 0 in
theorem PySem.Challenge.cw_talepost_k23_people_holds : PySem.Challenge.rw_talepost_k23_people.Holds := by
  w_on; o_law; k_head; (case hw => w_witness2)
  k_fill
  refine Vk.walk (l := PySem.Challenge.rw_talepost_k23_people) rfl rfl (fun w h Y => PySem.W.kIn_of Y) ?F
  case F =>
    intro w mg fa h KX G hmg
    refine' Vk.all_mk KX G hmg ?lDiff ?cDiff ?aDiff ?kDiff ?lInOrder ?cInOrder ?aInOrder ?kInOrder ?lBag ?cBag ?aBag ?kBag ?lTake ?cTake ?aTake ?kTake ?lNames ?cNames ?aNames ?kNames ?lSigns ?cSigns ?aSigns ?kSigns ?lMake ?cMake ?aMake ?kMake ?lRows ?cRows ?aRows ?kRows ?lIs ?cIs ?aIs ?kIs ?lStrange ?cStrange ?aStrange ?kStrange ?lOdd ?cOdd ?aOdd ?kOdd ?lNoSign ?cNoSign ?aNoSign ?kNoSign ?lKinds ?cKinds ?aKinds ?kKinds ?lRight ?cRight ?aRight ?kRight ?lSpoilt ?cSpoilt ?aSpoilt ?kSpoilt ?lRefused ?cRefused ?aRefused ?kRefused ?lDue ?cDue ?aDue ?kDue ?lDraw ?cDraw ?aDraw ?kDraw ?lLaw ?cLaw ?aLaw ?kLaw ?z_len ?z_set ?z_all ?z_abs ?z_int ?z_range ?z_sorted ?z_isinstance ?z_str ?z_bool ?z_list ?z_tuple ?z_any ?z_enumerate ?z_min ?z_max ?z_ValueError ?z_zip ?z_dict ?aC ?pgC ?hdC ?poC ?saC ?mkC ?kC ?nC_letters ?nC_vowels ?nC_consonants ?nC_signs ?ig ?it ?icC ?imC ?rdC ?gaC ?vM ?vJ ?aJ ?gJ ?aSL ?aTB ?pgTB ?hdTB ?poTB ?saTB ?mkTB ?kTB ?nTB_alphabet ?nTB_pairs ?icTB ?imTB ?aPN ?pgPN ?hdPN ?poPN ?saPN ?mkPN ?kPN ?icPN ?imPN ?nPN_alphabet ?nPN_hears ?nPN_says ?nPN_known ?iscPN ?tyPN ?sPN_PN ?clPN ?aKN ?pgKN ?hdKN ?poKN ?saKN ?mkKN ?kKN ?icKN ?imKN ?nKN_alphabet ?nKN_hears ?nKN_says ?nKN_known ?iscKN ?tyKN ?sKN_KN ?clKN ?aDN ?pgDN ?hdDN ?poDN ?saDN ?mkDN ?kDN ?icDN ?imDN ?nDN_alphabet ?nDN_hears ?nDN_says ?nDN_known ?iscDN ?tyDN ?sDN_DN ?clDN ?aKD ?pgKD ?hdKD ?poKD ?saKD ?mkKD ?kKD ?icKD ?imKD ?nKD_alphabet ?nKD_hears ?nKD_says ?nKD_known ?iscKD ?tyKD ?sKD_KD ?clKD ?sPN_KN ?sPN_DN ?sPN_KD ?sKN_PN ?sKN_DN ?sKN_KD ?sDN_PN ?sDN_KN ?sDN_KD ?sKD_PN ?sKD_KN ?sKD_DN ?lAlEq ?cAlEq ?aAlEq ?kAlEq ?iAlEq ?lIsSign ?cIsSign ?aIsSign ?kIsSign ?iIsSign ?lIsText ?cIsText ?aIsText ?kIsText ?iIsText ?lTInit ?cTInit ?aTInit ?kTInit ?iTInit ?lTGet ?cTGet ?aTGet ?kTGet ?iTGet ?lTLen ?cTLen ?aTLen ?kTLen ?iTLen ?lTPairs ?cTPairs ?aTPairs ?kTPairs ?iTPairs ?lPInit ?cPInit ?aPInit ?kPInit ?iPInit ?lPHeard ?cPHeard ?aPHeard ?kPHeard ?iPHeard ?lPSaid ?cPSaid ?aPSaid ?kPSaid ?iPSaid ?lPTable ?cPTable ?kPTable ?aPTablePN ?aPTableKN ?aPTableDN ?aPTableKD ?gPTable ?tPTable ?rPTable ?lKKnown ?cKKnown ?kKKnown ?aKKnownKN ?aKKnownKD ?gKKnown ?tKKnown ?rKKnown ?aPHeardKN ?aPHeardDN ?aPHeardKD ?aPInitDN ?tyPInit ?fnPInit ?tyPSaid ?fnPSaid ?fnTGet ?eqC ?noT ?noM ?anyS ?lKI ?cKI ?aKI ?iKI ?kKI ?lccKI ?lcdKI ?hvKI ?hflKI ?tyKI ?fnKI ?lKS ?cKS ?aKS ?iKS ?kKS ?lccKS ?lcdKS ?hvKS ?hflKS ?tyKS ?fnKS ?lDS ?cDS ?aDS ?iDS ?kDS ?lccDS ?lcdDS ?hvDS ?hflDS ?tyDS ?fnDS ?lXS ?cXS ?aXS ?iXS ?kXS ?lccXS ?lcdXS ?hvXS ?hflXS ?tyXS ?fnXS ?aKIKD ?lA ?cA ?aA ?lDA ?kA ?iA ?xTE ?aTE ?eTE ?tTE ?hTE ?iTE ?xBA ?aBA ?eBA ?tBA ?hBA ?nBA_part ?saBA ?gaBA ?ggBA ?aFBA ?tFBA ?lBA ?cBA ?kBA ?lccBA ?lcdBA ?hvBA ?hflBA ?mmBA ?vBA ?xBP ?aBP ?eBP ?tBP ?hBP ?nBP_index ?saBP ?gaBP ?ggBP ?aFBP ?tFBP ?lBP ?cBP ?kBP ?lccBP ?lcdBP ?hvBP ?hflBP ?mmBP ?vBP ?xUS ?aUS ?eUS ?tUS ?hUS ?nUS_sign ?saUS ?gaUS ?ggUS ?aFUS ?tFUS ?lUS ?cUS ?kUS ?lccUS ?lcdUS ?hvUS ?hflUS ?mmUS ?vUS ?xBQ ?aBQ ?eBQ ?tBQ ?hBQ ?nBQ_part ?saBQ ?gaBQ ?ggBQ ?aFBQ ?tFBQ ?lBQ ?cBQ ?kBQ ?lccBQ ?lcdBQ ?hvBQ ?hflBQ ?mmBQ ?vBQ ?sTE_TE ?clTE ?sUS_US ?sUS_TE ?clUS ?sBQ_BQ ?sBQ_TE ?clBQ ?sUS_BQ ?sBQ_US ?icUS ?imUS ?icBQ ?imBQ
    (case aDiff => k_is)
    (case aInOrder => k_is)
    (case aBag => k_is)
    (case aTake => k_is)
    (case aNames => k_is)
    (case aSigns => k_is)
    (case aMake => k_is)
    (case aRows => k_is)
    (case aIs => k_is)
    (case aStrange => k_is)
    (case aOdd => k_is)
    (case aNoSign => k_is)
    (case aKinds => k_is)
    (case aRight => k_is)
    (case aSpoilt => k_is)
    (case aRefused => k_is)
    (case aDue => k_is)
    (case aDraw => k_is)
    (case aLaw => k_is)
    (case z_len => k_is)
    (case z_set => k_is)
    (case z_all => k_is)
    (case z_abs => k_is)
    (case z_int => k_is)
    (case z_range => k_is)
    (case z_sorted => k_is)
    (case z_isinstance => k_is)
    (case z_str => k_is)
    (case z_bool => k_is)
    (case z_list => k_is)
    (case z_tuple => k_is)
    (case z_any => k_is)
    (case z_enumerate => k_is)
    (case z_min => k_is)
    (case z_max => k_is)
    (case z_ValueError => k_is)
    (case z_zip => k_is)
    (case z_dict => k_is)
    (case aC => k_is)
    (case aSL => k_is)
    (case aTB => k_is)
    (case aPN => k_is)
    (case aKN => k_is)
    (case aDN => k_is)
    (case aKD => k_is)
    (case noM => k_is)
    (case aTE => k_is)
    (case aBA => k_is)
    (case aBP => k_is)
    (case aUS => k_is)
    (case aBQ => k_is)
    (case aAlEq => k_is)
    (case aIsSign => k_is)
    (case aIsText => k_is)
    (case aTInit => k_is)
    (case aTGet => k_is)
    (case aTLen => k_is)
    (case aTPairs => k_is)
    (case aPInit => k_is)
    (case aPHeard => k_is)
    (case aPSaid => k_is)
    (case aPTablePN => k_is)
    (case aPTableKN => k_is)
    (case aPTableDN => k_is)
    (case aPTableKD => k_is)
    (case aKKnownKN => k_is)
    (case aKKnownKD => k_is)
    (case aPHeardKN => k_is)
    (case aPHeardDN => k_is)
    (case aPHeardKD => k_is)
    (case aPInitDN => k_is)
    (case aKI => k_is)
    (case aKS => k_is)
    (case aDS => k_is)
    (case aXS => k_is)
    (case aKIKD => k_is)
    (case aA => k_is)
    (case aFBA => k_is)
    (case aFBP => k_is)
    (case aFUS => k_is)
    (case aFBQ => k_is)
    (case rPTable => k_is)
    (case rKKnown => k_is)
    (case lDiff => k_is)
    (case cDiff => k_is)
    (case kDiff => k_is)
    (case lInOrder => k_is)
    (case cInOrder => k_is)
    (case kInOrder => k_is)
    (case lBag => k_is)
    (case cBag => k_is)
    (case kBag => k_is)
    (case lTake => k_is)
    (case cTake => k_is)
    (case kTake => k_is)
    (case lNames => k_is)
    (case cNames => k_is)
    (case kNames => k_is)
    (case lSigns => k_is)
    (case cSigns => k_is)
    (case kSigns => k_is)
    (case lMake => k_is)
    (case cMake => k_is)
    (case kMake => k_is)
    (case lRows => k_is)
    (case cRows => k_is)
    (case kRows => k_is)
    (case lIs => k_is)
    (case cIs => k_is)
    (case kIs => k_is)
    (case lStrange => k_is)
    (case cStrange => k_is)
    (case kStrange => k_is)
    (case lOdd => k_is)
    (case cOdd => k_is)
    (case kOdd => k_is)
    (case lNoSign => k_is)
    (case cNoSign => k_is)
    (case kNoSign => k_is)
    (case lKinds => k_is)
    (case cKinds => k_is)
    (case kKinds => k_is)
    (case lRight => k_is)
    (case cRight => k_is)
    (case kRight => k_is)
    (case lSpoilt => k_is)
    (case cSpoilt => k_is)
    (case kSpoilt => k_is)
    (case lRefused => k_is)
    (case cRefused => k_is)
    (case kRefused => k_is)
    (case lDue => k_is)
    (case cDue => k_is)
    (case kDue => k_is)
    (case lDraw => k_is)
    (case cDraw => k_is)
    (case kDraw => k_is)
    (case lLaw => k_is)
    (case cLaw => k_is)
    (case kLaw => k_is)
    (case pgC => k_is)
    (case hdC => k_is)
    (case poC => k_is)
    (case saC => k_is)
    (case mkC => k_is)
    (case kC => k_is)
    (case nC_letters => k_is)
    (case nC_vowels => k_is)
    (case nC_consonants => k_is)
    (case nC_signs => k_is)
    (case ig => k_is)
    (case it => k_is)
    (case icC => k_is)
    (case imC => k_is)
    (case rdC => k_is)
    (case gaC => k_is)
    (case vM => k_is)
    (case vJ => k_is)
    (case aJ => k_is)
    (case gJ => k_is)
    (case pgTB => k_is)
    (case hdTB => k_is)
    (case poTB => k_is)
    (case saTB => k_is)
    (case mkTB => k_is)
    (case kTB => k_is)
    (case nTB_alphabet => k_is)
    (case nTB_pairs => k_is)
    (case icTB => k_is)
    (case imTB => k_is)
    (case pgPN => k_is)
    (case hdPN => k_is)
    (case poPN => k_is)
    (case saPN => k_is)
    (case mkPN => k_is)
    (case kPN => k_is)
    (case icPN => k_is)
    (case imPN => k_is)
    (case nPN_alphabet => k_is)
    (case nPN_hears => k_is)
    (case nPN_says => k_is)
    (case nPN_known => k_is)
    (case iscPN => k_is)
    (case tyPN => k_is)
    (case sPN_PN => k_is)
    (case clPN => k_is)
    (case pgKN => k_is)
    (case hdKN => k_is)
    (case poKN => k_is)
    (case saKN => k_is)
    (case mkKN => k_is)
    (case kKN => k_is)
    (case icKN => k_is)
    (case imKN => k_is)
    (case nKN_alphabet => k_is)
    (case nKN_hears => k_is)
    (case nKN_says => k_is)
    (case nKN_known => k_is)
    (case iscKN => k_is)
    (case tyKN => k_is)
    (case sKN_KN => k_is)
    (case clKN => k_is)
    (case pgDN => k_is)
    (case hdDN => k_is)
    (case poDN => k_is)
    (case saDN => k_is)
    (case mkDN => k_is)
    (case kDN => k_is)
    (case icDN => k_is)
    (case imDN => k_is)
    (case nDN_alphabet => k_is)
    (case nDN_hears => k_is)
    (case nDN_says => k_is)
    (case nDN_known => k_is)
    (case iscDN => k_is)
    (case tyDN => k_is)
    (case sDN_DN => k_is)
    (case clDN => k_is)
    (case pgKD => k_is)
    (case hdKD => k_is)
    (case poKD => k_is)
    (case saKD => k_is)
    (case mkKD => k_is)
    (case kKD => k_is)
    (case icKD => k_is)
    (case imKD => k_is)
    (case nKD_alphabet => k_is)
    (case nKD_hears => k_is)
    (case nKD_says => k_is)
    (case nKD_known => k_is)
    (case iscKD => k_is)
    (case tyKD => k_is)
    (case sKD_KD => k_is)
    (case clKD => k_is)
    (case sPN_KN => k_is)
    (case sPN_DN => k_is)
    (case sPN_KD => k_is)
    (case sKN_PN => k_is)
    (case sKN_DN => k_is)
    (case sKN_KD => k_is)
    (case sDN_PN => k_is)
    (case sDN_KN => k_is)
    (case sDN_KD => k_is)
    (case sKD_PN => k_is)
    (case sKD_KN => k_is)
    (case sKD_DN => k_is)
    (case lAlEq => k_is)
    (case cAlEq => k_is)
    (case kAlEq => k_is)
    (case iAlEq => k_is)
    (case lIsSign => k_is)
    (case cIsSign => k_is)
    (case kIsSign => k_is)
    (case iIsSign => k_is)
    (case lIsText => k_is)
    (case cIsText => k_is)
    (case kIsText => k_is)
    (case iIsText => k_is)
    (case lTInit => k_is)
    (case cTInit => k_is)
    (case kTInit => k_is)
    (case iTInit => k_is)
    (case lTGet => k_is)
    (case cTGet => k_is)
    (case kTGet => k_is)
    (case iTGet => k_is)
    (case lTLen => k_is)
    (case cTLen => k_is)
    (case kTLen => k_is)
    (case iTLen => k_is)
    (case lTPairs => k_is)
    (case cTPairs => k_is)
    (case kTPairs => k_is)
    (case iTPairs => k_is)
    (case lPInit => k_is)
    (case cPInit => k_is)
    (case kPInit => k_is)
    (case iPInit => k_is)
    (case lPHeard => k_is)
    (case cPHeard => k_is)
    (case kPHeard => k_is)
    (case iPHeard => k_is)
    (case lPSaid => k_is)
    (case cPSaid => k_is)
    (case kPSaid => k_is)
    (case iPSaid => k_is)
    (case lPTable => k_is)
    (case cPTable => k_is)
    (case kPTable => k_is)
    (case gPTable => k_is)
    (case tPTable => k_is)
    (case lKKnown => k_is)
    (case cKKnown => k_is)
    (case kKKnown => k_is)
    (case gKKnown => k_is)
    (case tKKnown => k_is)
    (case tyPInit => k_is)
    (case fnPInit => k_is)
    (case tyPSaid => k_is)
    (case fnPSaid => k_is)
    (case fnTGet => k_is)
    (case eqC => k_is)
    (case noT => first | rfl | decide +kernel)
    (case anyS => k_is)
    (case lKI => k_is)
    (case cKI => k_is)
    (case iKI => k_is)
    (case kKI => k_is)
    (case lccKI => k_is)
    (case lcdKI => k_is)
    (case hvKI => rfl)
    (case hflKI => first | rfl | decide +kernel)
    (case tyKI => k_is)
    (case fnKI => k_is)
    (case lKS => k_is)
    (case cKS => k_is)
    (case iKS => k_is)
    (case kKS => k_is)
    (case lccKS => k_is)
    (case lcdKS => k_is)
    (case hvKS => rfl)
    (case hflKS => first | rfl | decide +kernel)
    (case tyKS => k_is)
    (case fnKS => k_is)
    (case lDS => k_is)
    (case cDS => k_is)
    (case iDS => k_is)
    (case kDS => k_is)
    (case lccDS => k_is)
    (case lcdDS => k_is)
    (case hvDS => rfl)
    (case hflDS => first | rfl | decide +kernel)
    (case tyDS => k_is)
    (case fnDS => k_is)
    (case lXS => k_is)
    (case cXS => k_is)
    (case iXS => k_is)
    (case kXS => k_is)
    (case lccXS => k_is)
    (case lcdXS => k_is)
    (case hvXS => rfl)
    (case hflXS => first | rfl | decide +kernel)
    (case tyXS => k_is)
    (case fnXS => k_is)
    (case lA => k_is)
    (case cA => k_is)
    (case lDA => k_is)
    (case kA => k_is)
    (case iA => k_is)
    (case xTE => k_is)
    (case eTE => k_is)
    (case tTE => k_is)
    (case hTE => k_is)
    (case iTE => k_is)
    (case xBA => k_is)
    (case eBA => k_is)
    (case tBA => k_is)
    (case hBA => k_is)
    (case nBA_part => k_is)
    (case saBA => k_is)
    (case gaBA => k_is)
    (case ggBA => k_is)
    (case tFBA => k_is)
    (case lBA => k_is)
    (case cBA => k_is)
    (case kBA => k_is)
    (case lccBA => k_is)
    (case lcdBA => k_is)
    (case hvBA => rfl)
    (case hflBA => first | rfl | decide +kernel)
    (case mmBA => k_is)
    (case vBA => k_is)
    (case xBP => k_is)
    (case eBP => k_is)
    (case tBP => k_is)
    (case hBP => k_is)
    (case nBP_index => k_is)
    (case saBP => k_is)
    (case gaBP => k_is)
    (case ggBP => k_is)
    (case tFBP => k_is)
    (case lBP => k_is)
    (case cBP => k_is)
    (case kBP => k_is)
    (case lccBP => k_is)
    (case lcdBP => k_is)
    (case hvBP => rfl)
    (case hflBP => first | rfl | decide +kernel)
    (case mmBP => k_is)
    (case vBP => k_is)
    (case xUS => k_is)
    (case eUS => k_is)
    (case tUS => k_is)
    (case hUS => k_is)
    (case nUS_sign => k_is)
    (case saUS => k_is)
    (case gaUS => k_is)
    (case ggUS => k_is)
    (case tFUS => k_is)
    (case lUS => k_is)
    (case cUS => k_is)
    (case kUS => k_is)
    (case lccUS => k_is)
    (case lcdUS => k_is)
    (case hvUS => rfl)
    (case hflUS => first | rfl | decide +kernel)
    (case mmUS => k_is)
    (case vUS => k_is)
    (case xBQ => k_is)
    (case eBQ => k_is)
    (case tBQ => k_is)
    (case hBQ => k_is)
    (case nBQ_part => k_is)
    (case saBQ => k_is)
    (case gaBQ => k_is)
    (case ggBQ => k_is)
    (case tFBQ => k_is)
    (case lBQ => k_is)
    (case cBQ => k_is)
    (case kBQ => k_is)
    (case lccBQ => k_is)
    (case lcdBQ => k_is)
    (case hvBQ => rfl)
    (case hflBQ => first | rfl | decide +kernel)
    (case mmBQ => k_is)
    (case vBQ => k_is)
    (case sTE_TE => k_is)
    (case clTE => k_is)
    (case sUS_US => k_is)
    (case sUS_TE => k_is)
    (case clUS => k_is)
    (case sBQ_BQ => k_is)
    (case sBQ_TE => k_is)
    (case clBQ => k_is)
    (case sUS_BQ => k_is)
    (case sBQ_US => k_is)
    (case icUS => k_is)
    (case imUS => k_is)
    (case icBQ => k_is)
    (case imBQ => k_is)
