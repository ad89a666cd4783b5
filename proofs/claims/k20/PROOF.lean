import PyProof.Rows.All
import Wide.All
import OpenK.AllK
import Wide.FinOn
import HandS.ForMost
import HandS.More
import PyProof.CollectStr
import HandS.Walk
import HandS.IsInst
import HandS.ForExc
import HandS.Property
import HandS.Text
import HandS.Replace
import PyProof.ToksMono
import PyProof.StrLawsReplace
import HandS.Strs
import PyProof.ListStr
import HandS.Conv
import HandS.WordsExc
import HandS.Style
import KE.KRevSl
import HandS.ExcOwn
import HandS.ExcInit
import HandS.ExcField
import HandS.FStr
import HandS.ExcSuper
import KE.KExcSuper
import HandS.ExcIs
import HandS.SlotsOwn
import HandS.Zip
import HandS.ClsMeth
import HandS.ExcCtx
import HandS.SuiteRaise
import HandS.RaiseFrom
import HandS.ExcInitHot
import HandS.HotCalls
import HandS.Base
import HandS.Call
import HandS.Exc
import HandS.TryMany
import KE.KOpsOwn
import HandS.TupSets
import KE.KeyNested
import KE.KSortTupG
import HandS.SetBool
import KE.KCallOwn
import PyProof.Conv_bool
import HandS.ReplaceLit
import HandS.Defaults
import PySem.Challenge.RW_talepost_k20_tables_written
import HandS.RaiseMore
import HandS.Deep
import HandS.Dict
import HandS.WordsDict
import KE.DatumMore
import KE.Datum
import PyProof.StrLawsRepr
import HandS.Small
import KE.KStrOpen
set_option Elab.async false
set_option linter.all false
set_option maxRecDepth 100000
set_option maxHeartbeats 4000000
/-! sorted(text): the signs of a text in order; list(text) -/
namespace Vk
open PySem PySem.Spec PyProof.Rows L2
def signsOf (z : Str) : List Str := z.cps.toList.map fun c => (⟨#[c]⟩ : Str)
theorem signs_strs {z : Str} {acc : Array Value} (h : ItemsOf (SignAt z) acc z.cps.size) : StrsAre acc.toList (signsOf z) := by
  have hsz : acc.size = z.cps.size := h.1
  have hL : acc.toList.length = (signsOf z).length := by
    rw [Array.length_toList, hsz]
    unfold signsOf
    rw [List.length_map, Array.length_toList]
  refine strs_at hL fun j v e => ?_
  have e1 : acc[j]? = some v := by rw [← Array.getElem?_toList]; exact e
  obtain ⟨c, u, hc, ev⟩ := h.2 j v e1
  refine ⟨⟨#[c]⟩, u, ?_, ev⟩
  unfold signsOf
  rw [List.getElem?_map, Array.getElem?_toList, hc]
  rfl
section
variable {X : Cx}
def rSortT : List V → Hp → VK → Prop := fun vs H Q => ∃ z : Str, vs = [.str z] ∧ z.length < 64 ∧
  ∀ ys p, ys.Perm (signsOf z) → sortedS ys = true → H p = none → Q (.ref p) (upd H p (.lst (ys.map V.str)))
theorem cr_sortT (hcalm : X.calm = true) : CallR X (.builtin "sorted") rSortT := by
  intro pins s σ H xs us Q I r q
  obtain ⟨z, ex, h64, q⟩ := q
  subst ex
  obtain ⟨u, eu, rx⟩ := vals1 r
  subst eu
  obtain ⟨t, rfl⟩ := rx
  have hz2 : z.cps.size < 64 := h64
  refine Calls.call_function_entry PyProof.Rows.kind_sorted PyProof.Rows.plain_sorted PyProof.Rows.entry_sorted (PyProof.Rows.args_sorted1 _) ?_
  unfold Builtin.«sorted»
  refine wpAny_bind (m := checkCount "sorted" 1 1 _) (wpAny_pure ?_)
  refine wpAny_bind (wpAny_collect_str (A := X.A.in1) (I.ok.hd hcalm) z t (fun s1 acc hk hg hd ho hacc => ?_) (by rw [sizeLine_eq]; omega))
  obtain ⟨h1, g1, d1, tk1, os1⟩ := s1
  have eg : g1 = s.gens := hg
  have ed : d1 = s.drawn := hd
  have eo : os1 = s.os := ho
  subst eg; subst ed; subst eo
  have hS := signs_strs hacc
  have hal : acc.toList.length = z.cps.size := by rw [Array.length_toList]; exact hacc.1
  have I1 : Inv X pins σ H { s with heap := h1, toks := tk1 } := I.kept hk
  refine wpAny_bind (wpAny_newList ?_ (by rw [hal, sizeLine_eq]; omega))
  have hoL : (h1.push (seqObj "list" acc.toList.toArray 0)).get? h1.objs.size = some (seqObj "list" acc.toList.toArray 0) := Heap.get?_push_size _ rfl
  show wpAny _ _ _ _ _ { s with heap := h1.push (seqObj "list" acc.toList.toArray 0), toks := tk1 }
  refine wpAny_bind (wpAny_holding (wpAny_call_entry PyProof.Rows.slot_list_sort ⟨_, hoL, rfl⟩ PyProof.Rows.entry_list_sort
    (list_sort_treeK strKind_oneLt (s := { s with heap := h1.push (seqObj "list" acc.toList.toArray 0), toks := tk1 }) hoL hS.keysOf (fun v₁ v₂ more e => keyKind_strs (by rw [← e]; exact hS)) (by rw [hal]; exact hz2) fun st2 hp hs => ⟨_, rfl, ?_⟩)
    (PyProof.Rows.args_list_sort _)))
  obtain ⟨ys, g1, g2, g3⟩ := sorted_out_str hS hp hs
  obtain ⟨e', he'⟩ := PyProof.Rows.sortedHeap_at (vs := acc.toList) (out := (arrOf st2).map (·.2)) hoL
  have hlen : (ys.map V.str).length ≤ sizeLine := by
    rw [List.length_map, g2.length_eq]
    unfold signsOf
    rw [List.length_map, Array.length_toList, sizeLine_eq]
    omega
  refine wpAny_pure ⟨_, rfl, .ref h1.objs.size, upd H h1.objs.size (.lst (ys.map V.str)), I1.laid (t' := tk1) (fun b u e => ?_) (Nat.le_refl _)
    (show ObjOk X.prog X.w _ _ _ (.lst (ys.map V.str)) from ⟨hlen, ((arrOf st2).map (·.2)).toList, e', vals_of_strs g1, by rw [Array.toArray_toList]; exact he'⟩), rfl, q ys _ g2 g3 (I1.hok.fresh (Nat.le_refl _))⟩
  have hb : b < h1.objs.size := Heap.lt_size e
  rw [PyProof.Rows.sortedHeap_old (Nat.ne_of_lt hb) (by rw [size_push']; exact Nat.lt_succ_of_lt hb)]
  exact Heap.get?_push_of_some _ e
/-- list(x), x a text -/
def rListT : List V → Hp → VK → Prop := fun vs H Q => ∃ z : Str, vs = [.str z] ∧ z.length ≤ 4000 ∧ ∀ p, H p = none → Q (.ref p) (upd H p (.lst ((signsOf z).map V.str)))
end
/-! sorted texts: two arrangements of the same texts are one -/
theorem lt_irr (a : List Nat) : ltCps a a = false := by
  rw [ltCps_eq]
  exact decide_eq_false (List.lt_irrefl a)
end Vk
set_option Elab.async false
set_option linter.all false
set_option maxRecDepth 100000
set_option maxHeartbeats 1000000
/-! texts as lists of codes; comprehensions over a text -/
namespace Vk
open PySem PySem.Spec PyProof.Rows L2
/-- the text of these codes -/
def S (l : List Nat) : Str := ⟨l.toArray⟩
theorem S_of (z : Str) : z = S z.cps.toList := by
  obtain ⟨a⟩ := z
  simp [S]
theorem S_len (l : List Nat) : (S l).length = l.length := by
  show l.toArray.size = l.length
  simp
theorem S_cps (l : List Nat) : (S l).cps.toList = l := by simp [S]
theorem S_size (l : List Nat) : (S l).cps.size = l.length := S_len l
theorem S_inj {a b : List Nat} : S a = S b ↔ a = b := by
  constructor
  · intro h
    have := congrArg (fun z : Str => z.cps.toList) h
    simpa [S] using this
  · rintro rfl
    rfl
theorem S_one (c : Nat) : (⟨#[c]⟩ : Str) = S [c] := rfl
theorem S_app (a b : List Nat) : S a ++ S b = S (a ++ b) := by
  show (⟨a.toArray ++ b.toArray⟩ : Str) = ⟨(a ++ b).toArray⟩
  simp
theorem S_get {l : List Nat} {i c : Nat} : (S l).cps[i]? = some c ↔ l[i]? = some c := by
  show l.toArray[i]? = some c ↔ _
  simp
theorem signs_S (l : List Nat) : signsOf (S l) = l.map fun c => S [c] := by
  unfold signsOf
  rw [S_cps]
  rfl
theorem S_cut (l : List Nat) (lo hi : Option Int) : cutS (S l) lo hi = S ((l.drop (HT.sIx l.length 0 lo)).take (HT.sIx l.length l.length hi - HT.sIx l.length 0 lo)) := by
  unfold cutS
  rw [S_cps, S_len]
  rfl
theorem S_to (l : List Nat) (k : Nat) : cutS (S l) none (some (k : Int)) = S (l.take k) := by
  rw [S_cut, HT.sIx_none, HT.sIx_nat, List.drop_zero, Nat.sub_zero]
  congr 1
  rw [← List.take_take, List.take_length]
theorem S_from (l : List Nat) (k : Nat) : cutS (S l) (some (k : Int)) none = S (l.drop k) := by
  rw [S_cut, HT.sIx_none, HT.sIx_nat]
  congr 1
  by_cases h : k ≤ l.length
  · rw [Nat.min_eq_left h]
    exact List.take_of_length_le (by rw [List.length_drop]; exact Nat.le_refl _)
  · rw [Nat.min_eq_right (by omega), Nat.sub_self, List.take_zero, List.drop_eq_nil_of_le (by omega)]
/-- what join does of single signs -/
theorem join_signs : ∀ l : List Nat, Txt.join (S []) (l.map fun c => S [c]) = S l := by
  have key : ∀ l : List Nat, Str.join (S []) (l.map fun c => S [c]) = S l := by
    intro l
    induction l with
    | nil => rfl
    | cons c r ih =>
      cases r with
      | nil => rfl
      | cons d r =>
        show S [c] ++ S [] ++ Str.join (S []) ((d :: r).map fun c => S [c]) = _
        rw [ih, S_app, S_app]
        rfl
  intro l
  exact (PySem.StrLaws.glued_eq_join _ _).trans (key l)
/-! sorted -/
def srtL (l : List Nat) : List Nat := l.mergeSort fun a b => decide (a ≤ b)
theorem srtL_perm (l : List Nat) : (srtL l).Perm l := List.mergeSort_perm _ _
theorem srtL_le (l : List Nat) : (srtL l).Pairwise (· ≤ ·) := by
  have h := List.pairwise_mergeSort (le := fun a b : Nat => decide (a ≤ b)) (by simp; omega) (by simp; omega) l
  exact h.imp fun h => by simpa using h
theorem srtL_len (l : List Nat) : (srtL l).length = l.length := (srtL_perm l).length_eq
theorem srtL_mem {l : List Nat} {c : Nat} : c ∈ srtL l ↔ c ∈ l := (srtL_perm l).mem_iff
theorem srtL_nodup {l : List Nat} : (srtL l).Nodup ↔ l.Nodup := (srtL_perm l).nodup_iff
theorem srt_eq {a b : List Nat} (p : a.Perm b) (ha : a.Pairwise (· ≤ ·)) : a = srtL b :=
  List.Perm.eq_of_pairwise (le := (· ≤ ·)) (fun x y _ _ h1 h2 => Nat.le_antisymm h1 h2) ha (srtL_le b) (p.trans (srtL_perm b).symm)
theorem srtL_congr {a b : List Nat} : srtL a = srtL b ↔ a.Perm b := by
  constructor
  · intro h
    exact (srtL_perm a).symm.trans (h ▸ srtL_perm b)
  · intro p
    exact srt_eq ((srtL_perm a).trans p) (srtL_le a)
theorem rising_le : ∀ (c : Nat) (l : List Nat), risingS (S [c]) (l.map fun c => S [c]) = true → (c :: l).Pairwise (· ≤ ·)
  | c, [], _ => by simp
  | c, d :: l, h => by
    have h' : (!ltCps (S [d]).cps.toList (S [c]).cps.toList && risingS (S [d]) (l.map fun c => S [c])) = true := h
    obtain ⟨h1, h2⟩ := Bool.and_eq_true_iff.mp h'
    have ih := rising_le d l h2
    have hcd : c ≤ d := by
      rw [ltCps_eq] at h1
      simp [S] at h1
      exact Nat.le_of_not_lt fun z => of_decide_eq_false h1 (List.Lex.rel z)
    rw [List.pairwise_cons]
    refine ⟨fun x hx => ?_, ih⟩
    rcases List.mem_cons.mp hx with rfl | hx
    · exact hcd
    · exact Nat.le_trans hcd ((List.pairwise_cons.mp ih).1 x hx)
theorem sorted_signs {l : List Nat} {ys : List Str} (p : ys.Perm (l.map fun c => S [c])) (h : sortedS ys = true) : ys = (srtL l).map fun c => S [c] := by
  have hq : ∃ zs : List Nat, ys = zs.map fun c => S [c] := by
    refine ⟨ys.map fun z => z.cps.toList.headD 0, ?_⟩
    rw [List.map_map]
    refine (List.map_id ys).symm.trans (List.map_congr_left fun y hy => ?_)
    obtain ⟨c, _, rfl⟩ := List.mem_map.mp (p.mem_iff.mp hy)
    simp [S]
  obtain ⟨zs, rfl⟩ := hq
  have hp : zs.Perm l := by
    have q := p.map fun z : Str => z.cps.toList.headD 0
    rw [List.map_map, List.map_map] at q
    have e : ∀ l : List Nat, l.map ((fun z : Str => z.cps.toList.headD 0) ∘ fun c => S [c]) = l := fun l => (List.map_congr_left fun c _ => by simp [S]).trans (List.map_id l)
    rw [e, e] at q
    exact q
  have hs : zs.Pairwise (· ≤ ·) := by
    cases zs with
    | nil => exact .nil
    | cons c r => exact rising_le c r h
  rw [srt_eq hp hs]
/-! a comprehension over a text -/
theorem lc_text {l : List Nat} {j : Nat} {tt : TT} {te : TE} {vs : List Nat} {σ : L2.St} {H1 : Hp} {D : Addr} {Qd : Hp → Prop} (p : Nat → Bool) (v : Nat → V) (hl : l.length ≤ 4000)
    (hw : ∀ x, wipe ((wipe σ vs).set j (some x)) vs = wipe σ vs)
    (ht : ∀ c ∈ l, ∀ (H2 : Hp) (Q : Bool → Hp → Prop), (∀ b, b ≠ D → H2 b = H1 b) → Q (p c) H2 → tt ((wipe σ vs).set j (some (.str (S [c])))) H2 Q)
    (he : ∀ c ∈ l, p c = true → ∀ (H2 : Hp) (Q : VK), (∀ b, b ≠ D → H2 b = H1 b) → Q (v c) H2 → te ((wipe σ vs).set j (some (.str (S [c])))) H2 Q)
    (hq : Qd (upd H1 D (.lst ((l.filter p).map v)))) :
    ∃ W : Nat → Nat → Hp → Prop, (∃ m, W 0 m (upd H1 D (.lst []))) ∧ ∀ i m H, W i m H →
      ((Its (S l)).stop i H ∧ Qd H) ∨ ((Its (S l)).go i H ∧ ∃ Nx : Hp → Prop, (∀ H', Nx H' → ∃ m', m' < m ∧ W (i + 1) m' H') ∧ ∀ x H', (Its (S l)).yld i H x H' → gName j x (wipe σ vs) H' fun σ2 H2 => wipe σ2 vs = wipe σ vs ∧ tt σ2 H2 fun b H3 =>
        if b = true then te σ2 H3 fun y H4 => ∃ acc, H4 D = some (.lst acc) ∧ acc.length < sizeLine ∧ Nx (upd H4 D (.lst (acc ++ [y]))) else Nx H3) := by
  have hz : (S l).cps.size = l.length := S_size l
  refine lc_it walk_str (fun i H => H = upd H1 D (.lst (((l.take i).filter p).map v))) rfl (fun _ _ _ _ => trivial) ?_ ?_
  · rintro i x H H' hi hP ⟨rfl, c, hc, rfl⟩
    subst hP
    have hc2 : l[i]? = some c := S_get.mp hc
    have hm : c ∈ l := List.mem_of_getElem? hc2
    have off : ∀ b, b ≠ D → (upd H1 D (.lst (((l.take i).filter p).map v))) b = H1 b := fun b hb => upd_ne hb
    have e1 : l.take (i + 1) = l.take i ++ [c] := by
      rw [List.take_add_one, hc2]
      rfl
    refine ⟨hw _, ht c hm _ _ off ?_⟩
    by_cases hp : p c = true
    · rw [if_pos hp]
      refine he c hm hp _ _ off ⟨_, upd_same, ?_, ?_⟩
      · rw [List.length_map, sizeLine_eq]
        have h1 := List.length_filter_le p (l.take i)
        rw [List.length_take] at h1
        omega
      · rw [upd_upd, e1, List.filter_append, List.filter_cons_of_pos hp, List.filter_nil, List.map_append]
        rfl
    · rw [if_neg hp, e1, List.filter_append, List.filter_cons_of_neg hp, List.filter_nil, List.append_nil]
  · rintro H rfl
    rw [hz, List.take_length]
    exact hq
end Vk
set_option Elab.async false
set_option linter.all false
set_option maxRecDepth 100000
set_option maxHeartbeats 4000000
namespace Vk
open PySem PySem.Spec PyProof.Rows L2
/-! V0: the readings, one step each, said the way a walk uses them -/
section
variable {D : Ends} {σ : L2.St} {H : Hp} {t u : TS} {te ta tb : TE} {c : TT} {Q : VK} {K : PySem.W.Frag}
theorem iSeq (h : t { nx := u D, rt := D.rt, bk := D.bk, ct := D.ct } σ H) : tSeq t u D σ H := h
theorem iNext (h : D.nx σ H) : tNext D σ H := h
theorem iBreak (h : D.bk σ H) : tBreak D σ H := h
theorem iCont (h : D.ct σ H) : tCont D σ H := h
theorem iDrop (h : te σ H fun _ H1 => D.nx σ H1) : tDrop te D σ H := h
theorem iRet (h : te σ H D.rt) : tRet te D σ H := h
theorem iRetN (h : D.rt .non H) : tRetN D σ H := h
theorem iIfS (h : c σ H fun b H1 => if b = true then t D σ H1 else u D σ H1) : tIfS c t u D σ H := h
theorem iAsg {g : TG} (h : te σ H fun x H1 => g x σ H1 D.nx) : tAsg te g D σ H := h
theorem iName {i : Nat} {v : V} {Q : L2.St → Hp → Prop} (h : Q (σ.set i (some v)) H) : gName i v σ H Q := h
theorem iSub {to ti : TE} {tt : TSet} {v : V} {Q : L2.St → Hp → Prop} (h : to σ H fun o H1 => ti σ H1 fun i H2 => tt o i v H2 fun H3 => Q σ H3) : gSub to ti tt v σ H Q := h
theorem iVar {i : Nat} {v : V} (e : σ[i]? = some (some v)) (h : Q v H) : tVar i σ H Q := ⟨v, e, h⟩
theorem iC {v : V} (h : Q v H) : tC v σ H Q := h
theorem iOp {r : R2} (h : ta σ H fun x H1 => tb σ H1 fun y H2 => r x y H2 Q) : tOp r ta tb σ H Q := h
theorem iUn {r : V → Hp → VK → Prop} (h : ta σ H fun x H1 => r x H1 Q) : tUn r ta σ H Q := h
theorem iI0 {g : Int → Int → V} {i j : Int} (h : Q (g i j) H) : rI0 g (.int i) (.int j) H Q := ⟨i, j, rfl, rfl, h⟩
theorem iI {C : Int → Int → Prop} {g : Int → Int → V} {i j : Int} (hc : C i j) (h : Q (g i j) H) : rI C g (.int i) (.int j) H Q := ⟨i, j, rfl, rfl, hc, h⟩
theorem iU {g : Int → V} {i : Int} (h : Q (g i) H) : rU g (.int i) H Q := ⟨i, rfl, h⟩
theorem iEq {x y : V} (hs : scal x y = true) (h : Q (.bl (decide (x = y))) H) : rEq x y H Q := ⟨hs, h⟩
theorem iNe {x y : V} (hs : scal x y = true) (h : Q (.bl (!decide (x = y))) H) : rNe x y H Q := ⟨hs, h⟩
theorem iB {Q : Bool → Hp → Prop} (h : te σ H fun x H1 => ∃ c, x = .bl c ∧ Q c H1) : tB te σ H Q := h
theorem iTest {Q : Bool → Hp → Prop} (h : te σ H fun x H1 => ∃ c, x = .bl c ∧ Q c H1) : tTest te σ H Q := h
theorem iAnd {t u : TT} {Q : Bool → Hp → Prop} (h : t σ H fun c H1 => if c = true then u σ H1 Q else Q false H1) : tAnd t u σ H Q := h
theorem iOr {t u : TT} {Q : Bool → Hp → Prop} (h : t σ H fun c H1 => if c = true then Q true H1 else u σ H1 Q) : tOr t u σ H Q := h
theorem iNot {t : TT} {Q : Bool → Hp → Prop} (h : t σ H fun c H1 => Q (!c) H1) : tNot t σ H Q := h
theorem iAndV (h : ta σ H fun x H1 => ∃ c, x = .bl c ∧ if c = true then tb σ H1 Q else Q (.bl false) H1) : tAndV ta tb σ H Q := h
theorem iOrV (h : ta σ H fun x H1 => ∃ c, x = .bl c ∧ if c = true then Q (.bl true) H1 else tb σ H1 Q) : tOrV ta tb σ H Q := h
theorem iNotV (h : ta σ H fun x H1 => ∃ c, x = .bl c ∧ Q (.bl (!c)) H1) : tNotV ta σ H Q := h
theorem iIfE (h : c σ H fun b H1 => if b = true then ta σ H1 Q else tb σ H1 Q) : tIf c ta tb σ H Q := h
theorem iNil {Q : List V → Hp → Prop} (h : Q [] H) : tNil σ H Q := h
theorem iCons {tr : TA} {Q : List V → Hp → Prop} (h : ta σ H fun x H1 => tr σ H1 fun xs H2 => Q (x :: xs) H2) : tCons ta tr σ H Q := h
theorem iTup {ts : TA} (h : ts σ H fun xs H1 => xs.length ≤ sizeLine ∧ ∀ p, H1 p = none → Q (.ref p) (upd H1 p (.tup xs))) : tTup ts σ H Q := h
theorem iLst {ts : TA} (h : ts σ H fun xs H1 => xs.length ≤ sizeLine ∧ ∀ p, H1 p = none → Q (.ref p) (upd H1 p (.lst xs))) : tLst ts σ H Q := h
theorem iCB {r : List V → Hp → VK → Prop} {ts : TA} (h : ts σ H fun vs H1 => r vs H1 Q) : tCB r ts σ H Q := h
theorem iCall {sp : Sp} {dvs : List V} {E : XK} {ts : TA} (h : ts σ H fun vs H1 => sp (vs ++ dvs) H1 Q E) : tCall sp dvs E ts σ H Q := h
theorem iFld {f : Str} (h : ta σ H fun x H1 => ∃ a C dx fs v, x = .ref a ∧ H1 a = some (.ins C dx fs) ∧ Cls K C ∧ NoAttr K C f ∧ fs.lookup f = some v ∧ Q v H1) : tFld K ta f σ H Q := h
theorem iM1 {r : V → List V → Hp → VK → Prop} {to : TE} (h : to σ H fun x H1 => (∃ a, x = .str a) ∧ te σ H1 fun y H2 => r x [y] H2 Q) : tM1 r to te σ H Q := h
theorem iBM {T : String} {r : V → List V → Hp → VK → Prop} {to : TE} {ts : TA} (h : to σ H fun x H1 => tyV K T x H1 ∧ ts σ H1 fun xs H2 => r x xs H2 Q) : tBM K T r to ts σ H Q := h
theorem iSl {r : V → Option Int → Option Int → Hp → VK → Prop} {tl th : TO} (h : te σ H fun x H1 => tl σ H1 fun l H2 => th σ H2 fun u H3 => r x l u H3 Q) : tSl r te tl th σ H Q := h
theorem iIxL {p : Addr} {xs : List V} {i : Int} {v : V} (hq : SqL K H p xs) (e : atI xs i = some v) (h : Q v H) : rIxL K (.ref p) (.int i) H Q := ⟨p, xs, i, v, rfl, rfl, hq, e, h⟩
theorem iIxT {p : Addr} {xs : List V} {i : Int} {v : V} (hq : SqT K H p xs) (e : atI xs i = some v) (h : Q v H) : rIxT K (.ref p) (.int i) H Q := ⟨p, xs, i, v, rfl, rfl, hq, e, h⟩
theorem iIxS {l : List Nat} {i : Int} {c : Nat} (hz : l.length ≤ 100000) (e : atI l i = some c) (h : Q (.str (S [c])) H) : rIxS (.str (S l)) (.int i) H Q :=
  ⟨S l, i, c, rfl, rfl, (by rw [S_len, sizeLine_eq]; omega), (by rw [S_cps]; exact e), h⟩
theorem iSlS {l : List Nat} {lo hi : Option Int} (hz : l.length ≤ 100000) (h : Q (.str (cutS (S l) lo hi)) H) : rSlS (.str (S l)) lo hi H Q :=
  ⟨S l, rfl, (by rw [S_len, sizeLine_eq]; omega), h⟩
theorem iBd {P : Prop} [Decidable P] {A B : Prop} (h1 : P → A) (h2 : ¬ P → B) : if decide P = true then A else B := ite2 (fun h => h1 (of_decide_eq_true h)) fun h => h2 fun p => h (decide_eq_true p)
theorem iBnd {P : Prop} [Decidable P] {A B : Prop} (h1 : ¬ P → A) (h2 : P → B) : if (!decide P) = true then A else B := ite2 (fun h => h1 (by simpa using h)) fun h => h2 (by simpa using h)
theorem iBb {b : Bool} {A B : Prop} (h1 : b = true → A) (h2 : b = false → B) : if b = true then A else B := ite2 h1 fun h => h2 (by simpa using h)
theorem iBbn {b : Bool} {A B : Prop} (h1 : b = false → A) (h2 : b = true → B) : if (!b) = true then A else B := ite2 (fun h => h1 (by simpa using h)) fun h => h2 (by simpa using h)
theorem iTT {A B : Prop} (h : A) : if true = true then A else B := iteT h
theorem iFF {A B : Prop} (h : B) : if false = true then A else B := iteF h
theorem iNTT {A B : Prop} (h : B) : if (!true) = true then A else B := iteF h
theorem iNFF {A B : Prop} (h : A) : if (!false) = true then A else B := iteT h
theorem iEx {α : Sort _} {p : α → Prop} (w : α) (h : p w) : ∃ x, p x := ⟨w, h⟩
theorem iSetL {p : Addr} {xs ys : List V} {i : Int} {j : Nat} {v : V} {Q : Hp → Prop} (h : H p = some (.lst xs)) (hj : ixN xs.length i = some j) (e : xs.set j v = ys) (k : Q (upd H p (.lst ys))) : rSetL (.ref p) (.int i) v H Q :=
  ⟨p, xs, i, j, rfl, rfl, h, hj, (by rw [e]; exact k)⟩
theorem iNoPart {Q : Option Int → Hp → Prop} (h : Q none H) : tNoPart σ H Q := h
theorem iPart {Q : Option Int → Hp → Prop} (h : te σ H fun x H1 => ∃ i, x = .int i ∧ Q (some i) H1) : tPart te σ H Q := h
theorem pe_strS {X : Cx} {x : Str} {l : List Nat} {j : Nat} {pos : Pos} (h : x = S l) : PE X (.Constant (.str x) j pos) (tC (.str (S l))) := h ▸ pe_str
theorem iSFld {tv : TE} {f : Str} (h : tv σ H fun y H1 => ta σ H1 fun x H2 => ∃ a C dx fs, x = .ref a ∧ H2 a = some (.ins C dx fs) ∧ Cls K C ∧ NoAttr K C f ∧ fs.length < 1000 ∧ D.nx σ (upd H2 a (.ins C dx (putF f y fs)))) : sFld K ta tv f D σ H := h
theorem eSFld {a C dx : Addr} {fs fs' : List (Str × V)} {f : Str} {y : V} (e1 : H a = some (.ins C dx fs)) (c : Cls K C) (n : NoAttr K C f) (hl : fs.length < 1000) (ep : putF f y fs = fs') (h : D.nx σ (upd H a (.ins C dx fs'))) :
    ∃ (b C dx : Addr) (gs : List (Str × V)), V.ref a = .ref b ∧ H b = some (.ins C dx gs) ∧ Cls K C ∧ NoAttr K C f ∧ gs.length < 1000 ∧ D.nx σ (upd H b (.ins C dx (putF f y gs))) := ⟨a, C, dx, fs, rfl, e1, c, n, hl, by rw [ep]; exact h⟩
theorem iCon {f : Str} (h : ta σ H fun x H1 => ∃ a C dx fs v u, x = .ref a ∧ H1 a = some (.ins C dx fs) ∧ Cls K C ∧ Con K C f v u ∧ fs.lookup f = none ∧ Q v H1) : tCon K ta f σ H Q := h
theorem iProp {C : Addr} {sp : Sp} {dvs : List V} {E : XK} (h : ta σ H fun x H1 => ∃ a dx fs, x = .ref a ∧ H1 a = some (.ins C dx fs) ∧ sp (.ref a :: dvs) H1 Q E) : tProp C sp dvs E ta σ H Q := h
theorem iMeth {C : Addr} {m : Str} {sp : Sp} {dvs : List V} {E : XK} {t : TA} (h : ta σ H fun x H1 => ∃ a dx fs, x = .ref a ∧ H1 a = some (.ins C dx fs) ∧ fs.lookup m = none ∧ t σ H1 fun vs H2 => sp (x :: (vs ++ dvs)) H2 Q E) : tMeth C m sp dvs E ta t σ H Q := h
theorem iCall0 {sp : Sp} {E : XK} {ts : TA} (h : ts σ H fun vs H1 => sp vs H1 Q E) : tCall sp [] E ts σ H Q := by
  have e : (fun (vs : List V) (H1 : Hp) => sp (vs ++ []) H1 Q E) = fun vs H1 => sp vs H1 Q E := by
    funext vs H1
    rw [List.append_nil]
  show ts σ H fun vs H1 => sp (vs ++ []) H1 Q E
  rw [e]
  exact h
theorem iMeth0 {C : Addr} {m : Str} {sp : Sp} {E : XK} {t : TA} (h : ta σ H fun x H1 => ∃ a dx fs, x = .ref a ∧ H1 a = some (.ins C dx fs) ∧ fs.lookup m = none ∧ t σ H1 fun vs H2 => sp (x :: vs) H2 Q E) : tMeth C m sp [] E ta t σ H Q := by
  have e : (fun (x : V) (H1 : Hp) => ∃ a dx fs, x = .ref a ∧ H1 a = some (.ins C dx fs) ∧ fs.lookup m = none ∧ t σ H1 fun vs H2 => sp (x :: (vs ++ [])) H2 Q E) = fun x H1 => ∃ a dx fs, x = .ref a ∧ H1 a = some (.ins C dx fs) ∧ fs.lookup m = none ∧ t σ H1 fun vs H2 => sp (x :: vs) H2 Q E := by
    funext x H1
    simp only [List.append_nil]
  show ta σ H fun (x : V) (H1 : Hp) => ∃ a dx fs, x = .ref a ∧ H1 a = some (.ins C dx fs) ∧ fs.lookup m = none ∧ t σ H1 fun vs H2 => sp (x :: (vs ++ [])) H2 Q E
  rw [e]
  exact h
/-- here the walk stands still -/
def Stop (p : Prop) : Prop := p
/-! while, by an invariant -/
def Less (W : Nat → L2.St → Hp → Prop) (m : Nat) : L2.St → Hp → Prop := fun σ' H' => ∃ m', m' < m ∧ W m' σ' H'
def WB (W : Nat → L2.St → Hp → Prop) (m : Nat) (tb : TS) (D : Ends) (b : Bool) (σ : L2.St) (H1 : Hp) : Prop :=
  if b = true then ∃ N : L2.St → Hp → Prop, (∀ σ' H', N σ' H' → ∃ m', m' < m ∧ W m' σ' H') ∧ tb { D with nx := N, ct := N, bk := D.nx } σ H1 else D.nx σ H1
theorem iWT {W : Nat → L2.St → Hp → Prop} {m : Nat} {tb : TS} (h : tb { nx := Less W m, rt := D.rt, bk := D.nx, ct := Less W m } σ H) : WB W m tb D true σ H := iteT ⟨Less W m, fun _ _ z => z, h⟩
theorem iWF {W : Nat → L2.St → Hp → Prop} {m : Nat} {tb : TS} (h : D.nx σ H) : WB W m tb D false σ H := iteF h
theorem iWD {P : Prop} [Decidable P] {W : Nat → L2.St → Hp → Prop} {m : Nat} {tb : TS} (h1 : P → tb { nx := Less W m, rt := D.rt, bk := D.nx, ct := Less W m } σ H) (h2 : ¬ P → D.nx σ H) : WB W m tb D (decide P) σ H := by
  by_cases h : P
  · rw [decide_eq_true h]
    exact iWT (h1 h)
  · rw [decide_eq_false h]
    exact iWF (h2 h)
theorem iWDN {P : Prop} [Decidable P] {W : Nat → L2.St → Hp → Prop} {m : Nat} {tb : TS} (h1 : ¬ P → tb { nx := Less W m, rt := D.rt, bk := D.nx, ct := Less W m } σ H) (h2 : P → D.nx σ H) : WB W m tb D (!decide P) σ H := by
  by_cases h : P
  · rw [decide_eq_true h]
    exact iWF (h2 h)
  · rw [decide_eq_false h]
    exact iWT (h1 h)
theorem while_w {c : TT} {tb : TS} (W : Nat → L2.St → Hp → Prop) (h0 : ∃ m, W m σ H) (hs : ∀ m σ H, W m σ H → c σ H fun b H1 => WB W m tb D b σ H1) : tWhile c tb D σ H := ⟨W, h0, hs⟩
/-! heaps -/
theorem upd_old {p x : Addr} {o u : HO} (hp : H p = none) (h : H x = some u) : upd H p o x = some u := by
  rw [upd_ne (ne_of_none h hp)]
  exact h
theorem upd_oth {p x : Addr} {o u : HO} (hp : x ≠ p) (h : H x = some u) : upd H p o x = some u := by rw [upd_ne hp]; exact h
theorem Same.get {H' : Hp} {x : Addr} {u : HO} (s : Same H H') (h : H x = some u) : H' x = some u := s _ _ h
/-- all but the listed stand as they stood -/
def Fr (L : List Addr) (H H' : Hp) : Prop := ∀ x u, x ∉ L → H x = some u → H' x = some u
theorem Fr.get {H' : Hp} {L : List Addr} {x : Addr} {u : HO} (s : Fr L H H') (hx : x ∉ L) (h : H x = some u) : H' x = some u := s _ _ hx h
theorem Fr.refl (L : List Addr) (H : Hp) : Fr L H H := fun _ _ _ h => h
theorem Fr.trans {L : List Addr} {H H1 H2 : Hp} (a : Fr L H H1) (b : Fr L H1 H2) : Fr L H H2 := fun x u n h => b x u n (a x u n h)
theorem Fr.of_same {L : List Addr} {H H1 : Hp} (a : Same H H1) : Fr L H H1 := fun x u _ h => a x u h
theorem Fr.upd_in {L : List Addr} {H : Hp} {p : Addr} {o : HO} (hp : p ∈ L) : Fr L H (upd H p o) := fun x u n h => upd_oth (fun z => n (z ▸ hp)) h
theorem Fr.upd_new {L : List Addr} {H : Hp} {p : Addr} {o : HO} (hp : H p = none) : Fr L H (upd H p o) := fun x u _ h => upd_old hp h
theorem Fr.mono {L M : List Addr} {H H1 : Hp} (a : Fr L H H1) (h : ∀ x ∈ L, x ∈ M) : Fr M H H1 := fun x u n e => a x u (fun z => n (h x z)) e
theorem Fr.in0 {L : List Addr} {H : Hp} {p : Addr} {o : HO} : Fr (p :: L) H (upd H p o) := Fr.upd_in List.mem_cons_self
theorem Fr.in1 {L : List Addr} {H : Hp} {p q : Addr} {o : HO} : Fr (q :: p :: L) H (upd H p o) := Fr.upd_in (List.mem_cons_of_mem _ List.mem_cons_self)
theorem Fr.in2 {L : List Addr} {H : Hp} {p q r : Addr} {o : HO} : Fr (q :: r :: p :: L) H (upd H p o) := Fr.upd_in (List.mem_cons_of_mem _ (List.mem_cons_of_mem _ List.mem_cons_self))
theorem Fr.wk {L : List Addr} {H H1 : Hp} {p : Addr} (h : Fr L H H1) : Fr (p :: L) H H1 := h.mono fun _ hx => List.mem_cons_of_mem _ hx
theorem Fr.wk1 {H H1 : Hp} {p q : Addr} (h : Fr [p] H H1) : Fr [p, q] H H1 := h.mono fun x hx => by
  rw [List.mem_singleton] at hx
  subst hx
  exact List.mem_cons_self
theorem Same.upd_new {H : Hp} {p : Addr} {o : HO} (hp : H p = none) : Same H (upd H p o) := fun x u h => upd_old hp h
theorem Same.tr {H H1 H2 : Hp} (a : Same H H1) (b : Same H1 H2) : Same H H2 := fun x u h => b x u (a x u h)
theorem Fr.same {H H1 : Hp} (a : Fr [] H H1) : Same H H1 := fun x u h => a x u (List.not_mem_nil) h
theorem Fr.none {L : List Addr} {H H1 : Hp} {x : Addr} (a : Fr L H H1) (hx : x ∉ L) (h : H1 x = none) : H x = none := by
  cases e : H x with
  | none => rfl
  | some u => rw [a x u hx e] at h; cases h
end
end Vk
/-! the walk -/
section
open Vk L2
local macro_rules | `(tactic| walk_at "lk") => `(tactic| first
  | assumption
  | exact upd_same
  | (refine upd_old (by assumption) ?_; walk_at "lk")
  | (refine upd_oth (by first | assumption | (apply Ne.symm; assumption)) ?_; walk_at "lk")
  | (refine Same.get (by assumption) ?_; walk_at "lk"))
example {H : L2.Hp} {a p : PySem.Addr} {o u : L2.HO} (h : H a = some u) (hp : H p = none) : L2.upd H p o a = some u := by walk_at "lk"
end
set_option Elab.async false
set_option linter.all false
set_option maxRecDepth 100000
set_option maxHeartbeats 4000000
namespace Vk
open PySem PySem.Spec PyProof.Rows L2
/-! V1: texts as lists of signs -/
theorem S_le {l : List Nat} (h : l.length ≤ 100000) : (S l).length ≤ sizeLine := by rw [S_len, sizeLine_eq]; omega
def rAddS : R2 := fun x y H Q => ∃ a b : List Nat, x = .str (S a) ∧ y = .str (S b) ∧ a.length + b.length ≤ 100000 ∧ Q (.str (S (a ++ b))) H
theorem op_addS {X : Cx} : OpR X (binaryOp .Add) rAddS := by
  intro pins s σ H x y v u Q I rx ry h
  obtain ⟨a, b, rfl, rfl, hz, q⟩ := h
  refine op_add_str pins s σ H _ _ v u Q I rx ry ⟨S a, S b, rfl, rfl, ?_, ?_⟩
  · rw [S_len, S_len, sizeLine_eq]; omega
  · rw [S_app]; exact q
def rLenS1 : List V → Hp → VK → Prop := fun xs H Q => ∃ l : List Nat, xs = [.str (S l)] ∧ l.length ≤ 100000 ∧ Q (.int (l.length : Nat)) H
theorem call_lenS {X : Cx} : CallR X (.builtin "len") rLenS1 := by
  intro pins s σ H xs us Q I r h
  obtain ⟨l, rfl, hz, q⟩ := h
  refine call_len_str pins s σ H _ us Q I r ⟨S l, rfl, S_le hz, ?_⟩
  rw [S_len]
  exact q
def rInS (neg : Bool) : R2 := fun x y H Q => ∃ (c : Nat) (l : List Nat), x = .str (S [c]) ∧ y = .str (S l) ∧ Q (.bl (if neg then !decide (c ∈ l) else decide (c ∈ l))) H
theorem op_inS {X : Cx} : OpR X (compareOp .In) (rInS false) := by
  intro pins s σ H x y v u Q I rx ry h
  obtain ⟨c, l, rfl, rfl, q⟩ := h
  exact op_in_sign pins s σ H _ _ v u Q I rx ry ⟨c, S l, rfl, rfl, by simpa [S_cps] using q⟩
theorem op_notInS {X : Cx} : OpR X (compareOp .NotIn) (rInS true) := by
  intro pins s σ H x y v u Q I rx ry h
  obtain ⟨c, l, rfl, rfl, q⟩ := h
  exact op_notIn_sign pins s σ H _ _ v u Q I rx ry ⟨c, S l, rfl, rfl, by simpa [S_cps] using q⟩
/-! the place of a sign -/
def n1 (l : List Nat) (c : Nat) : Nat := (l.takeWhile (· != c)).length
theorem n1_le (l : List Nat) (c : Nat) : n1 l c ≤ l.length := (List.takeWhile_prefix _).length_le
theorem n1_nil (c : Nat) : n1 [] c = 0 := rfl
theorem n1_cons (x : Nat) (l : List Nat) (c : Nat) : n1 (x :: l) c = if x = c then 0 else n1 l c + 1 := by
  unfold n1
  rw [List.takeWhile_cons]
  by_cases h : x = c
  · rw [if_pos h]
    simp [h]
  · rw [if_neg h]
    simp [h]
theorem n1_mem {l : List Nat} {c : Nat} : c ∈ l ↔ n1 l c < l.length := by
  induction l with
  | nil => simp [n1]
  | cons x r ih =>
    rw [n1_cons, List.mem_cons, List.length_cons]
    by_cases h : x = c
    · rw [if_pos h]
      simp [h]
    · rw [if_neg h]
      have h2 : ¬ c = x := fun z => h z.symm
      simp only [h2, false_or, ih]
      omega
theorem n1_not {l : List Nat} {c : Nat} (h : c ∉ l) : n1 l c = l.length := by
  have h1 := n1_le l c
  have h2 : ¬ n1 l c < l.length := fun z => h (n1_mem.mpr z)
  omega
theorem n1_at {l : List Nat} {c : Nat} (h : c ∈ l) : l[n1 l c]? = some c := by
  induction l with
  | nil => cases h
  | cons x r ih =>
    rw [n1_cons]
    by_cases hx : x = c
    · rw [if_pos hx, hx]
      rfl
    · rw [if_neg hx, List.getElem?_cons_succ]
      refine ih ?_
      rcases List.mem_cons.mp h with h | h
      · exact absurd h.symm hx
      · exact h
theorem n1_before {l : List Nat} {c k : Nat} (h : k < n1 l c) : l[k]? ≠ some c := by
  induction l generalizing k with
  | nil => simp
  | cons x r ih =>
    rw [n1_cons] at h
    by_cases hx : x = c
    · rw [if_pos hx] at h
      omega
    · rw [if_neg hx] at h
      cases k with
      | zero => simpa using hx
      | succ k =>
        rw [List.getElem?_cons_succ]
        exact ih (by omega)
theorem n1_eq {l : List Nat} {c k : Nat} (h : l[k]? = some c) (hb : ∀ j, j < k → l[j]? ≠ some c) : n1 l c = k := by
  have hm : c ∈ l := List.mem_of_getElem? h
  have h1 := n1_at hm
  rcases Nat.lt_trichotomy (n1 l c) k with h2 | h2 | h2
  · exact absurd h1 (hb _ h2)
  · exact h2
  · exact absurd h (n1_before h2)
theorem at_one (l : List Nat) (c i : Nat) : StrLaws.At (S l) (S [c]) (S l).length i ↔ l[i]? = some c := by
  have h := StrLaws.subAt_one (S l) c i
  rw [show (⟨#[c]⟩ : Str) = S [c] from rfl] at h
  rw [S_cps] at h
  exact h
theorem findS (l : List Nat) (c : Nat) : Txt.find (S l) (S [c]) = if c ∈ l then (n1 l c : Int) else -1 := by
  unfold Txt.find
  rcases StrLaws.occ_head (S l) (S [c]) 1 (Nat.le_refl 1) with ⟨h0, hn⟩ | ⟨i, r, h0, hi, hn⟩
  · rw [h0]
    have hc : c ∉ l := fun hm => by
      obtain ⟨j, hj⟩ := List.getElem?_of_mem hm
      exact hn j ((at_one l c j).mpr hj)
    rw [if_neg hc]
  · rw [h0]
    have h1 := (at_one l c i).mp hi
    rw [if_pos (List.mem_of_getElem? h1), n1_eq h1 fun j hj e => hn j hj ((at_one l c j).mpr e)]
theorem startsS (l : List Nat) (c : Nat) : Txt.startswith (S l) (S [c]) = decide (l[0]? = some c) := by
  have h := at_one l c 0
  unfold StrLaws.At at h
  unfold Txt.startswith
  rw [Bool.eq_iff_iff, Bool.and_eq_true, decide_eq_true_eq, decide_eq_true_eq]
  exact h
theorem partS (l : List Nat) (c : Nat) : (Txt.partition (S l) (S [c])).1 = S (l.take (n1 l c)) := by
  have ey : TL.tl (S [c]) = c :: [] := by simp [TL.tl, S]
  by_cases h : c ∈ l
  · have h1 := n1_at h
    have hlt : n1 l c < l.length := n1_mem.mp h
    have e : S l = S (l.take (n1 l c)) ++ S [c] ++ S (l.drop (n1 l c + 1)) := by
      rw [S_app, S_app]
      congr 1
      have e2 : l.drop (n1 l c) = c :: l.drop (n1 l c + 1) := by
        rw [List.drop_eq_getElem_cons hlt]
        rw [List.getElem?_eq_getElem hlt] at h1
        rw [Option.some.inj h1]
      rw [List.append_assoc, List.singleton_append, ← e2, List.take_append_drop]
    have hno : c ∉ TL.tl (S (l.take (n1 l c))) := by
      have : TL.tl (S (l.take (n1 l c))) = l.take (n1 l c) := by simp [TL.tl, S]
      rw [this]
      intro hm
      obtain ⟨j, hj⟩ := List.getElem?_of_mem hm
      have hj2 : j < n1 l c := by
        have := (List.getElem?_eq_some_iff.mp hj).1
        rw [List.length_take] at this
        omega
      rw [List.getElem?_take_of_lt hj2] at hj
      exact n1_before hj2 hj
    have q := TL.partition_app (y := S [c]) ey (a := S (l.take (n1 l c))) (b := S (l.drop (n1 l c + 1))) hno
    rw [← e] at q
    rw [q]
  · have hno : c ∉ TL.tl (S l) := by
      have : TL.tl (S l) = l := by simp [TL.tl, S]
      rw [this]
      exact h
    rw [TL.partition_none ey hno, n1_not h, List.take_length]
/-! cuts -/
section
variable {H : Hp} {Q : VK} {l : List Nat} {i j : Int} {m n : Nat}
theorem iSlTo (hz : l.length ≤ 100000) (e : i = (n : Int)) (h : Q (.str (S (l.take n))) H) : rSlS (.str (S l)) none (some i) H Q := by
  subst e
  refine ⟨S l, rfl, S_le hz, ?_⟩
  rw [S_to]
  exact h
theorem iSlFrom (hz : l.length ≤ 100000) (e : i = (n : Int)) (h : Q (.str (S (l.drop n))) H) : rSlS (.str (S l)) (some i) none H Q := by
  subst e
  refine ⟨S l, rfl, S_le hz, ?_⟩
  rw [S_from]
  exact h
theorem S_mid (l : List Nat) (m n : Nat) : cutS (S l) (some (m : Int)) (some (n : Int)) = S ((l.take n).drop m) := by
  rw [S_cut]
  have e1 : HT.sIx l.length 0 (some (m : Int)) = min m l.length := by
    have q := S_from l m
    unfold HT.sIx
    simp only []
    split
    · omega
    · omega
  have e2 : HT.sIx l.length l.length (some (n : Int)) = min n l.length := by
    unfold HT.sIx
    simp only []
    split
    · omega
    · omega
  rw [e1, e2]
  congr 1
  rw [List.drop_take]
  by_cases h : m ≤ l.length
  · rw [Nat.min_eq_left h]
    by_cases h2 : n ≤ l.length
    · rw [Nat.min_eq_left h2]
    · rw [Nat.min_eq_right (Nat.le_of_not_le h2)]
      have h3 : (l.drop m).length = l.length - m := List.length_drop
      rw [List.take_of_length_le (Nat.le_of_eq h3), List.take_of_length_le (by omega)]
  · rw [Nat.min_eq_right (Nat.le_of_not_le h), List.drop_of_length_le (Nat.le_refl _), List.drop_of_length_le (Nat.le_of_not_le h)]
    simp
theorem iSlMid (hz : l.length ≤ 100000) (e1 : i = (m : Int)) (e2 : j = (n : Int)) (h : Q (.str (S ((l.take n).drop m))) H) : rSlS (.str (S l)) (some i) (some j) H Q := by
  subst e1 e2
  refine ⟨S l, rfl, S_le hz, ?_⟩
  rw [S_mid]
  exact h
end
theorem iAddS {a b : List Nat} {H : Hp} {Q : VK} (hz : a.length + b.length ≤ 100000) (h : Q (.str (S (a ++ b))) H) : rAddS (.str (S a)) (.str (S b)) H Q := ⟨a, b, rfl, rfl, hz, h⟩
theorem iLenS1 {l : List Nat} {H : Hp} {Q : VK} (hz : l.length ≤ 100000) (h : Q (.int (l.length : Nat)) H) : rLenS1 [.str (S l)] H Q := ⟨l, rfl, hz, h⟩
theorem iInS {c : Nat} {l : List Nat} {H : Hp} {Q : VK} (h : Q (.bl (decide (c ∈ l))) H) : rInS false (.str (S [c])) (.str (S l)) H Q := ⟨c, l, rfl, rfl, by simpa using h⟩
theorem iNotInS {c : Nat} {l : List Nat} {H : Hp} {Q : VK} (h : Q (.bl (!decide (c ∈ l))) H) : rInS true (.str (S [c])) (.str (S l)) H Q := ⟨c, l, rfl, rfl, by simpa using h⟩
def rFindS : V → List V → Hp → VK → Prop := fun x xs H Q => ∃ (l : List Nat) (c : Nat), x = .str (S l) ∧ xs = [.str (S [c])] ∧ Q (.int (if c ∈ l then (n1 l c : Int) else -1)) H
theorem mt_findS {X : Cx} : MtR X "str.find" rFindS := by
  intro pins s σ H x xs v us Q I rx rs h
  obtain ⟨l, c, rfl, rfl, q⟩ := h
  exact mt_find pins s σ H _ _ v us Q I rx rs ⟨_, _, rfl, rfl, by rw [findS]; exact q⟩
def rStartS : V → List V → Hp → VK → Prop := fun x xs H Q => ∃ (l : List Nat) (c : Nat), x = .str (S l) ∧ xs = [.str (S [c])] ∧ Q (.bl (decide (l[0]? = some c))) H
theorem mt_startS {X : Cx} : MtR X "str.startswith" rStartS := by
  intro pins s σ H x xs v us Q I rx rs h
  obtain ⟨l, c, rfl, rfl, q⟩ := h
  exact mt_startswith pins s σ H _ _ v us Q I rx rs ⟨_, _, rfl, rfl, by rw [startsS]; exact q⟩
def rPartS : V → List V → Hp → VK → Prop := fun x xs H Q => ∃ (l : List Nat) (c : Nat), x = .str (S l) ∧ xs = [.str (S [c])] ∧ l.length ≤ 100000 ∧ ∀ p, H p = none → ∀ y z : V, Q (.ref p) (upd H p (.tup [.str (S (l.take (n1 l c))), y, z]))
theorem mt_partS {X : Cx} : MtR X "str.partition" rPartS := by
  intro pins s σ H x xs v us Q I rx rs h
  obtain ⟨l, c, rfl, rfl, hz, q⟩ := h
  exact mt_partition pins s σ H _ _ v us Q I rx rs ⟨_, _, rfl, rfl, rfl, S_le hz, fun p hp => by rw [partS]; exact q p hp _ _⟩
theorem iFindS {c : Nat} {l : List Nat} {H : Hp} {Q : VK} (h : Q (.int (if c ∈ l then (n1 l c : Int) else -1)) H) : rFindS (.str (S l)) [.str (S [c])] H Q := ⟨l, c, rfl, rfl, h⟩
theorem iFindYes {c : Nat} {l : List Nat} {H : Hp} {Q : VK} (hc : c ∈ l) (h : Q (.int (n1 l c : Nat)) H) : rFindS (.str (S l)) [.str (S [c])] H Q := iFindS (by rw [if_pos hc]; exact h)
theorem iFindNo {c : Nat} {l : List Nat} {H : Hp} {Q : VK} (hc : ¬ c ∈ l) (h : Q (.int (-1)) H) : rFindS (.str (S l)) [.str (S [c])] H Q := iFindS (by rw [if_neg hc]; exact h)
theorem iStartS {c : Nat} {l : List Nat} {H : Hp} {Q : VK} (h : Q (.bl (decide (l[0]? = some c))) H) : rStartS (.str (S l)) [.str (S [c])] H Q := ⟨l, c, rfl, rfl, h⟩
theorem iPartS {c : Nat} {l : List Nat} {H : Hp} {Q : VK} (hz : l.length ≤ 100000) (h : ∀ p, H p = none → ∀ y z : V, Q (.ref p) (upd H p (.tup [.str (S (l.take (n1 l c))), y, z]))) : rPartS (.str (S l)) [.str (S [c])] H Q := ⟨l, c, rfl, rfl, hz, h⟩
theorem inV_S (t : List Nat) : ∀ us : List (List Nat), inV (.str (S t)) (us.map fun l => V.str (S l)) = decide (t ∈ us)
  | [] => rfl
  | u :: r => by
    have ih := inV_S t r
    unfold inV at ih ⊢
    rw [List.map_cons, List.any_cons, ih]
    have e : eqV (V.str (S u)) (V.str (S t)) = decide (t = u) := by
      show (S u == S t) = _
      by_cases h : t = u
      · subst h
        simp
      · have h2 : S u ≠ S t := fun e => h (S_inj.mp e).symm
        rw [beq_eq_false_iff_ne.mpr h2, decide_eq_false h]
    rw [e, Bool.eq_iff_iff]
    simp
/-- a text among written texts -/
theorem iInL {K : PySem.W.Frag} {p : Addr} {t : List Nat} {us : List (List Nat)} {xs : List V} {H : Hp} {Q : VK} (hq : SqL K H p xs ∨ SqT K H p xs) (hx : xs = us.map fun l => V.str (S l)) (h : Q (.bl (decide (t ∈ us))) H) : rIn K false (.str (S t)) (.ref p) H Q := by
  subst hx
  refine ⟨p, _, rfl, hq, rfl, ?_, ?_⟩
  · rw [List.all_map]
    simp [flatV]
  · rw [if_neg Bool.false_ne_true, inV_S]
    exact h
theorem iNInL {K : PySem.W.Frag} {p : Addr} {t : List Nat} {us : List (List Nat)} {xs : List V} {H : Hp} {Q : VK} (hq : SqL K H p xs ∨ SqT K H p xs) (hx : xs = us.map fun l => V.str (S l)) (h : Q (.bl (!decide (t ∈ us))) H) : rIn K true (.str (S t)) (.ref p) H Q := by
  subst hx
  refine ⟨p, _, rfl, hq, rfl, ?_, ?_⟩
  · rw [List.all_map]
    simp [flatV]
  · rw [if_pos rfl, inV_S]
    exact h
end Vk
set_option Elab.async false
set_option linter.all false
set_option maxRecDepth 100000
set_option maxHeartbeats 4000000
namespace Vk
open PySem PySem.Spec PyProof.Rows L2
/-! V2: isinstance -/
section
variable {K : PySem.W.Frag} {H : Hp} {Q : VK}
theorem isi_int_int {i : Int} (h : Q (.bl true) H) : rIsi K [.int i, .ty "int"] H Q := ⟨_, _, _, _, true, rfl, .ty "int", .base (.int i), rfl, h⟩
theorem isi_int_bool {i : Int} (h : Q (.bl false) H) : rIsi K [.int i, .ty "bool"] H Q := ⟨_, _, _, _, false, rfl, .ty "bool", .base (.int i), rfl, h⟩
theorem isi_int_str {i : Int} (h : Q (.bl false) H) : rIsi K [.int i, .ty "str"] H Q := ⟨_, _, _, _, false, rfl, .ty "str", .base (.int i), rfl, h⟩
theorem isi_str_str {z : Str} (h : Q (.bl true) H) : rIsi K [.str z, .ty "str"] H Q := ⟨_, _, _, _, true, rfl, .ty "str", .base (.str z), rfl, h⟩
theorem isi_str_int {z : Str} (h : Q (.bl false) H) : rIsi K [.str z, .ty "int"] H Q := ⟨_, _, _, _, false, rfl, .ty "int", .base (.str z), rfl, h⟩
theorem isi_str_bool {z : Str} (h : Q (.bl false) H) : rIsi K [.str z, .ty "bool"] H Q := ⟨_, _, _, _, false, rfl, .ty "bool", .base (.str z), rfl, h⟩
theorem isi_bl_bool {b : Bool} (h : Q (.bl true) H) : rIsi K [.bl b, .ty "bool"] H Q := ⟨_, _, _, _, true, rfl, .ty "bool", .base (.bl b), rfl, h⟩
theorem isi_bl_int {b : Bool} (h : Q (.bl true) H) : rIsi K [.bl b, .ty "int"] H Q := ⟨_, _, _, _, true, rfl, .ty "int", .base (.bl b), rfl, h⟩
theorem isi_bl_str {b : Bool} (h : Q (.bl false) H) : rIsi K [.bl b, .ty "str"] H Q := ⟨_, _, _, _, false, rfl, .ty "str", .base (.bl b), rfl, h⟩
end
end Vk
set_option Elab.async false
set_option linter.all false
set_option maxRecDepth 100000
set_option maxHeartbeats 4000000
namespace Vk
open PySem PySem.Spec PyProof.Rows L2
/-! V3: comprehensions, loops, texts joined -/
theorem SqL.off {K : PySem.W.Frag} {H1 H2 : Hp} {a D : Addr} {xs : List V} (h : SqL K H1 a xs) (hD : H1 D = none) (off : ∀ b, b ≠ D → H2 b = H1 b) : SqL K H2 a xs := by
  rcases h with h | h
  · refine .inl ?_
    rcases h with h | ⟨o, h⟩
    · exact .inl ((off a (ne_of_none h hD)).trans h)
    · exact .inr ⟨o, (off a (ne_of_none h hD)).trans h⟩
  · exact .inr h
theorem SqL.same {K : PySem.W.Frag} {H1 H2 : Hp} {a : Addr} {xs : List V} (h : SqL K H1 a xs) (s : Same H1 H2) : SqL K H2 a xs := by
  rcases h with h | h
  · refine .inl ?_
    rcases h with h | ⟨o, h⟩
    · exact .inl (s _ _ h)
    · exact .inr ⟨o, s _ _ h⟩
  · exact .inr h
section
variable {K : PySem.W.Frag} {σ : L2.St} {H H1 : Hp} {Q : VK} {te tl : TE} {tt : TT} {vs : List Nat} {g : TG} {ta : TA}
/-- the loop of a comprehension, for the walk to stop at -/
def LcG (J : It) (g : TG) (tt : TT) (te : TE) (vs : List Nat) (σ : L2.St) (H1 : Hp) (D : Addr) (Q : VK) : Prop := ∃ W : Nat → Nat → Hp → Prop, (∃ m, W 0 m (upd H1 D (.lst []))) ∧ ∀ i m H, W i m H →
  (J.stop i H ∧ Q (.ref D) H) ∨ (J.go i H ∧ ∃ Nx : Hp → Prop, (∀ H', Nx H' → ∃ m', m' < m ∧ W (i + 1) m' H') ∧ ∀ x H', J.yld i H x H' → g x (wipe σ vs) H' fun σ2 H2 => wipe σ2 vs = wipe σ vs ∧ tt σ2 H2 fun b H3 =>
    if b = true then te σ2 H3 fun y H4 => ∃ acc, H4 D = some (.lst acc) ∧ acc.length < sizeLine ∧ Nx (upd H4 D (.lst (acc ++ [y]))) else Nx H3)
theorem iLcL (h : tl σ H fun x H1 => ∃ a, x = .ref a ∧ (∃ xs, SqL K H1 a xs) ∧ ∀ D, H1 D = none → LcG (Itl K a) g tt te vs σ H1 D Q) : tLc (iList K tl) g tt te vs σ H Q := h
theorem iLcS (h : tl σ H fun x H1 => ∃ z, x = .str z ∧ ∀ D, H1 D = none → LcG (Its z) g tt te vs σ H1 D Q) : tLc (iStr tl) g tt te vs σ H Q := h
theorem iLcR1 (h : ta σ H fun ws H1 => ∃ j : Int, ws = [.int j] ∧ -(2 ^ 62) ≤ j ∧ j < 2 ^ 62 ∧ ∀ D, H1 D = none → LcG (Itr 0 j.toNat) g tt te vs σ H1 D Q) : tLc (iRng1 ta) g tt te vs σ H Q := h
/-- a comprehension over a list that stands still, nothing else done -/
theorem lcg_list {a D : Addr} {xs : List V} {j : Nat} (p : V → Bool) (v : V → V) (hl : xs.length ≤ 4000) (hx : SqL K H1 a xs) (hD : H1 D = none)
    (hw : ∀ x, wipe ((wipe σ vs).set j (some x)) vs = wipe σ vs)
    (ht : ∀ x ∈ xs, ∀ (H2 : Hp) (Q : Bool → Hp → Prop), (∀ b, b ≠ D → H2 b = H1 b) → Q (p x) H2 → tt ((wipe σ vs).set j (some x)) H2 Q)
    (he : ∀ x ∈ xs, p x = true → ∀ (H2 : Hp) (Q : VK), (∀ b, b ≠ D → H2 b = H1 b) → Q (v x) H2 → te ((wipe σ vs).set j (some x)) H2 Q)
    (hq : Q (.ref D) (upd H1 D (.lst ((xs.filter p).map v)))) : LcG (Itl K a) (gName j) tt te vs σ H1 D Q := by
  refine lc_it (walk_list (K := K) (a := a) (xs := xs)) (fun i H => H = upd H1 D (.lst (((xs.take i).filter p).map v))) rfl (fun i H hi e => ?_) ?_ ?_
  · subst e
    exact SqL.off hx hD fun b hb => upd_ne hb
  · rintro i x H H' hi hP ⟨rfl, hc⟩
    subst hP
    have hm : x ∈ xs := List.mem_of_getElem? hc
    have off : ∀ b, b ≠ D → (upd H1 D (.lst (((xs.take i).filter p).map v))) b = H1 b := fun b hb => upd_ne hb
    have e1 : xs.take (i + 1) = xs.take i ++ [x] := by
      rw [List.take_add_one, hc]
      rfl
    refine ⟨hw _, ht x hm _ _ off ?_⟩
    by_cases hp : p x = true
    · rw [if_pos hp]
      refine he x hm hp _ _ off ⟨_, upd_same, ?_, ?_⟩
      · rw [List.length_map, sizeLine_eq]
        have h1 := List.length_filter_le p (xs.take i)
        rw [List.length_take] at h1
        omega
      · rw [upd_upd, e1, List.filter_append, List.filter_cons_of_pos hp, List.filter_nil, List.map_append]
        rfl
    · rw [if_neg hp, e1, List.filter_append, List.filter_cons_of_neg hp, List.filter_nil, List.append_nil]
  · rintro H rfl
    rw [List.take_length]
    exact hq
/-! for -/
/-- the loop of a for, for the walk to stop at -/
def ForG (J : It) (g : TG) (tb : TS) (D : Ends) (σ : L2.St) (H1 : Hp) : Prop := ∃ W : Nat → Nat → L2.St → Hp → Prop, (∃ m, W 0 m σ H1) ∧ ∀ i m σ H, W i m σ H →
  (J.stop i H ∧ D.nx σ H) ∨ (J.go i H ∧ ∃ N : L2.St → Hp → Prop, (∀ σ' H', N σ' H' → ∃ m', m' < m ∧ W (i + 1) m' σ' H') ∧ ∀ x H', J.yld i H x H' → g x σ H' fun σ2 H2 => tb { D with nx := N, ct := N, bk := D.nx } σ2 H2)
theorem iForL {D : Ends} {tb : TS} (h : tl σ H fun x H1 => ∃ a, x = .ref a ∧ (∃ xs, SqL K H1 a xs) ∧ ForG (Itl K a) g tb D σ H1) : tFor (iList K tl) g tb D σ H := h
theorem iForS {D : Ends} {tb : TS} (h : tl σ H fun x H1 => ∃ z, x = .str z ∧ ForG (Its z) g tb D σ H1) : tFor (iStr tl) g tb D σ H := h
theorem iForR1 {D : Ends} {tb : TS} (h : ta σ H fun ws H1 => ∃ j : Int, ws = [.int j] ∧ -(2 ^ 62) ≤ j ∧ j < 2 ^ 62 ∧ ForG (Itr 0 j.toNat) g tb D σ H1) : tFor (iRng1 ta) g tb D σ H := h
theorem iForR2 {D : Ends} {tb : TS} (h : ta σ H fun ws H1 => ∃ i j : Int, ws = [.int i, .int j] ∧ (-(2 ^ 62) ≤ i ∧ i < 2 ^ 62 ∧ -(2 ^ 62) ≤ j ∧ j < 2 ^ 62) ∧ ForG (Itr i (j - i).toNat) g tb D σ H1) : tFor (iRng2 ta) g tb D σ H := h
/-- a loop over a text -/
theorem for_S {D : Ends} {tb : TS} {l : List Nat} (Pv : Nat → L2.St → Hp → Prop) (h0 : Pv 0 σ H)
    (hs : ∀ i c σ H, l[i]? = some c → Pv i σ H → g (.str (S [c])) σ H fun σ2 H2 => tb { nx := Pv (i + 1), rt := D.rt, bk := D.nx, ct := Pv (i + 1) } σ2 H2) (hd : ∀ σ H, Pv l.length σ H → D.nx σ H) : ForG (Its (S l)) g tb D σ H := by
  refine for_it walk_str Pv h0 (fun _ _ _ _ _ => trivial) ?_ ?_
  · rintro i x σ H H' hi hP ⟨rfl, c, hc, rfl⟩
    exact hs i c σ _ (S_get.mp hc) hP
  · intro σ H h
    rw [S_size] at h
    exact hd σ H h
/-- a loop over range(n) -/
theorem for_R {D : Ends} {tb : TS} {lo : Int} {n : Nat} (Pv : Nat → L2.St → Hp → Prop) (h0 : Pv 0 σ H)
    (hs : ∀ i σ H, i < n → Pv i σ H → g (.int (lo + (i : Int))) σ H fun σ2 H2 => tb { nx := Pv (i + 1), rt := D.rt, bk := D.nx, ct := Pv (i + 1) } σ2 H2) (hd : ∀ σ H, Pv n σ H → D.nx σ H) : ForG (Itr lo n) g tb D σ H :=
  for_range Pv h0 hs hd
/-- a loop over a list -/
theorem for_L {D : Ends} {tb : TS} {a : Addr} {xs : List V} (Pv : Nat → L2.St → Hp → Prop) (h0 : Pv 0 σ H) (hl : ∀ i σ H, i ≤ xs.length → Pv i σ H → SqL K H a xs)
    (hs : ∀ i x σ H, xs[i]? = some x → Pv i σ H → g x σ H fun σ2 H2 => tb { nx := Pv (i + 1), rt := D.rt, bk := D.nx, ct := Pv (i + 1) } σ2 H2) (hd : ∀ σ H, Pv xs.length σ H → D.nx σ H) : ForG (Itl K a) g tb D σ H :=
  for_list Pv h0 hl hs hd
/-- a comprehension over range(n), which may change the heap -/
theorem lcg_R {D : Addr} {n j : Nat} {lo : Int} (Pv : Nat → Hp → Prop) (h0 : Pv 0 (upd H1 D (.lst []))) (hw : ∀ x, wipe ((wipe σ vs).set j (some x)) vs = wipe σ vs)
    (hs : ∀ i H, i < n → Pv i H → tt ((wipe σ vs).set j (some (.int (lo + (i : Int))))) H fun b H3 => if b = true then te ((wipe σ vs).set j (some (.int (lo + (i : Int))))) H3 fun y H4 => ∃ acc, H4 D = some (.lst acc) ∧ acc.length < sizeLine ∧ Pv (i + 1) (upd H4 D (.lst (acc ++ [y]))) else Pv (i + 1) H3)
    (hd : ∀ H, Pv n H → Q (.ref D) H) : LcG (Itr lo n) (gName j) tt te vs σ H1 D Q := by
  refine lc_it walk_range Pv h0 (fun _ _ _ _ => trivial) ?_ hd
  rintro i x H H' hi hP ⟨rfl, rfl⟩
  exact ⟨hw _, hs i _ hi hP⟩
/-- .. over a text -/
theorem lcg_S {D : Addr} {j : Nat} {l : List Nat} (Pv : Nat → Hp → Prop) (h0 : Pv 0 (upd H1 D (.lst []))) (hw : ∀ x, wipe ((wipe σ vs).set j (some x)) vs = wipe σ vs)
    (hs : ∀ i c H, l[i]? = some c → Pv i H → tt ((wipe σ vs).set j (some (.str (S [c])))) H fun b H3 => if b = true then te ((wipe σ vs).set j (some (.str (S [c])))) H3 fun y H4 => ∃ acc, H4 D = some (.lst acc) ∧ acc.length < sizeLine ∧ Pv (i + 1) (upd H4 D (.lst (acc ++ [y]))) else Pv (i + 1) H3)
    (hd : ∀ H, Pv l.length H → Q (.ref D) H) : LcG (Its (S l)) (gName j) tt te vs σ H1 D Q := by
  refine lc_it walk_str Pv h0 (fun _ _ _ _ => trivial) ?_ ?_
  · rintro i x H H' hi hP ⟨rfl, c, hc, rfl⟩
    exact ⟨hw _, hs i c _ (S_get.mp hc) hP⟩
  · intro H h
    rw [S_size] at h
    exact hd H h
theorem iYes {Q : Bool → Hp → Prop} (h : Q true H) : tYes σ H Q := h
end
/-- what was new is forgotten -/
theorem Fr.forget {L M : List Addr} {H H' : Hp} (f : Fr M H H') (h : ∀ x ∈ M, x ∈ L ∨ H x = Option.none) : Fr L H H' := fun x u hx e => f x u (fun hm => by
  rcases h x hm with h | h
  · exact hx h
  · rw [e] at h
    cases h) e
theorem Fr.forget2 {b D : Addr} {H H' : Hp} (f : Fr [b, D] H H') (h : H D = Option.none) : Fr [b] H H' := f.forget fun x hx => by
  rcases List.mem_cons.mp hx with rfl | hx
  · exact .inl List.mem_cons_self
  · rw [List.mem_singleton] at hx
    subst hx
    exact .inr h
theorem Fr.forget1 {D : Addr} {H H' : Hp} (f : Fr [D] H H') (h : H D = Option.none) : Same H H' := (f.forget (L := []) fun x hx => by
    rw [List.mem_singleton] at hx
    subst hx
    exact .inr h).same
/-- '' joins signs -/
theorem join_S {l : List Nat} (hl : l.length ≤ 4000) : (((l.map fun c => S [c]).map (·.length)).sum + (l.map fun c => S [c]).length * (S []).length ≤ 16777216) ∧ Txt.join (S []) (l.map fun c => S [c]) = S l := by
  refine ⟨?_, join_signs _⟩
  rw [S_len, List.length_nil, Nat.mul_zero, Nat.add_zero, List.map_map]
  have e1 : l.map ((fun x : Str => x.length) ∘ fun c => S [c]) = l.map fun _ => 1 := List.map_congr_left fun c _ => S_len [c]
  rw [e1]
  have e2 : (l.map fun _ => 1).sum = l.length := by
    clear hl e1
    induction l with
    | nil => rfl
    | cons x xs ih => rw [List.map_cons, List.sum_cons, ih, List.length_cons, Nat.add_comm]
  rw [e2]
  omega
theorem iJoinS {K : PySem.W.Frag} {p : Addr} {l : List Nat} {H : Hp} {Q : VK} (hq : SqL K H p (l.map fun c => V.str (S [c]))) (hl : l.length ≤ 4000) (h : Q (.str (S l)) H) :
    ∃ (a : Str) (q : Addr) (ys : List Str), V.str (S []) = .str a ∧ [V.ref p] = [.ref q] ∧ (SqL K H q (ys.map V.str) ∨ SqT K H q (ys.map V.str)) ∧ (ys.map (·.length)).sum + ys.length * a.length ≤ 16777216 ∧ Q (.str (Txt.join a ys)) H := by
  obtain ⟨h1, h2⟩ := join_S hl
  refine ⟨S [], p, l.map fun c => S [c], rfl, rfl, .inl ?_, h1, ?_⟩
  · rw [List.map_map]
    exact hq
  · rw [h2]
    exact h
end Vk
set_option Elab.async false
set_option linter.all false
set_option maxRecDepth 100000
set_option maxHeartbeats 4000000
namespace Vk
open PySem PySem.Spec PyProof.Rows L2
theorem ns_fun {h : Heap} {a : Addr} {m m' : Str → Option Value} (x : h.Ns a m) (y : h.Ns a m') (n : Str) : m n = m' n := by
  obtain ⟨o, es, ep, ho, hd, _, f⟩ := x
  obtain ⟨o', es', ep', ho', hd', _, f'⟩ := y
  rw [ho] at ho'
  cases ho'
  rw [hd] at hd'
  cases hd'
  rw [← f, f']
/-- the local y holds this very value -/
def RawAt (X : Cx) (s : Shared) (y : Str) (u : Value) : Prop := ∃ m, s.heap.Ns X.env.locals m ∧ m y = some u
section
variable {X : Cx} {pins : List (Addr × Obj)} {σ : L2.St} {H : Hp} {s : Shared}
theorem set_raw {M : Model} {A : Around} {E : Value → Shared → Prop} {i : Nat} {x : Str} {v : V} {u : Value} {Q : Unit → Shared → Prop} (I : Inv X pins σ H s) (hN : X.N.Nodup) (hi : X.N[i]? = some x) (hk : X.env.kindOf x = some .local) (r : RelV v u)
    (h : ∀ s', Inv X pins (σ.set i (some v)) H s' → RawAt X s' x u → (∀ y w, y ≠ x → RawAt X s y w → RawAt X s' y w) → s'.toks = s.toks + 1 → Q () s') : wpAny M A (storeName X.env x u) Q E s := by
  obtain ⟨m, hn, hl⟩ := id I.loc
  have hcls : (X.env.scope.kind == .class || (X.env.scope.kind == .module && X.env.locals != X.env.globals)) = false := by rw [I.ok.kind]; rfl
  have hiσ : i < σ.length := by rw [I.len]; exact (List.getElem?_eq_some_iff.mp hi).1
  refine wpAny_storeName_local hk hn (fun h' hn' hs => ?_) hcls
  obtain ⟨oL, _, _, hoL, _⟩ := id hn
  have old : ∀ b o, X.s_0.heap.get? b = some o → b ≠ X.env.locals := fun b o e => Nat.ne_of_lt (Nat.lt_of_lt_of_le (Heap.lt_size e) I.ok.above)
  refine h _ ⟨I.ok, I.os, I.bare, ⟨fun b o e n hb hx => (hs.2 b (old b o e)).trans (I.base.keep b o e n hb hx), fun b o e n hb hx => ?_, I.base.free, fun b o e hx => ?_, I.base.tups, I.base.frzs, I.base.tbls⟩, ⟨_, hn', fun j y v' e1 e2 e3 => ?_⟩, fun y c e => ?_, I.free, I.freeC, fun p hp => ?_, fun b ob e => ?_, by simpa using I.len⟩
    ⟨_, hn', if_pos rfl⟩ (fun y w hne ⟨m2, hn2, e2⟩ => ⟨_, hn', by rw [if_neg hne, ns_fun hn hn2 y, e2]⟩) rfl
  · obtain ⟨sl, e1⟩ := I.base.slot b o e n hb hx
    exact ⟨sl, (hs.2 b (old b o e)).trans e1⟩
  · obtain ⟨o', e1⟩ := I.base.there b o e hx
    exact ⟨o', (hs.2 b (old b o e)).trans e1⟩
  · by_cases hj : j = i
    · subst hj
      rw [hi] at e1
      cases e1
      rw [List.getElem?_set_self hiσ] at e2
      cases e2
      exact ⟨u, r, .inl ⟨hk, if_pos rfl⟩⟩
    · rw [List.getElem?_set_ne (Ne.symm hj)] at e2
      obtain ⟨u', r', q⟩ := hl j y v' e1 e2 e3
      refine ⟨u', r', ?_⟩
      rcases q with ⟨k, e⟩ | ⟨k, c, e, z⟩
      · have ny : y ≠ x := fun e => hj (nodup_ix hN e1 (e ▸ hi))
        exact .inl ⟨k, (if_neg ny).trans e⟩
      · exact .inr ⟨k, c, e, z.sameBut hs (I.cne y c e)⟩
  · obtain ⟨w', z⟩ := I.cell y c e
    exact ⟨w', z.sameBut hs (I.cne y c e)⟩
  · obtain ⟨e, n, ne, nf, d⟩ := I.pin p hp
    exact ⟨(hs.2 p.1 ne).trans e, n, ne, nf, d⟩
  · refine (I.hok b ob e).stay (fun c w' hc q => (hs.2 c ?_).trans q) (fun _ q => q) fun _ _ q => q
    intro z
    subst z
    rcases hc with hc | hc
    · rw [← hc, I.free] at e
      cases e
    · rw [I.free] at hc
      cases hc
theorem raw_var {M : Model} {A : Around} {y : Str} {u : Value} {pos : Pos} {Q E : Value → Shared → Prop} (I : Inv X pins σ H s) (r : RawAt X s y u) (hk : X.env.kindOf y = some .local) (h : Q u s) (hd : (y == ("__debug__" : Str)) = false := by decide) : wpAny M A (eval (.Name y pos) X.env) Q E s := by
  obtain ⟨m, hn, hm⟩ := r
  exact wpAny_Name (wpAny_loadName_local I.ok.kind hk hn hm h) hd
end
/-! a for whose body may know that a token is out -/
section
variable {X : Cx}
theorem pst_forT {tg iter : Expr} {body : List Stmt} {wi : TI} {g : TG} {tb : TS} {pos : Pos} (hp : PassesOwn (model X.prog X.w) X.A X.env X.xe) (hc : X.calm = true) (hi : PI X tg iter wi) (hg : PG X tg g) (hb : PSsT X body tb)
    (hs : ∀ x, foldedSetIterable iter X.env x = pure x := by intro _; rfl) : PST X (.For tg iter body [] pos) (tFor wi g tb) := by
  intro pins s σ H D h0 I h
  refine wpAny_For (wpAny_mono (PySem.wpAny_toks_of h0 (hi.run pins s σ H _ I h)) (fun v s1 h1 => wpAny_mono (PySem.wpAny_toks_of h1.1 h1.2) (fun itv s2 h2 => ?_) fun _ _ z => z.2) fun _ _ z => z.2) hs
  obtain ⟨k2, it, fp, tn, J, H2, e, I2, T, st2, f2, W, ⟨m0, w0⟩, turn⟩ := h2
  subst e
  have stat : ∀ {H' : Hp}, (∀ b ∈ fp, H' b = none) → ∀ b ∈ fp, FpOk X pins H' b := fun hn b hb => ⟨hn b hb, (f2 b hb).2⟩
  refine codeAny_forLoop_any (fun n s' => 1 ≤ s'.toks ∧ ∃ i σ' H', Inv X pins σ' H' s' ∧ tn i s'.heap ∧ (∀ b ∈ fp, H' b = none) ∧ W i n σ' H') ?_ m0 ⟨k2, 0, σ, H2, I2, st2, fun b hb => (f2 b hb).1, w0⟩
  rintro n s3 ⟨k3, i, σ3, H3, I3, st3, fr3, w3⟩
  rcases turn i n σ3 H3 w3 with ⟨stop, qn⟩ | ⟨go, N, hN, step⟩
  · refine wpAny_passesOwn hp (thn (T.done X rfl rfl rfl hc i pins s3 σ3 H3 X.xe I3 (stat fr3) st3 stop) fun r s4 ⟨hr, I4⟩ => ?_)
    subst hr
    exact wpAny_execs_nil ⟨σ3, H3, I4, qn⟩
  · refine wpAny_passesOwn hp (wpAny_mono (PySem.wpAny_toks_of k3 (T.item X rfl rfl rfl hc i pins s3 σ3 H3 X.xe I3 (stat fr3) st3 go)) (fun r s4 h4 => ?_) fun _ _ z => z.2)
    obtain ⟨k4, u, hr, h4⟩ := h4
    subst hr
    refine wpAny_passesOwn hp (wpAny_mono (PySem.wpAny_toks_of k4 h4) (fun _ s5 h5 => ?_) fun _ _ z => z.2)
    obtain ⟨k5, x, H5, I5, r5, y5, st5, fr5⟩ := h5
    have I5' := I5.pinned (stat fr5) (T.obj _ _ st5)
    refine wpAny_passesOwn hp (wpAny_mono (PySem.wpAny_toks_of k5 (hg.run _ s5 σ3 H5 x u _ I5' r5 (step x H5 y5))) (fun _ s6 h6 => ?_) fun _ _ z => z.2)
    obtain ⟨k6, σ6, H6, I6, q6⟩ := h6
    refine wpAny_passesOwn hp (wpAny_mono (PySem.wpAny_toks_of k6 (hb _ s6 σ6 H6 _ k6 I6 q6)) (fun f s7 q7 => ?_) fun _ _ z => z.2)
    obtain ⟨k7, q7⟩ := q7
    have again : ∀ {σ7 : L2.St} {H7 : Hp}, Inv X (pins ++ pinsAt fp s5.heap) σ7 H7 s7 → N σ7 H7 → ∃ m, m < n ∧ 1 ≤ s7.toks ∧ ∃ i σ' H', Inv X pins σ' H' s7 ∧ tn i s7.heap ∧ (∀ b ∈ fp, H' b = none) ∧ W i m σ' H' := fun {σ7 H7} I7 n7 => by
      obtain ⟨m', hm, w7⟩ := hN σ7 H7 n7
      refine ⟨m', hm, k7, i + 1, σ7, H7, I7.unpinned, T.keep _ _ _ st5 fun b hb o e => (I7.pin (b, o) (List.mem_append_right _ (List.mem_append_right _ (mem_pinsAt hb e)))).1, fun b hb => ?_, w7⟩
      obtain ⟨o, e, d⟩ := T.obj _ _ st5 b hb
      exact (I7.pin (b, o) (List.mem_append_right _ (List.mem_append_right _ (mem_pinsAt hb e)))).2.1
    cases f with
    | next => obtain ⟨σ7, H7, I7, n7⟩ := q7; exact again I7 n7
    | cont => obtain ⟨σ7, H7, I7, n7⟩ := q7; exact again I7 n7
    | brk => obtain ⟨σ7, H7, I7, q7⟩ := q7; exact ⟨σ7, H7, I7.unpinned, q7⟩
    | ret v => obtain ⟨x7, σ7, H7, I7, r7, q7⟩ := q7; exact ⟨x7, σ7, H7, I7.unpinned, r7, q7⟩
/-- letter = pool[e]; pool = pool.replace(letter, '') -/
def tPool (ip il : Nat) (te : TE) (u : TS) : TS := fun D σ H => ∃ l : List Nat, σ[ip]? = some (some (.str (S l))) ∧ l.length ≤ 1000 ∧ te σ H fun v H1 => ∃ (r c : Nat), v = .int (r : Int) ∧ l[r]? = some c ∧
  u D ((σ.set il (some (.str (S [c])))).set ip (some (.str (Txt.replace (S l) (S [c]) (S []))))) H1
theorem pss_pool {ip il : Nat} {xp xl : Str} {e : Expr} {te : TE} {rest : List Stmt} {u : TS} {j : Nat} {a1 a2 a3 a4 b1 b2 b3 b4 b5 b6 b7 : Pos} (hNd : X.N.Nodup) (hip : X.N[ip]? = some xp) (hil : X.N[il]? = some xl) (hne : ip ≠ il)
    (hvp : Vis X.env.scope xp) (hkp : X.env.kindOf xp = some .local) (hkl : X.env.kindOf xl = some .local) (he : PE X e te) (h2 : PSs X rest u)
    (hsl : PlainIx e) (dp : (xp == ("__debug__" : Str)) = false) (cp : (xp == ("__classdict__" : Str)) = false) (dl : (xl == ("__debug__" : Str)) = false)
    (hs1 : swapsWith (.Subscript (.Name xp a3) e a4) (some (.Name xl a1)) a2.line X.env = pure false := by rfl)
    (hs2 : swapsWith (.Call (.Attribute (.Name xp b3) "replace" b4) [.Name xl b5, .Constant (.str "") j b6] [] b7) (some (.Name xp b1)) b2.line X.env = pure false := by rfl) (hline : (b4.endLine == b7.line) = true := by rfl) :
    PSsT X (.Assign [.Name xl a1] (.Subscript (.Name xp a3) e a4) a2 :: .Assign [.Name xp b1] (.Call (.Attribute (.Name xp b3) "replace" b4) [.Name xl b5, .Constant (.str "") j b6] [] b7) b2 :: rest) (tPool ip il te u) := by
  intro pins s σ H D k0 I h
  obtain ⟨l, hl, hlen, h⟩ := h
  refine wpAny_execs_cons (wpAny_Assign_Name (Subscript_ (raw_name hip hvp I hl (fun u0 r0 => ?_) dp cp)) hs1)
  obtain ⟨tz, rfl⟩ := r0
  refine wpAny_mono (PySem.wpAny_toks_of k0 (he.run pins s σ H _ I h)) (fun u1 s1 h1 => ?_) fun _ _ z => z.2
  obtain ⟨k1, v, H1, I1, r1, r, c, rfl, hr, h⟩ := h1
  obtain ⟨t1, rfl⟩ := r1
  have hlt : r < l.length := (List.getElem?_eq_some_iff.mp hr).1
  have e1 : decide ((r : Int) < -(2 ^ 63 : Int)) = false := decide_eq_false (by omega)
  have e2 : decide ((r : Int) ≥ 2 ^ 63) = false := decide_eq_false (by omega)
  refine tail_any (typeIs_str s1 (S l) tz) slot_str_getitem.lookup (getItem_str (c := c) (by rw [e1, e2]; rfl) ?_ ?_) (hsl _ _)
  · obtain ⟨q, q1, q2, _⟩ := atI_get (atI_nat hr)
    rw [S_len, q1]
    exact S_get.mpr q2
  · refine set_raw (i := il) (v := .str (S [c])) (I1.tok _) hNd hil hkl ⟨_, rfl⟩ (fun s2 I2 ra ro ht => ?_)
    have ht' : s2.toks = s1.toks + 1 + 1 := ht
    have hl2 : (σ.set il (some (.str (S [c]))))[ip]? = some (some (.str (S l))) := by rw [List.getElem?_set_ne (fun z => hne z.symm)]; exact hl
    refine wpAny_execs_cons (wpAny_Assign_Name (PySem.Call_method2 rfl rfl hline (raw_name hip hvp I2 hl2 (fun u3 r3 => ?_) dp cp)) hs2)
    obtain ⟨tx, rfl⟩ := r3
    refine ⟨"str", _, F.plainAttrs_str, F.slot_str_replace, F.type_str_replace, typeIs_str _ _ _, (fun _ e => nomatch e), Calls.callWith_builtin rfl (Calls.evalArgs_plain (Calls.spliced_cons ?_))⟩
    refine raw_var I2 ra hkl (Calls.spliced_cons (Calls.Constant_str (Calls.spliced_nil ?_))) dl
    have e0 : (PySem.Str.ofString "") = S [] := by decide +kernel
    have h0 : (PySem.Str.ofString "").length = 0 := by rw [e0]; exact S_len []
    have z1 : s1.toks ≠ 0 := by omega
    have z2 : s2.toks ≠ 0 := by omega
    have z3 : s1.toks ≠ s2.toks := by omega
    refine PySem.SC.replace z1 z2 z3 ?_ (by rw [S_len, h0]; omega) fun t' k' => ?_
    · refine beq_eq_false_iff_ne.mpr fun e => ?_
      rw [e0] at e
      have e3 : [c] = [] := S_inj.mp e
      cases e3
    · rw [e0]
      exact set_raw (i := ip) (v := .str (Txt.replace (S l) (S [c]) (S []))) (I2.tok _) hNd hip hkp ⟨_, rfl⟩ (fun s4 I4 _ _ _ => h2.run pins s4 _ H1 D I4 h)
end
theorem joinL_nil (p : List Nat) (r : List (List Nat)) : TL.joinL [] (p :: r) = p ++ TL.joinL [] r := by
  cases r with
  | nil => show p = p ++ []; rw [List.append_nil]
  | cons q r => rfl
theorem spl_del {c : Nat} : ∀ (l acc : List Nat), (TL.joinL [] (TL.spl [c] 0 acc l)) = acc ++ l.filter (· != c)
  | [], acc => by
    show acc = acc ++ []
    rw [List.append_nil]
  | x :: r, acc => by
    show TL.joinL [] (if TL.pre [c] (x :: r) = true then acc :: TL.spl [c] 0 [] r else TL.spl [c] 0 (acc ++ [x]) r) = _
    have hp : TL.pre [c] (x :: r) = decide (x = c) := by
      show ([x] == [c]) = _
      by_cases h : x = c <;> simp [h]
    rw [hp]
    by_cases h : x = c
    · rw [decide_eq_true h, if_pos rfl, joinL_nil, spl_del r []]
      simp [h]
    · rw [decide_eq_false h, if_neg Bool.false_ne_true, spl_del r (acc ++ [x]), List.filter_cons_of_pos (by simpa using h)]
      simp
theorem repl_S {l : List Nat} {c : Nat} (hc : c < 256) : Txt.replace (S l) (S [c]) (S []) = S (l.filter (· != c)) := by
  have h := StrLaws.replace_one (S l) (S []) c
  rw [show (⟨#[c]⟩ : Str) = S [c] from rfl] at h
  rw [h]
  have e1 : TL.tl (S [c]) = [c] := by simp [TL.tl, S]
  have e2 : TL.tl (S l) = l := by simp [TL.tl, S]
  have e3 : TL.tl (S ([] : List Nat)) = [] := by simp [TL.tl, S]
  have q := TL.tl_join (S []) (Txt.split (S l) (S [c]))
  rw [TL.split_spl _ _ (by rw [e1]; simp) (TL.kind_ok (by simp [S, hc])), e1, e2, e3, spl_del, List.nil_append] at q
  rw [S_of (Str.join (S []) (Txt.split (S l) (S [c])))]
  congr 1
end Vk
set_option Elab.async false
set_option linter.all false
set_option maxRecDepth 100000
set_option maxHeartbeats 4000000
namespace Vk
open PySem PySem.Spec PyProof.Rows L2
section
variable {X : Cx}
/-- list(text): its signs -/
theorem call_listT (hc : X.calm = true) : CallR X (.type "list") rListT := by
  intro pins s σ H xs us Q I r q
  obtain ⟨z, ex, hz, q⟩ := q
  subst ex
  obtain ⟨u, eu, rx⟩ := vals1 r
  subst eu
  obtain ⟨t, rfl⟩ := rx
  have hz2 : z.cps.size ≤ 4000 := hz
  refine call_list_str (hn := by rw [sizeLine_eq]; omega) (I.ok.hd hc) z t fun h' tk acc c' hk he hacc => ?_
  have hS := signs_strs hacc
  have hlen : ((signsOf z).map V.str).length ≤ sizeLine := by
    rw [List.length_map]
    unfold signsOf
    rw [List.length_map, Array.length_toList, sizeLine_eq]
    omega
  refine ⟨.ref s.heap.objs.size, upd H s.heap.objs.size (.lst ((signsOf z).map V.str)), I.laid (t' := tk) hk (Nat.le_refl _)
    (show ObjOk X.prog X.w _ _ _ (.lst ((signsOf z).map V.str)) from ⟨hlen, acc.toList, c', vals_of_strs hS, by rw [Array.toArray_toList]; exact he⟩), rfl, q _ (I.hok.fresh (Nat.le_refl _))⟩
def repL (n : Nat) (l : List Nat) : List Nat := (List.replicate n l).flatten
theorem repL_len (n : Nat) (l : List Nat) : (repL n l).length = n * l.length := by
  unfold repL
  rw [List.length_flatten, List.map_replicate, List.sum_replicate_nat]
theorem fold_rep (a : Array Nat) : ∀ (n : Nat) (acc : Array Nat), ((List.replicate n a).foldl (· ++ ·) acc).toList = acc.toList ++ (List.replicate n a.toList).flatten
  | 0, acc => by simp
  | n + 1, acc => by
    rw [List.replicate_succ, List.foldl_cons, fold_rep a n, List.replicate_succ, List.flatten_cons, Array.toList_append, List.append_assoc]
/-- text * number -/
def rMulT : R2 := fun x y H Q => ∃ (l : List Nat) (n : Nat), x = .str (S l) ∧ y = .int (n : Int) ∧ l.length * n ≤ 4000 ∧ n ≤ 4000 ∧ Q (.str (S (repL n l))) H
theorem op_mulT : OpR X (binaryOp .Mult) rMulT := by
  intro pins s σ H x y v u Q I rx ry h
  obtain ⟨l, n, rfl, rfl, hln, hn, q⟩ := h
  obtain ⟨t, rfl⟩ := rx
  obtain ⟨t', rfl⟩ := ry
  have hl := S_len l
  refine PySem.P.mul_str ?_ (fun h1 h2 => ?_) (fun h1 h2 => ?_) ?_
  · rw [decide_eq_false (by omega), decide_eq_false (by omega)]
    rfl
  · rw [hl]
    have h3 : (l.length : Int) ≤ (2 ^ 63 - 1) / (n : Int) := by
      refine Int.le_ediv_of_mul_le (by omega) ?_
      have : ((l.length * n : Nat) : Int) ≤ 4000 := by omega
      rw [Int.natCast_mul] at this
      omega
    omega
  · unfold PySem.Builtin.Str.tooLong
    rw [hl, Int.toNat_natCast, sizeLine_eq]
    exact decide_eq_false (by omega)
  · by_cases h1 : (n : Int) < 1
    · rw [if_pos h1]
      have e : n = 0 := by omega
      subst e
      exact ⟨by decide, ⟨.str (S (repL 0 l)), H, I.tok _, ⟨_, rfl⟩, q⟩⟩
    · rw [if_neg h1]
      by_cases h2 : ((n : Int) == 1 || (S l).length == 0) = true
      · rw [if_pos h2]
        have e : repL n l = l := by
          rcases Bool.or_eq_true_iff.mp h2 with h | h
          · have : n = 1 := by
              have := beq_iff_eq.mp h
              omega
            subst this
            unfold repL
            simp
          · have h3 := beq_iff_eq.mp h
            rw [hl] at h3
            have : l = [] := List.length_eq_zero_iff.mp h3
            subst this
            unfold repL
            simp
        rw [e] at q
        exact ⟨.str (S l), H, I, ⟨_, rfl⟩, q⟩
      · rw [if_neg h2]
        have e : (⟨(List.replicate (n : Int).toNat (S l).cps).foldl (· ++ ·) #[]⟩ : Str) = S (repL n l) := by
          rw [Int.toNat_natCast, S_of (⟨_⟩ : Str)]
          congr 1
          show ((List.replicate n (S l).cps).foldl (· ++ ·) #[]).toList = _
          rw [fold_rep, S_cps]
          rfl
        rw [e]
        refine ⟨?_, ⟨.str (S (repL n l)), H, I.tok _, ⟨_, rfl⟩, q⟩⟩
        rw [S_len, repL_len, sizeLine_eq, Nat.mul_comm]
        omega
end
end Vk
set_option Elab.async false
set_option linter.all false
set_option maxRecDepth 100000
set_option maxHeartbeats 4000000
namespace Vk
open PySem PySem.Spec PyProof.Rows L2
section
variable {K : PySem.W.Frag} {H : Hp} {Q : VK} {a : Addr} {xs : List V}
theorem iSlL {lo hi : Option Int} (hq : SqL K H a xs) (h : ∀ p, H p = none → Q (.ref p) (upd H p (.lst (cutV xs lo hi)))) : rSlL K (.ref a) lo hi H Q := ⟨a, xs, rfl, hq, h⟩
theorem iCat {b : Addr} {ys : List V} (ha : H a = some (.lst xs)) (hb : H b = some (.lst ys)) (hz : xs.length + ys.length ≤ sizeLine) (h : ∀ p, H p = none → Q (.ref p) (upd H p (.lst (xs ++ ys)))) : rCat (.ref a) (.ref b) H Q := ⟨a, b, xs, ys, rfl, rfl, ha, hb, hz, h⟩
theorem iAppend {y : V} (ha : H a = some (.lst xs)) (hz : xs.length < sizeLine) (h : Q .non (upd H a (.lst (xs ++ [y])))) : rAppend (.ref a) [y] H Q := ⟨a, xs, y, rfl, rfl, ha, hz, h⟩
theorem iTruL {R : Bool → Prop} (hq : SqL K H a xs) (h : R (!xs.isEmpty)) : ∃ k, TruV K (.ref a) H k ∧ R k := ⟨_, .inl ⟨xs, hq, rfl⟩, h⟩
theorem iTruNil {R : Bool → Prop} (hq : SqL K H a []) (h : R false) : ∃ k, TruV K (.ref a) H k ∧ R k := ⟨_, .inl ⟨[], hq, rfl⟩, h⟩
theorem iTruCons {R : Bool → Prop} {x : V} (hq : SqL K H a (x :: xs)) (h : R true) : ∃ k, TruV K (.ref a) H k ∧ R k := ⟨_, .inl ⟨_, hq, rfl⟩, h⟩
theorem iListT {l : List Nat} (hl : l.length ≤ 4000) (h : ∀ p, H p = none → Q (.ref p) (upd H p (.lst (l.map fun c => V.str (S [c]))))) : rListT [.str (S l)] H Q := by
  refine ⟨S l, rfl, (by rw [S_len]; exact hl), fun p hp => ?_⟩
  have e : (signsOf (S l)).map V.str = l.map fun c => V.str (S [c]) := by
    rw [signs_S, List.map_map]
    rfl
  rw [e]
  exact h p hp
end
end Vk
set_option Elab.async false
set_option linter.all false
set_option maxRecDepth 100000
set_option maxHeartbeats 2000000
namespace Vk
open PySem PySem.Spec PyProof.Rows L2
section
variable {K : PySem.W.Frag} {H1 : Hp} {Q : VK} {σ : L2.St} {tt : TT} {te : TE} {vs : List Nat}
/-- a comprehension over a list, which may change the heap -/
theorem lcg_L {D a : Addr} {j : Nat} {xs : List V} (Pv : Nat → Hp → Prop) (h0 : Pv 0 (upd H1 D (.lst []))) (hw : ∀ x, wipe ((wipe σ vs).set j (some x)) vs = wipe σ vs) (hl : ∀ i H, i ≤ xs.length → Pv i H → SqL K H a xs)
    (hs : ∀ i x H, xs[i]? = some x → Pv i H → tt ((wipe σ vs).set j (some x)) H fun b H3 => if b = true then te ((wipe σ vs).set j (some x)) H3 fun y H4 => ∃ acc, H4 D = some (.lst acc) ∧ acc.length < sizeLine ∧ Pv (i + 1) (upd H4 D (.lst (acc ++ [y]))) else Pv (i + 1) H3)
    (hd : ∀ H, Pv xs.length H → Q (.ref D) H) : LcG (Itl K a) (gName j) tt te vs σ H1 D Q := by
  have := lc_list (K := K) (a := a) (xs := xs) (g := gName j) (tt := tt) (te := te) (vs := vs) (σ := σ) (H1 := H1) (D := D) (Qd := fun H => Q (.ref D) H) Pv h0 hl (fun i x H hi hP => ⟨hw _, hs i x H hi hP⟩) hd
  exact this
end
end Vk
set_option Elab.async false
set_option linter.all false
set_option maxRecDepth 100000
set_option maxHeartbeats 2000000
namespace Vk
open PySem PySem.Spec PyProof.Rows L2
/-! a text cut at a sign -/
def cutB (s : Nat) : List Nat → List Nat → List (List Nat)
  | acc, [] => [acc]
  | acc, c :: r => if c = s then acc :: cutB s [] r else cutB s (acc ++ [c]) r
def cutC (s : Nat) (t : List Nat) : List (List Nat) := cutB s [] t
theorem pre_one (s c : Nat) (r : List Nat) : TL.pre [s] (c :: r) = decide (c = s) := by
  show ([c] == [s]) = _
  by_cases h : c = s
  · simp [h]
  · simp [h]
theorem spl_cutB (s : Nat) : ∀ (t acc : List Nat), TL.spl [s] 0 acc t = cutB s acc t
  | [], acc => rfl
  | c :: r, acc => by
    show (if TL.pre [s] (c :: r) = true then acc :: TL.spl [s] 0 [] r else TL.spl [s] 0 (acc ++ [c]) r) = _
    rw [pre_one, spl_cutB s r [], spl_cutB s r (acc ++ [c])]
    by_cases h : c = s
    · simp [cutB, h]
    · simp [cutB, h]
theorem split_C {s : Nat} (hs : s = 10 ∨ s = 32) (t : List Nat) : Txt.split (S t) (S [s]) = (cutC s t).map S := by
  refine TL.map_tl_inj ?_
  have hne : TL.tl (S [s]) ≠ [] := by
    show (S [s]).cps.toList ≠ []
    rw [S_cps]
    simp
  rw [TL.split_spl (S t) (S [s]) hne (by rcases hs with rfl | rfl <;> exact TL.kind_ok (by decide +kernel))]
  have e1 : TL.tl (S [s]) = [s] := by
    show (S [s]).cps.toList = _
    rw [S_cps]
  have e2 : TL.tl (S t) = t := by
    show (S t).cps.toList = _
    rw [S_cps]
  rw [e1, e2, spl_cutB, List.map_map]
  have e3 : ∀ q : List (List Nat), q.map (TL.tl ∘ S) = q := fun q => by
    refine (List.map_congr_left fun c _ => ?_).trans (List.map_id q)
    show (S c).cps.toList = c
    rw [S_cps]
  rw [e3]
  rfl
/-- the pieces but the last, the last, and how it goes on -/
theorem cutB_go (s : Nat) : ∀ (a acc : List Nat), ∃ ls cur, cutB s acc a = ls ++ [cur] ∧ ∀ b, cutB s acc (a ++ b) = ls ++ cutB s cur b
  | [], acc => ⟨[], acc, rfl, fun b => rfl⟩
  | c :: r, acc => by
    by_cases h : c = s
    · obtain ⟨ls, cur, h1, h2⟩ := cutB_go s r []
      refine ⟨acc :: ls, cur, ?_, fun b => ?_⟩
      · rw [cutB, if_pos h, h1]
        rfl
      · rw [List.cons_append, cutB, if_pos h, h2]
        rfl
    · obtain ⟨ls, cur, h1, h2⟩ := cutB_go s r (acc ++ [c])
      refine ⟨ls, cur, ?_, fun b => ?_⟩
      · rw [cutB, if_neg h, h1]
      · rw [List.cons_append, cutB, if_neg h, h2]
theorem cutC_go {s : Nat} {a cur : List Nat} {ls : List (List Nat)} (h : cutC s a = ls ++ [cur]) (b : List Nat) : cutC s (a ++ b) = ls ++ cutB s cur b := by
  obtain ⟨ls', cur', h1, h2⟩ := cutB_go s a []
  have e := h.symm.trans h1
  obtain ⟨e1, e2⟩ := List.append_inj' e rfl
  cases e2
  subst e1
  exact h2 b
theorem cutC_split (s : Nat) (a : List Nat) : ∃ ls cur, cutC s a = ls ++ [cur] := by
  obtain ⟨ls, cur, h, _⟩ := cutB_go s a []
  exact ⟨ls, cur, h⟩
theorem cutB_mem (s : Nat) (t acc : List Nat) : ∀ w ∈ cutB s acc t, w.length ≤ acc.length + t.length ∧ ∀ c ∈ w, c ∈ acc ∨ c ∈ t := by
  induction t generalizing acc with
  | nil =>
    intro w hw
    rw [cutB, List.mem_singleton] at hw
    subst hw
    exact ⟨by simp, fun c hc => .inl hc⟩
  | cons d r ih =>
    intro w hw
    unfold cutB at hw
    split at hw
    · rcases List.mem_cons.mp hw with rfl | hw
      · exact ⟨by simp, fun c hc => .inl hc⟩
      · obtain ⟨h1, h2⟩ := ih [] w hw
        refine ⟨by simp only [List.length_cons, List.length_nil] at h1 ⊢; omega, fun c hc => ?_⟩
        rcases h2 c hc with h | h
        · cases h
        · exact .inr (List.mem_cons_of_mem _ h)
    · obtain ⟨h1, h2⟩ := ih _ w hw
      refine ⟨by simp only [List.length_cons, List.length_append, List.length_nil] at h1 ⊢; omega, fun c hc => ?_⟩
      rcases h2 c hc with h | h
      · rcases List.mem_append.mp h with h | h
        · exact .inl h
        · rw [List.mem_singleton] at h
          exact .inr (by rw [h]; exact List.mem_cons_self ..)
      · exact .inr (List.mem_cons_of_mem _ h)
theorem cutC_mem {s : Nat} {t w : List Nat} (h : w ∈ cutC s t) : w.length ≤ t.length ∧ ∀ c ∈ w, c ∈ t := by
  obtain ⟨h1, h2⟩ := cutB_mem s t [] w h
  refine ⟨by simpa using h1, fun c hc => (h2 c hc).elim (fun h => by cases h) id⟩
theorem cutB_len (s : Nat) (t acc : List Nat) : (cutB s acc t).length ≤ t.length + 1 := by
  induction t generalizing acc with
  | nil => simp [cutB]
  | cons c r ih =>
    unfold cutB
    split
    · have := ih []
      simp only [List.length_cons]
      omega
    · have := ih (acc ++ [c])
      simp only [List.length_cons]
      omega
theorem cutC_len (s : Nat) (t : List Nat) : (cutC s t).length ≤ t.length + 1 := cutB_len s t []
def spaced : List (List Nat) → List Nat
  | [] => []
  | [x] => x
  | x :: y :: r => x ++ [32] ++ spaced (y :: r)
theorem join_sp (l : List (List Nat)) : Txt.join (S [32]) (l.map S) = S (spaced l) := by
  refine (PySem.StrLaws.glued_eq_join _ _).trans ?_
  induction l with
  | nil => rfl
  | cons x r ih =>
    cases r with
    | nil => rfl
    | cons y r =>
      show S x ++ S [32] ++ Str.join (S [32]) ((y :: r).map S) = _
      rw [ih, S_app, S_app]
      rfl
def wsum (ws : List (List Nat)) : Nat := (ws.map fun w => w.length + 1).sum
theorem wsum_cons (x : List Nat) (r : List (List Nat)) : wsum (x :: r) = x.length + 1 + wsum r := rfl
theorem wsum_app (a b : List (List Nat)) : wsum (a ++ b) = wsum a + wsum b := by
  unfold wsum
  rw [List.map_append, List.sum_append]
theorem spaced_len : ∀ ws : List (List Nat), (spaced ws).length ≤ wsum ws
  | [] => Nat.zero_le _
  | [x] => by
    rw [wsum_cons]
    show x.length ≤ _
    omega
  | x :: y :: r => by
    have ih := spaced_len (y :: r)
    rw [wsum_cons]
    show (x ++ [32] ++ spaced (y :: r)).length ≤ _
    simp only [List.length_append, List.length_cons, List.length_nil]
    omega
theorem wsum_cutB (s : Nat) (t acc : List Nat) : wsum (cutB s acc t) = acc.length + t.length + 1 := by
  induction t generalizing acc with
  | nil => rfl
  | cons c r ih =>
    unfold cutB
    split
    · rw [wsum_cons, ih []]
      simp only [List.length_cons, List.length_nil]
      omega
    · rw [ih (acc ++ [c])]
      simp only [List.length_cons, List.length_append, List.length_nil]
      omega
theorem wsum_cutC (s : Nat) (t : List Nat) : wsum (cutC s t) = t.length + 1 := by
  have := wsum_cutB s t []
  simp only [List.length_nil] at this
  show wsum (cutB s [] t) = _
  omega
theorem wsum_set (a : List Nat) : ∀ (l : List (List Nat)) (i : Nat) (x : List Nat), l[i]? = some x → x.length + wsum (l.set i a) = a.length + wsum l
  | [], i, x, h => by simp at h
  | y :: r, 0, x, h => by
    cases h
    rw [List.set_cons_zero, wsum_cons, wsum_cons]
    omega
  | y :: r, i + 1, x, h => by
    have ih := wsum_set a r i x h
    rw [List.set_cons_succ, wsum_cons, wsum_cons]
    omega
theorem wsum_swap {l : List (List Nat)} {i j : Nat} {x y : List Nat} (hi : l[i]? = some x) (hj : l[j]? = some y) : wsum ((l.set i y).set j x) = wsum l := by
  have h1 := wsum_set y l i x hi
  have hy : (l.set i y)[j]? = some y := by
    rw [List.getElem?_set]
    by_cases e : i = j
    · rw [if_pos e, if_pos (List.getElem?_eq_some_iff.mp hi).1]
    · rw [if_neg e, hj]
  have h2 := wsum_set x (l.set i y) j y hy
  omega
theorem wsum_take (l : List (List Nat)) (n : Nat) : wsum (l.take n) + wsum (l.drop n) = wsum l := by
  rw [← wsum_app, List.take_append_drop]
theorem wsum_drop1 (l : List (List Nat)) (n : Nat) : wsum (l.drop (n + 1)) ≤ wsum (l.drop n) := by
  have h := wsum_take (l.drop n) 1
  rw [List.drop_drop] at h
  omega
theorem join_sum {us : List (List Nat)} (h : wsum us ≤ 4000) : ((us.map S).map (·.length)).sum + (us.map S).length * (S [32]).length ≤ 16777216 := by
  have h3 : ((us.map S).map (·.length)).sum + us.length = wsum us := by
    clear h
    induction us with
    | nil => rfl
    | cons z us ih =>
      rw [wsum_cons]
      simp only [List.map_cons, List.sum_cons, S_len, List.length_cons]
      omega
  rw [List.length_map, S_len]
  simp only [List.length_cons, List.length_nil]
  omega
theorem strs_map (H : Hp) (p : Addr) (ws : List (List Nat)) (h : H p = some (.lst (ws.map fun t => V.str (S t)))) : H p = some (.lst ((ws.map S).map V.str)) := by
  rw [h, List.map_map]
  rfl

theorem cutB_free {s : Nat} : ∀ (x acc r : List Nat), s ∉ x → cutB s acc (x ++ s :: r) = (acc ++ x) :: cutB s [] r
  | [], acc, r, _ => by
    show cutB s acc (s :: r) = _
    rw [cutB, if_pos rfl, List.append_nil]
  | c :: x, acc, r, h => by
    rw [List.mem_cons, not_or] at h
    rw [List.cons_append, cutB, if_neg (fun e => h.1 e.symm), cutB_free x _ r h.2, List.append_assoc]
    rfl
theorem cutB_last {s : Nat} : ∀ (x acc : List Nat), s ∉ x → cutB s acc x = [acc ++ x]
  | [], acc, _ => by rw [cutB, List.append_nil]
  | c :: x, acc, h => by
    rw [List.mem_cons, not_or] at h
    rw [cutB, if_neg (fun e => h.1 e.symm), cutB_last x _ h.2, List.append_assoc]
    rfl
/-- what was joined is taken apart again -/
theorem cut_spaced : ∀ {es : List (List Nat)}, es ≠ [] → (∀ t ∈ es, 32 ∉ t) → cutC 32 (spaced es) = es
  | [], h, _ => absurd rfl h
  | [x], _, h => by
    show cutB 32 [] x = _
    rw [cutB_last x [] (h x List.mem_cons_self)]
    rfl
  | x :: y :: r, _, h => by
    show cutB 32 [] (x ++ [32] ++ spaced (y :: r)) = _
    rw [List.append_assoc, List.singleton_append, cutB_free x [] _ (h x List.mem_cons_self)]
    have := cut_spaced (es := y :: r) (by simp) fun t ht => h t (List.mem_cons_of_mem _ ht)
    unfold cutC at this
    rw [this]
    rfl
theorem spaced_mem : ∀ {ws : List (List Nat)} {c : Nat}, c ∈ spaced ws → c = 32 ∨ ∃ w ∈ ws, c ∈ w
  | [], _, h => nomatch h
  | [x], c, h => .inr ⟨x, List.mem_cons_self, h⟩
  | x :: y :: r, c, h => by
    have h : c ∈ x ++ [32] ++ spaced (y :: r) := h
    rcases List.mem_append.mp h with h | h
    · rcases List.mem_append.mp h with h | h
      · exact .inr ⟨x, List.mem_cons_self, h⟩
      · exact .inl (List.mem_singleton.mp h)
    · rcases spaced_mem h with h | ⟨w, hw, h⟩
      · exact .inl h
      · exact .inr ⟨w, List.mem_cons_of_mem _ hw, h⟩
end Vk
set_option Elab.async false
set_option linter.all false
set_option maxRecDepth 100000
set_option maxHeartbeats 4000000
namespace Vk
open PySem PySem.Spec PyProof.Rows L2
/-! X38: f(e, ..), where the name f holds an own class -/
def tMakeV (C : Addr) (sp : Sp) (dvs : List V) (E : XK) (tf : TE) (t : TA) : TE := fun σ H Q => tf σ H fun v H0 => v = .ref C ∧ tMake C sp dvs E t σ H0 Q
theorem pe_makeV {X : Cx} {CX : CXT} {k : Nat} {f C : Addr} {fd : FuncData} {ps : List Str} {sp : Sp} {dvs : List V} {ds : List Value} {E : XK} {x : Str} {p pos : Pos} {e : Expr} {es : List Expr} {t : TA} {tf : TE} (hn : PE X (.Name x p) tf) (M : Mk X.K C f) (F : FnOk X.prog X.w X.K X.mg X.base CX k f fd ps sp) (hr : Room (k + 1) X.A) (hb : Binds X.K fd ps ds) (hd : Vals dvs ds) (hx : Passes CX X E)
    (ha : PA X (e :: es) t) (he : starEach (e :: es) X.env = (false, eval e X.env) :: starEach es X.env := by rfl) (hpl : (backTo pos (starEach es X.env)).any (·.1) = false := by rfl) :
    PE X (.Call (.Name x p) (e :: es) [] pos) (tMakeV C sp dvs E tf t) := by
  refine ⟨fun pins s σ H Q I h => ?_⟩
  refine wpAny_Call_Name_kw (thn (hn.run pins s σ H _ I h) fun u s0 hh => ?_)
  obtain ⟨v, H0, I0, rv, rfl, q0⟩ := hh
  obtain rfl : u = Value.ref C := rv
  refine PySem.W.callWith_K (h₀ := X.base) I0.ok.mod.kin M.kp (thn (ha.run pos pins s0 σ H0 _ I0 q0) fun us s1 ⟨vs, H1, I1, r, q⟩ => ⟨I1.kIn, ?_⟩) he hpl
  exact run_make M F hr hb hd hx I1 r q
end Vk
set_option Elab.async false
set_option linter.all false
set_option maxRecDepth 100000
set_option maxHeartbeats 4000000
namespace L2
open PySem PySem.Spec PyProof.Rows
/-! X40: a comprehension with two fors, by walks -/
def Inner (J1 : It) (g1 : TG) (tt1 : TT) (te : TE) (vs1 : List Nat) (σ2 : L2.St) (H4 : Hp) (D : Addr) (N : Hp → Prop) : Prop := ∃ W1 : Nat → Nat → Hp → Prop, (∃ m, W1 0 m H4) ∧ ∀ j k H, W1 j k H →
  (J1.stop j H ∧ N H) ∨ (J1.go j H ∧ ∃ Nx1 : Hp → Prop, (∀ H', Nx1 H' → ∃ k', k' < k ∧ W1 (j + 1) k' H') ∧ ∀ x H', J1.yld j H x H' → g1 x (wipe σ2 vs1) H' fun σ3 H5 => wipe σ3 vs1 = wipe σ2 vs1 ∧ tt1 σ3 H5 fun b H6 =>
    if b = true then te σ3 H6 fun y H7 => ∃ acc, H7 D = some (.lst acc) ∧ acc.length < sizeLine ∧ Nx1 (upd H7 D (.lst (acc ++ [y]))) else Nx1 H6)
def Lc2G (J : It) (g : TG) (tt : TT) (wi1 : TI) (g1 : TG) (tt1 : TT) (te : TE) (vs vs1 : List Nat) (σ : L2.St) (H1 : Hp) (D : Addr) (Q : VK) : Prop := ∃ W : Nat → Nat → Hp → Prop, (∃ m, W 0 m (upd H1 D (.lst []))) ∧ ∀ i m H, W i m H →
  (J.stop i H ∧ Q (.ref D) H) ∨ (J.go i H ∧ ∃ Nx : Hp → Prop, (∀ H', Nx H' → ∃ m', m' < m ∧ W (i + 1) m' H') ∧ ∀ x H', J.yld i H x H' → g x (wipe σ vs) H' fun σ2 H2 => wipe σ2 vs = wipe σ vs ∧ tt σ2 H2 fun b H3 =>
    if b = true then wi1 σ2 H3 fun J1 H4 => Inner J1 g1 tt1 te vs1 σ2 H4 D Nx else Nx H3)
section
variable {J J1 : It} {n : Nat} {G : Hp → Prop} {Y : Nat → Hp → V → Hp → Prop} {g g1 : TG} {tt tt1 : TT} {te : TE} {wi1 : TI} {vs vs1 : List Nat} {σ σ2 : L2.St} {H1 H4 : Hp} {D : Addr} {N : Hp → Prop} {Q : VK} {tl : TE}
theorem inner_it (w : Walk J1 n G Y) (Pw : Nat → Hp → Prop) (h0 : Pw 0 H4) (hG : ∀ i H, i ≤ n → Pw i H → G H)
    (hs : ∀ i x H H', i < n → Pw i H → Y i H x H' → g1 x (wipe σ2 vs1) H' fun σ3 H5 => wipe σ3 vs1 = wipe σ2 vs1 ∧ tt1 σ3 H5 fun b H6 =>
      if b = true then te σ3 H6 fun y H7 => ∃ acc, H7 D = some (.lst acc) ∧ acc.length < sizeLine ∧ Pw (i + 1) (upd H7 D (.lst (acc ++ [y]))) else Pw (i + 1) H6) (hd : ∀ H, Pw n H → N H) : Inner J1 g1 tt1 te vs1 σ2 H4 D N := by
  refine ⟨fun i m H => m = n - i ∧ i ≤ n ∧ Pw i H, ⟨n, by simp, Nat.zero_le _, h0⟩, ?_⟩
  rintro i m H ⟨rfl, hi, p⟩
  have q := hG i H hi p
  by_cases hlt : i < n
  · exact .inr ⟨w.goes i H hlt q, Pw (i + 1), fun H' p' => ⟨n - (i + 1), by omega, rfl, hlt, p'⟩, fun x H' y => hs i x H H' hlt p (w.yields i H x H' hlt q y)⟩
  · have e : i = n := by omega
    subst e
    exact .inl ⟨w.stops H q, hd H p⟩
theorem lc2_it (w : Walk J n G Y) (Pv : Nat → Hp → Prop) (h0 : Pv 0 (upd H1 D (.lst []))) (hG : ∀ i H, i ≤ n → Pv i H → G H)
    (hs : ∀ i x H H', i < n → Pv i H → Y i H x H' → g x (wipe σ vs) H' fun σ2 H2 => wipe σ2 vs = wipe σ vs ∧ tt σ2 H2 fun b H3 =>
      if b = true then wi1 σ2 H3 fun J1 H4 => Inner J1 g1 tt1 te vs1 σ2 H4 D (Pv (i + 1)) else Pv (i + 1) H3) (hd : ∀ H, Pv n H → Q (.ref D) H) : Lc2G J g tt wi1 g1 tt1 te vs vs1 σ H1 D Q := by
  refine ⟨fun i m H => m = n - i ∧ i ≤ n ∧ Pv i H, ⟨n, by simp, Nat.zero_le _, h0⟩, ?_⟩
  rintro i m H ⟨rfl, hi, p⟩
  have q := hG i H hi p
  by_cases hlt : i < n
  · exact .inr ⟨w.goes i H hlt q, Pv (i + 1), fun H' p' => ⟨n - (i + 1), by omega, rfl, hlt, p'⟩, fun x H' y => hs i x H H' hlt p (w.yields i H x H' hlt q y)⟩
  · have e : i = n := by omega
    subst e
    exact .inl ⟨w.stops H q, hd H p⟩
theorem iLc2S (h : tl σ H1 fun x H1 => ∃ z, x = .str z ∧ ∀ D, H1 D = none → Lc2G (Its z) g tt wi1 g1 tt1 te vs vs1 σ H1 D Q) : tLc2 (iStr tl) g tt wi1 g1 tt1 te vs vs1 σ H1 Q := h
theorem iLc2L {K : PySem.W.Frag} (h : tl σ H1 fun x H1 => ∃ a, x = .ref a ∧ (∃ xs, SqL K H1 a xs) ∧ ∀ D, H1 D = none → Lc2G (Itl K a) g tt wi1 g1 tt1 te vs vs1 σ H1 D Q) : tLc2 (iList K tl) g tt wi1 g1 tt1 te vs vs1 σ H1 Q := h
theorem iIStr {R : It → Hp → Prop} (h : tl σ H1 fun x H1 => ∃ z, x = .str z ∧ R (Its z) H1) : iStr tl σ H1 R := h
theorem iMakeD {C : Addr} {sp : Sp} {dvs : List V} {E : XK} {t : TA} {H : Hp} {Q : VK} (h : t σ H fun vs H1 => ∀ x dx, H1 x = none → H1 dx = none → dx ≠ x → sp (.ref x :: (vs ++ dvs)) (upd (upd H1 dx (.own x)) x (.ins C dx [])) (fun v H2 => v = .non ∧ Q (.ref x) H2) E) : tMake C sp dvs E t σ H Q := h
end
end L2
namespace Vk
open PySem PySem.Spec PyProof.Rows L2
theorem walk_S {l : List Nat} : Walk (Its (S l)) l.length (fun _ => True) (fun i H v H' => H' = H ∧ ∃ c, l[i]? = some c ∧ v = .str (S [c])) := by
  have w := walk_str (z := S l)
  rw [S_size] at w
  exact w.mono (fun _ h => h) fun i H x H' hi _ h => by
    obtain ⟨rfl, c, hc, rfl⟩ := h
    exact ⟨rfl, c, S_get.mp hc, rfl⟩
theorem iMakeV {C : Addr} {σ : L2.St} {sp : Sp} {dvs : List V} {E : XK} {tf : TE} {t : TA} {H : Hp} {Q : VK} (h : tf σ H fun v H0 => v = .ref C ∧ tMake C sp dvs E t σ H0 Q) : tMakeV C sp dvs E tf t σ H Q := h
end Vk
set_option Elab.async false
set_option linter.all false
set_option maxRecDepth 100000
set_option maxHeartbeats 4000000
namespace Vk
open PySem PySem.Spec PyProof.Rows L2 PySem.Builtin.Str
/-! X41: xs[::2], text[::-1] -/
/-- the first, the third, .. -/
def pick2 {α : Type} (xs : List α) : List α := (sliceRange (sliceBounds none none (some 2) xs.length).1 (sliceBounds none none (some 2) xs.length).2.1 (sliceBounds none none (some 2) xs.length).2.2).filterMap (xs[·]?)
theorem pick2_mem {α : Type} {xs : List α} {x : α} (h : x ∈ pick2 xs) : x ∈ xs := by
  unfold pick2 at h
  obtain ⟨i, _, e⟩ := List.mem_filterMap.mp h
  exact List.mem_of_getElem? e
theorem pick2_len {α : Type} (xs : List α) : (pick2 xs).length ≤ xs.length := by
  unfold pick2
  refine Nat.le_trans (List.length_filterMap_le _ _) (sliceRange_length_le _ _ _ _ (fun _ => ?_) fun hc => ?_)
  · simp [sliceBounds]
  · simp [sliceBounds] at hc
theorem pick2_map {α β : Type} (f : α → β) (xs : List α) : pick2 (xs.map f) = (pick2 xs).map f := by
  unfold pick2
  rw [List.length_map, List.map_filterMap]
  congr 1
  funext i
  rw [List.getElem?_map]
theorem vals_pick : ∀ (is : List Nat) {xs : List V} {us : List Value}, Vals xs us → Vals (is.filterMap (xs[·]?)) (is.filterMap (us[·]?))
  | [], _, _, _ => .nil
  | i :: is, xs, us, r => by
    have ih := vals_pick is r
    have hl := r.length
    by_cases h : i < xs.length
    · have e1 : xs[i]? = some xs[i] := List.getElem?_eq_getElem h
      obtain ⟨u, e2, ru⟩ := r.get e1
      rw [List.filterMap_cons, List.filterMap_cons, e1, e2]
      exact .cons ru ih
    · have e1 : xs[i]? = none := List.getElem?_eq_none (by omega)
      have e2 : us[i]? = none := List.getElem?_eq_none (by omega)
      rw [List.filterMap_cons, List.filterMap_cons, e1, e2]
      exact ih
def tStep2 (K : PySem.W.Frag) (te : TE) : TE := fun σ H Q => te σ H fun x H1 => ∃ a xs, x = .ref a ∧ SqL K H1 a xs ∧ ∀ p, H1 p = none → Q (.ref p) (upd H1 p (.lst (pick2 xs)))
section
variable {X : Cx}
theorem pe_step2L {e : Expr} {te : TE} {k : Nat} {p1 p3 pos : Pos} (he : PE X e te) : PE X (.Subscript e (.Slice none none (some (.Constant (.int 2) k p1)) p3) pos) (tStep2 X.K te) := by
  refine ⟨fun pins s σ H Q I h => ?_⟩
  refine Subscript_ (thn (he.run pins s σ H _ I h) fun v s1 ⟨x, H1, I1, r1, q1⟩ => ?_)
  obtain ⟨a, xs, rfl, hx, q⟩ := q1
  cases r1
  have hst : PO X (some (.Constant (.int 2) k p1)) (tPart (tC (.int 2))) := po_some pe_int
  refine wpAny_Slice (thn (po_none.run pins s1 σ H1 (fun o H2 => o = none ∧ H2 = H1) I1 ⟨rfl, rfl⟩) fun vl s2 ⟨l, H2, I2, pl, el, e2⟩ => ?_)
  subst el e2
  refine thn (po_none.run pins s2 σ H2 (fun o H3 => o = none ∧ H3 = H2) I2 ⟨rfl, rfl⟩) fun vu s3 ⟨u, H3, I3, pu, eu, e3⟩ => ?_
  subst eu e3
  refine thn (hst.run pins s3 σ H3 (fun o H4 => o = some 2 ∧ H4 = H3) I3 ⟨2, rfl, rfl, rfl⟩) fun vs s4 ⟨o, H4, I4, ps, eo, e4⟩ => ?_
  subst eo e4
  have I5 : Inv X pins σ H4 { s4 with heap := s4.heap.push { cls := .type "slice", data := .fields #[vl, vu, vs] } } := I4.kept (t' := s4.toks) fun b ob q => Heap.get?_push_of_some _ q
  obtain ⟨its, r, ht, hz⟩ := I5.list hx
  have hlen := r.length
  refine tail_any (ops := [.ref a, .ref s4.heap.objs.size]) ht.isList.typeIs (PySem.slot_list_getitem.lookup) ?_ (by with_unfolding_all rfl)
  refine wpAny_getItem_list_slice ht.isList (Heap.IsSliceOf.new _ vl vu vs) pl pu ps (by decide) ?_ (by rw [List.size_toArray]; omega)
  have hp := vals_pick (sliceRange (sliceBounds none none (some 2) xs.length).1 (sliceBounds none none (some 2) xs.length).2.1 (sliceBounds none none (some 2) xs.length).2.2) r
  have el : slicePick its.toArray none none (some 2) = ((sliceRange (sliceBounds none none (some 2) xs.length).1 (sliceBounds none none (some 2) xs.length).2.1 (sliceBounds none none (some 2) xs.length).2.2).filterMap (its[·]?)).toArray := by
    unfold slicePick
    rw [List.size_toArray, hlen]
    simp
  rw [el]
  refine ⟨.ref _, _, I5.laid (t' := s4.toks) (o := .lst (pick2 xs)) (fun b ob q => Heap.get?_push_of_some _ q) (Nat.le_refl _) ?_, rfl, q _ (I5.hok.fresh (Nat.le_refl _))⟩
  exact ⟨Nat.le_trans (pick2_len xs) hz, _, 0, hp, Heap.get?_push_size _ rfl⟩
def tRevS (te : TE) : TE := fun σ H Q => te σ H fun x H1 => ∃ l : List Nat, x = .str (S l) ∧ l.length ≤ 100000 ∧ Q (.str (S l.reverse)) H1
theorem rev_S (l : List Nat) : (⟨((strSliceIndices none none (-1) (S l).length).filterMap ((S l).cps[·]?)).toArray⟩ : Str) = S l.reverse := by
  have e : strSliceIndices none none (-1) (S l).length = (List.range (S l).cps.size).reverse := by
    show sliceRange (((S l).cps.size : Int) - 1) (-1) (-1) = _
    rw [PySem.W.krv_sliceRange, PySem.W.krv_range]
  rw [e, List.filterMap_reverse, PySem.W.krv_all, S_cps]
  rfl
theorem pe_revS {e : Expr} {te : TE} {k : Nat} {p1 p2 p3 pos : Pos} (he : PE X e te) : PE X (.Subscript e (.Slice none none (some (.UnaryOp .USub (.Constant (.int 1) k p1) p2)) p3) pos) (tRevS te) := by
  refine ⟨fun pins s σ H Q I h => ?_⟩
  refine Subscript_ (thn (he.run pins s σ H _ I h) fun v s1 ⟨x, H1, I1, r1, q1⟩ => ?_)
  obtain ⟨z, rfl, hz, q⟩ := q1
  obtain ⟨t, rfl⟩ := r1
  have hst : PO X (some (.UnaryOp .USub (.Constant (.int 1) k p1) p2)) (tPart (tUn (rU fun i => .int (-i)) (tC (.int 1)))) := po_some (pe_un un_neg pe_int)
  refine wpAny_Slice (thn (po_none.run pins s1 σ H1 (fun o H2 => o = none ∧ H2 = H1) I1 ⟨rfl, rfl⟩) fun vl s2 ⟨l, H2, I2, pl, el, e2⟩ => ?_)
  subst el e2
  refine thn (po_none.run pins s2 σ H2 (fun o H3 => o = none ∧ H3 = H2) I2 ⟨rfl, rfl⟩) fun vu s3 ⟨u, H3, I3, pu, eu, e3⟩ => ?_
  subst eu e3
  refine thn (hst.run pins s3 σ H3 (fun o H4 => o = some (-1) ∧ H4 = H3) I3 ⟨1, rfl, -1, rfl, rfl, rfl⟩) fun vs s4 ⟨o, H4, I4, ps, eo, e4⟩ => ?_
  subst eo e4
  have I5 : Inv X pins σ H4 { s4 with heap := s4.heap.push { cls := .type "slice", data := .fields #[vl, vu, vs] } } := I4.kept (t' := s4.toks) fun b ob q => Heap.get?_push_of_some _ q
  refine tail_any (ops := [.str (S z) t, .ref s4.heap.objs.size]) (typeIs_str _ _ _) F.slot_str_getitem.lookup ?_ (by with_unfolding_all rfl)
  obtain ⟨os, hos, hcs, hds⟩ := Heap.IsSliceOf.new s4.heap vl vu vs
  obtain ⟨l, rfl, el⟩ := IsPart.raw pl
  obtain ⟨u, rfl, eu⟩ := IsPart.raw pu
  obtain ⟨w, rfl, ew⟩ := IsPart.raw ps
  refine wpAny_getItem_str_slice (l := l) (u := u) (st := w) ⟨os, hos, hcs, hds⟩ (by rw [ew]; rfl) ?_
  unfold sliceMade slicePicked
  rw [el, eu, ew]
  show Made.post (if (((-1 : Int) == 1) && _) = true then _ else Made.str ⟨((strSliceIndices none none (-1) (S z).length).filterMap ((S z).cps[·]?)).toArray⟩) (EP X pins σ Q) _
  rw [if_neg (by simp), rev_S]
  refine ⟨by rw [S_len, List.length_reverse, sizeLine_eq]; omega, .str _, H4, I5.tok _, ⟨_, rfl⟩, q⟩
end
theorem iStep2 {K : PySem.W.Frag} {te : TE} {σ : L2.St} {H : Hp} {Q : VK} (h : te σ H fun x H1 => ∃ a xs, x = .ref a ∧ SqL K H1 a xs ∧ ∀ p, H1 p = none → Q (.ref p) (upd H1 p (.lst (pick2 xs)))) : tStep2 K te σ H Q := h
theorem iRevL {K : PySem.W.Frag} {te : TE} {σ : L2.St} {H : Hp} {Q : VK} (h : te σ H fun x H1 => ∃ a xs, x = .ref a ∧ SqL K H1 a xs ∧ ∀ p, H1 p = none → Q (.ref p) (upd H1 p (.lst xs.reverse))) : tRevL K te σ H Q := h
theorem iRevS {te : TE} {σ : L2.St} {H : Hp} {Q : VK} (h : te σ H fun x H1 => ∃ l : List Nat, x = .str (S l) ∧ l.length ≤ 100000 ∧ Q (.str (S l.reverse)) H1) : tRevS te σ H Q := h
end Vk
set_option Elab.async false
set_option linter.all false
set_option maxRecDepth 100000
set_option maxHeartbeats 4000000
namespace Vk
open PySem PySem.Spec PyProof.Rows L2
/-! o.m(e, ..) whose def may raise, in a try -/
def tMethS (C : Addr) (m : Str) (sp : Sp) (E : L2.St → XK) (ta : TE) (t : TA) : TE := fun σ H Q => ta σ H fun x H1 => ∃ a dx fs, x = .ref a ∧ H1 a = some (.ins C dx fs) ∧ fs.lookup m = none ∧ t σ H1 fun vs H2 => sp (x :: vs) H2 Q (E σ)
section
variable {X : Cx} {CX : CXT} {k : Nat} {f C : Addr} {fd : FuncData} {ps : List Str} {sp : Sp} {E : L2.St → XK} {m : Str} {apos pos : Pos} {o e : Expr} {es : List Expr} {ta : TE} {t : TA}
theorem pe_methS {pl : Sem Bool} (he : PE X o ta) (c : Cls X.K C) (hm : Meth X.K C m f) (F : FnOk X.prog X.w X.K X.mg X.base CX k f fd ps sp) (hr : Room k X.A) (hb : Binds X.K fd ps []) (hx : ∀ σ, PassesAt CX X σ (E σ)) (ha : PA X (e :: es) t)
    (hst : starEach (e :: es) X.env = (false, eval e X.env) :: starEach es X.env := by rfl) (hpl : (backTo pos (starEach es X.env)).any (·.1) = false := by rfl)
    (ht : eval (.Call (.Attribute o m apos) (e :: es) [] pos) X.env = (do
      let ov ← eval o X.env
      standAt apos.atName
      let (f, first) ← holding [ov] (getMethod ov m pl)
      callWith pos f first (backTo pos (starEach (e :: es) X.env)) (backToKw pos (keywordEach [] X.env))) := by rfl) :
    PE X (.Call (.Attribute o m apos) (e :: es) [] pos) (tMethS C m sp E ta t) := by
  refine ⟨fun pins s σ H Q I h => ?_⟩
  refine PySem.W.methodCall_KW (pl := pl) (thn (he.run pins s σ H _ I h) fun u s1 ⟨x, H1, I1, rx, a, dx, fs, ex, ea, l, q⟩ => ?_) ht
  subst ex
  obtain rfl : u = Value.ref a := rx
  refine getmeth_ok I1 ea c hm l ?_
  refine PySem.W.callWith_K (first := [.ref a]) (h₀ := X.base) I.ok.mod.kin hm.kp (thn (ha.run pos pins s1 σ H1 _ I1 q) fun us s2 ⟨vs, H2, I2, r, q2⟩ => ⟨I2.kIn, ?_⟩) hst hpl
  exact run_fnS (us := .ref a :: us) (vs := .ref a :: vs) F hr hb (hx σ) I2 (.cons rfl r) q2
end
end Vk
set_option Elab.async false
set_option linter.all false
set_option maxRecDepth 100000
set_option maxHeartbeats 2000000
namespace Vk
open PySem PySem.Spec PyProof.Rows L2

/-- the context of a body that closes over its class's cell -/
def cxS (CX : CXT) (P : Program) (w : World) (K : PySem.W.Frag) (mg : Str → Option Value) (base : Heap) (N : List Str) (qual : Str) (scope : Scope) (f cc : Addr) (cd : Value) (A : Around) (outer : List Env) (s : Shared) (H : Hp) (E : XK) : Cx where
  prog := P
  w := w
  K := K
  mg := mg
  base := base
  A := A.deeper (PySem.W.ksEnv qual scope s.heap.objs.size f cd cc)
  N := N
  s_0 := s
  H_0 := H
  env := PySem.W.ksEnv qual scope s.heap.objs.size f cd cc
  outer := outer
  stack := PySem.W.ksEnv qual scope s.heap.objs.size f cd cc :: outer
  ex := []
  calm := true
  fn := fun _ => false
  pn := []
  xe := fun e s' => wpAny (model P w) (A.deeper (PySem.W.ksEnv qual scope s.heap.objs.size f cd cc)) (leaving (PySem.W.ksEnv qual scope s.heap.objs.size f cd cc) e) (fun _ s'' => CX outer H s E e s'') (fun e' s'' => CX outer H s E e' s'') s'

/-- what the text has written of an own exception class at C and its __init__ at fI, whose code is at cda, its cell at cc -/
structure SupC (P : Program) (K : PySem.W.Frag) (mg : Str → Option Value) (C cc cda : Addr) : Prop where
  oex : OexC K C
  cell : ∃ cl cld csl, K.lookup cc = some ⟨cl, cld, .cell (some (.ref C)), csl⟩
  code : ∃ (ccl : Value) (cdd : Option Addr) (vs : Array Value) (ccs : Array (Option Value)) (file : Str) (tf : Tok), K.lookup cda = some ⟨ccl, cdd, .fields vs, ccs⟩ ∧ vs[2]? = some (.str file tf) ∧ ((P.main.file : Str) == file) = true
  sub : PySem.W.mroIn K C (.ref C) = some true
  sup : PySem.W.ks_superIn K C C "__init__" = some (some (.builtin "ValueError.__init__"))
  subV : PySem.W.subIn K (.ref C) (.type "ValueError") = some true
  noTop : (P.main.scope.names.lookup ("super" : Str)).isSome = false
  noMg : mg "super" = none
  any : PySem.W.nsIn K cStatics "thirdparty.any" = some none

structure SScope (N : List Str) (sc : Scope) : Prop where
  kind : sc.kind = .function
  co : sc.isCoroutine = false
  gen : sc.isGenerator = false
  nd : N.Nodup
  par : ∀ x ∈ N, sc.names.lookup x = some .local
  nocell : ∀ x ∈ sc.names, x.2 ≠ .cell
  free : ∀ x, sc.names.lookup x = some .free → x = "__class__"
  sup : sc.names.lookup ("super" : Str) = some .globalImplicit
  cls : sc.names.lookup ("__class__" : Str) = some .free

theorem rev_get {N : List Str} {us : List Value} (hlen : N.length = us.length) (nd : N.Nodup) {i : Nat} {x : Str} {u : Value} (h1 : N[i]? = some x) (h2 : us[i]? = some u) : (N.zip us).reverse.lookup x = some u := by
  have key : ∀ (l : List (Str × Value)), (l.map (·.1)).Nodup → ∀ x u, (x, u) ∈ l → l.lookup x = some u := by
    intro l
    induction l with
    | nil => intro _ _ _ h; cases h
    | cons p l ih =>
      intro hn x u hm
      obtain ⟨a, b⟩ := p
      simp only [List.map_cons, List.nodup_cons] at hn
      rcases List.mem_cons.mp hm with e | hm
      · cases e
        simp [List.lookup]
      · have hne : (x == a) = false := by
          have : x ≠ a := fun z => hn.1 (z ▸ List.mem_map_of_mem hm)
          simpa using this
        simp [List.lookup, hne, ih hn.2 x u hm]
  have hz : (N.zip us)[i]? = some (x, u) := by
    rw [List.getElem?_zip_eq_some]
    exact ⟨h1, h2⟩
  refine key _ ?_ _ _ (List.mem_reverse.mpr (List.mem_of_getElem? hz))
  rw [List.map_reverse]
  refine (List.pairwise_reverse (R := fun a b : Str => a ≠ b)).mpr ?_
  refine List.Pairwise.imp (R := fun a b : Str => a ≠ b) (fun h => Ne.symm h) ?_
  rw [List.map_fst_zip (Nat.le_of_eq hlen)]
  exact nd

theorem inv_s {CX : CXT} {P : Program} {w : World} {K : PySem.W.Frag} {mg : Str → Option Value} {base : Heap} {N : List Str} {qual : Str} {scope : Scope} {f cc : Addr} {cd : Value} {A : Around} {outer : List Env} {s : Shared} {H : Hp} {E : XK} {us : List Value} {vs : List V} {h1 : Heap} {tk : Nat} {oc : Value} {ocd : Option Addr} {osl : Array (Option Value)} {cv : Option Value}
    (S : SScope N scope) (hd : A.handled = none) (e0 : Env0 P w K mg base A outer s H) (hl : vs.length = N.length) (r : Vals vs us) (hcell : K.lookup cc = some ⟨oc, ocd, .cell cv, osl⟩)
    (hns : h1.Ns s.heap.objs.size (fun x => (N.zip us).reverse.lookup x)) (hk : ∀ b o, s.heap.get? b = some o → h1.get? b = some o) :
    Inv (cxS CX P w K mg base N qual scope f cc cd A outer s H E) [] (vs.map some) H { s with heap := h1, toks := tk } := by
  have noA : ∀ b : Addr, b ∉ (cxS CX P w K mg base N qual scope f cc cd A outer s H E).ex := fun b z => absurd (show b ∈ ([] : List Addr) from z) (by simp)
  have hcs : ∀ y c, (cxS CX P w K mg base N qual scope f cc cd A outer s H E).env.cells.lookup y = some c → y = "__class__" ∧ c = cc := fun y c h => by
    have h' : List.lookup y [(("__class__" : Str), cc)] = some c := h
    by_cases e : y = "__class__"
    · subst e
      simp [List.lookup] at h'
      exact ⟨rfl, h'.symm⟩
    · have q : (y == ("__class__" : Str)) = false := by simpa using e
      simp [List.lookup, q] at h'
  have hcb : ∃ o, base.get? cc = some o ∧ o.data = .cell cv := ⟨_, e0.mod.kin _ _ hcell, rfl⟩
  obtain ⟨ob, hb1, hb2⟩ := hcb
  refine ⟨⟨e0.mod, S.kind, rfl, rfl, Nat.le_refl _, fun y z c h1 h2 => ?_, fun y hy => ?_, fun y c h _ => absurd h (by show ¬ (false = true); decide), fun _ => hd, Around.frames_deeper e0.frames, .inr ⟨rfl, rfl⟩, fun b z => absurd z (noA b), e0.bs, e0.bsz, fun b _ _ => noA b, fun b z => absurd z (noA b), e0.funs, e0.frf⟩,
    rfl, e0.bare, Un.kept hk, ⟨_, hns, fun i y v h1 h2 h3 => ?_⟩, fun y c h => ?_, e0.hok.fresh (Nat.le_refl _), fun y c h => ?_, fun p hp => absurd (show p ∈ ([] : List (Addr × Obj)) from hp) (by simp), e0.hok.kept hk, ?_⟩
  · exact (hcs y c h1).1.trans (hcs z c h2).1.symm
  · have hy : scope.names.lookup y = some .cell ∨ scope.names.lookup y = some .free := hy
    rcases hy with hy | hy
    · exact absurd rfl (S.nocell _ (PySem.mem_of_lookup hy))
    · have e := S.free y hy
      subst e
      exact ⟨cc, by show List.lookup ("__class__" : Str) [(("__class__" : Str), cc)] = _; simp [List.lookup]⟩
  · have h1' : N[i]? = some y := h1
    have ha : vs[i]? = some v := by
      rw [List.getElem?_map] at h2
      cases e : vs[i]? with
      | none => rw [e] at h2; cases h2
      | some a => rw [e] at h2; cases h2; rfl
    obtain ⟨u, hu, rv⟩ := r.get ha
    exact ⟨u, rv, .inl ⟨S.par y (List.mem_of_getElem? h1'), rev_get (hl.symm.trans r.length) S.nd h1' hu⟩⟩
  · obtain ⟨_, rfl⟩ := hcs y c h
    exact ⟨cv, ob, hk _ _ (e0.bs _ _ hb1).1, hb2⟩
  · obtain ⟨_, rfl⟩ := hcs y c h
    exact (e0.bs _ _ hb1).2
  · show (vs.map some).length = N.length
    rw [List.length_map, hl]

/-- ValueError.__init__ bound to the exception at e, called -/
theorem call_bv {prog : Program} {w : World} {A : Around} {E : Value → Shared → Prop} {h : Heap} {g : Array GenState} {d : Drawn} {t : Nat} {os : OsState}
    {nm q : Str} {C N : Addr} {bs bm : List Value} {hdct : Bool} {sn : List Str} {sub : List Value} {ab : Bool} {col : Option Bool} {dd : Option Addr} {k0 k1 k2 k3 k5 : Option Value}
    {u e t0 : Addr} {rest : List Value} {Q : Value → Shared → Prop}
    (hC : h.get? C = some (excClassObj nm q C N bs bm hdct sn sub ab col dd k0 k1 k2 k3 k5 "ValueError.__new__")) (he : h.get? e = some (HandSPX.excO C t0)) (hu : h.get? u = some (PySem.W.kxs_mw "ValueError.__init__" e)) (hrest : rest.length ≤ sizeLine)
    (hq : ∀ h' t1, (∀ b o, b ≠ e → h.get? b = some o → h'.get? b = some o) → h'.get? e = some (HandSPX.excO C t1) → Q .none ⟨h', g, d, t, os⟩) :
    wpAny (model prog w) A (call (.ref u) rest) Q E ⟨h, g, d, t, os⟩ := by
  refine wpAny_call (codeAny_of_tree ?_)
  show wpAny _ A.in1 (callAny (.ref u) ⟨rest, []⟩) _ _ _
  unfold callAny
  refine wpAny_bind (wpAny_load hu ?_)
  simp only [PySem.W.kxs_mw, show (Value.type "method-wrapper" == Value.type "method" || Value.type "method-wrapper" == Value.type "builtin_function_or_method" || Value.type "method-wrapper" == Value.type "method-wrapper") = true from by decide, if_true]
  refine W.KFB.if_so (by decide) ?_
  refine wpAny_bind (PySem.ESX.check_bound F.excBase_ValueError hC he rfl ?_)
  refine wpAny_bind (wpAny_pure (wpAny_pure ?_))
  refine ⟨plainId_quiet F.excBase_ValueError.init.plain _, codeAny_builtin F.excBase_ValueError.initEntry ?_⟩
  refine PySem.W.exc_init_tree (cls := .ref C) (t0 := t0) (dv := none) (c2 := .none) (c3 := .none) (b4 := .bool false) he hrest fun h' k e' _ => hq h' _ k e'

/-- what super().__init__(e) asks: the argument; the exception, fresh -/
def tSup (C : Addr) (te : TE) : TS := fun D σ H => te σ H fun _ H1 => (∃ a, σ[0]? = some (some (.ref a)) ∧ H1 a = some (exo a C none)) ∧ D.nx σ H1

theorem fn_super {CX : CXT} {P : Program} {w : World} {K : PySem.W.Frag} {mg : Str → Option Value} {base : Heap} {k : Nat} {f C cc cda : Addr} {name qual self : Str} {params : Arguments} {body : List Stmt} {scope : Scope} {dV kV doc pm ct oc : Value} {an od : Option Addr}
    {osl : Array (Option Value)} {N : List Str} {sp : Sp} {parts : List Expr} {rest : List Stmt} {p0 p1 p2 p3 p4 jp : Pos} {ar : Arg} {N' : List Str} {pl : Sem Bool}
    (T : SupC P K mg C cc cda)
    (lk : K.lookup f = some ⟨oc, od, .func (PySem.W.ksFn name qual params body scope dV kV doc pm an (.ref cda) ct cc), osl⟩) (hcd : PySem.W.codeIn K (.ref cda) qual = true) (S : SScope N scope) (hN : N = self :: N')
    (hpar : (params.posonlyargs ++ params.args).head? = some ar) (har : ar.arg = self)
    (hbd : body = .Expr (.Call (.Attribute (.Call (.Name "super" p0) [] [] p1) "__init__" p2) [.JoinedStr parts jp] [] p3) p4 :: rest)
    (hcall : ∀ env : Env, eval (.Call (.Attribute (.Call (.Name "super" p0) [] [] p1) "__init__" p2) [.JoinedStr parts jp] [] p3) env = (do
      let ov ← attributeBase (.Call (.Name "super" p0) [] [] p1) "__init__" env (eval (.Call (.Name "super" p0) [] [] p1) env)
      standAt p2.atName
      let (f, first) ← holding [ov] (getMethod ov "__init__" pl)
      callWith p3 f first (backTo p3 (starEach [.JoinedStr parts jp] env)) []))
    (hsw : ∀ env : Env, swapsWith (.Call (.Attribute (.Call (.Name "super" p0) [] [] p1) "__init__" p2) [.JoinedStr parts jp] [] p3) none p4.line env = pure false)
    (len : ∀ vs H Q E, sp vs H Q E → vs.length = N.length)
    (hbody : ∀ (A : Around) (outer : List Env) (s : Shared) (H : Hp) (vs : List V) (Q : VK) (E : XK), Room k (A.deeper (PySem.W.ksEnv qual scope s.heap.objs.size f (.ref cda) cc)) → sp vs H Q E →
      ∃ te t, PE (cxS CX P w K mg base N qual scope f cc (.ref cda) A outer s H E) (.JoinedStr parts jp) te ∧ PSs (cxS CX P w K mg base N qual scope f cc (.ref cda) A outer s H E) rest t ∧
        (∃ a, vs[0]? = some (.ref a) ∧ H a = some (exo a C none)) ∧ tSeq (tSup C te) t { nx := fun _ H' => Q .non H', rt := Q } (vs.map some) H) :
    FnOk P w K mg base CX (k + 1) f (PySem.W.ksFn name qual params body scope dV kV doc pm an (.ref cda) ct cc) N sp := by
  refine ⟨len, fun A outer s H args us vs Q E hr e0 hb r hsp => ?_⟩
  have hl := len _ _ _ _ hsp
  have KX : K.In s.heap := e0.mod.kin.keeps fun b o e => (e0.bs b o e).1
  have lim : s.heap.NoLimit := e0.mod.nolimit.keeps fun b o e => (e0.bs b o e).1
  obtain ⟨cl, cld, csl, hcell⟩ := T.cell
  obtain ⟨ccl, cdd, vsC, ccs, file, tf, hcode, hvs2, hfile⟩ := T.code
  obtain ⟨nm, q, Nc, bs, bm, sn, sub, ab, col, dd, k0, k1, k2, k3, k5, hC, hbm⟩ := T.oex.cls
  obtain ⟨te, t, hpe, hps, ⟨a, ha0, hea⟩, hq⟩ := hbody A outer s H vs Q E (hr.deeper _) hsp
  refine ks_codeAny_call_defAt (fd := PySem.W.ksFn name qual params body scope dV kV doc pm an (.ref cda) ct cc) (body := body) (binds := N.zip us) hr.depth (KX _ _ lk) rfl lim (PySem.W.codeRec_of KX hcd) rfl hb S.nocell (fun y hy => S.par y.1 (List.of_mem_zip (a := y.1) (b := y.2) hy).1) (fun h1 hns hk => ?_) S.co S.gen S.kind
  have I : Inv (cxS CX P w K mg base N qual scope f cc (.ref cda) A outer s H E) [] (vs.map some) H { s with heap := h1, toks := s.toks + (N.zip us).length } := inv_s S hr.hd e0 hl r hcell hns hk
  subst hbd
  subst hN
  have ka0 : ∃ u0 us', us = u0 :: us' := by
    cases us with
    | nil => have q := r.length; rw [hl] at q; exact absurd q (by simp)
    | cons u0 us' => exact ⟨u0, us', rfl⟩
  obtain ⟨u0, us', rfl⟩ := ka0
  have hu0 : u0 = Value.ref a := by
    cases r with
    | cons r0 rt =>
      rw [List.getElem?_cons_zero] at ha0
      cases ha0
      exact r0
  subst hu0
  have hL : ((self :: N').zip (Value.ref a :: us')).reverse.lookup self = some (Value.ref a) := rev_get (by rw [← r.length]; exact hl.symm) S.nd (i := 0) rfl rfl
  have hself : scope.names.lookup self = some .local := S.par self List.mem_cons_self
  have hne : a ≠ C := fun z => by
    obtain ⟨t1, ho⟩ := exo_at e0.hok hea
    rw [z, KX _ _ hC] at ho
    cases ho
  generalize hs1 : s.toks + ((self :: N').zip (Value.ref a :: us')).length = tk1 at I ⊢
  obtain ⟨hp0, g, d, tk, os⟩ := s
  let env := PySem.W.ksEnv qual scope hp0.objs.size f (.ref cda) cc
  show PySem.wpAt (model P w) (A.deeper env) (.func (.Expr (.Call (.Attribute (.Call (.Name "super" p0) [] [] p1) "__init__" p2) [.JoinedStr parts jp] [] p3) p4 :: rest) env) (execs (.Expr (.Call (.Attribute (.Call (.Name "super" p0) [] [] p1) "__init__" p2) [.JoinedStr parts jp] [] p3) p4 :: rest) env) _ _ _
  have hint : interactive env = false := by
    unfold interactive
    rw [show env.scope.kind = ScopeKind.function from S.kind]
    rfl
  refine ks_wpAt_execs_cons (ks_wpAt_Expr_any (ks_wpAt_MethodCall (pl := pl) ?_ (hcall env)) hint (hsw env))
  · refine ks_wpAt_super_base (env := env) S.sup S.cls (by decide) rfl (hk _ _ (KX _ _ lk)) rfl hpar rfl (hk _ _ (KX _ _ hcode)) rfl hvs2 hfile T.noTop ?_
    obtain ⟨mb, hb1, hb2⟩ := I.mod.blt
    have hbs : mb ("super" : Str) = some (.type "super") := (hb2 _ (by decide)).trans (by decide +kernel)
    refine PySem.W.ks_loadName_global (env := env) S.kind S.sup (Calls.loadGlobal_builtin (env := env) (I.mod.glob.keeps I.bk) T.noMg (hb1.keeps I.bk) hbs ⟨rfl, ?_⟩)
    refine wpAny_loadName_free (env := env) S.kind S.cls rfl ⟨_, hk _ _ (KX _ _ hcell), rfl⟩ ?_
    rw [har]
    refine wpAny_loadName_local (env := env) S.kind hself hns hL ?_
    have KX1 : K.In h1 := KX.keeps hk
    have hC1 := KX1 _ _ hC
    obtain ⟨t1, hx1⟩ := exo_at I.hok hea
    have hcl : PySem.W.clsIn K C = some { name := nm, bases := bs, mro := .ref C :: bm, ns := Nc, qualname := q, hasDict := true, slotNames := sn, subclasses := sub, abstract := ab, collection := col, hasDel := false } := by unfold PySem.W.clsIn; rw [hC] <;> rfl
    have hsup := T.sup
    unfold PySem.W.ks_superIn at hsup
    rw [hcl] at hsup
    refine ks_wpAny_isType_cls hC1 rfl ⟨rfl, ?_⟩
    refine ks_wpAny_call_super hC1 rfl hx1 rfl (fun c z => by cases z) (PySem.W.looks_mroIn KX1 T.sub) (fun h2 e2 k2 => ?_)
    have I1 : Inv (cxS CX P w K mg base (self :: N') qual scope f cc (.ref cda) A outer ⟨hp0, g, d, tk, os⟩ H E) [] (vs.map some) H ⟨h2, g, d, tk1, os⟩ := I.kept (t' := tk1) k2
    have KX2 : K.In h2 := KX1.keeps k2
    have J2 : PySem.W.InstAt h2 a ({ cls := .ref C, dict := none, data := .fields #[.ref t1, .none, .none, .none, .bool false, .none] } : Obj) C none := ⟨k2 _ _ hx1, rfl, rfl, trivial⟩
    refine PySem.W.kxs_getMethod PySem.W.kxs_ValueError e2 (PySem.W.looks_opaque KX2 T.any) (fun A Q E s k q => wpAny_bind ((PySem.W.looks_clsIn KX2 hcl) A _ E s k (wpAny_pure q))) rfl KX2 hsup (J2.type.andThen (PySem.W.looks_subIn KX2 T.subV)) hne (by decide) ?_
    have fp := I1.fpOk (b := h2.objs.size) (H' := H) (Nat.le_refl _) (I1.hok.fresh (Nat.le_refl _))
    have I2 : Inv (cxS CX P w K mg base (self :: N') qual scope f cc (.ref cda) A outer ⟨hp0, g, d, tk, os⟩ H E) [(h2.objs.size, PySem.W.kxs_mw "ValueError.__init__" a)] (vs.map some) H ⟨h2.push (PySem.W.kxs_mw "ValueError.__init__" a), g, d, tk1 + 1, os⟩ :=
      (I1.kept (t' := tk1 + 1) (h' := h2.push (PySem.W.kxs_mw "ValueError.__init__" a)) fun b o z => Heap.get?_push_of_some _ z).pins_of fun p hp => by
        have ep : p = (h2.objs.size, PySem.W.kxs_mw "ValueError.__init__" a) := by simpa using hp
        subst ep
        exact ⟨Heap.get?_push_at rfl rfl, fp.1, fp.2.1, fp.2.2.1, fun v z => by cases z⟩
    have hst : starEach [Expr.JoinedStr parts jp] env = (false, eval (.JoinedStr parts jp) env) :: starEach [] env := rfl
    rw [hst]
    refine PySem.W.kxs_callWith (i := "ValueError.__init__") (x := a) (by rfl) (Calls.evalArgs_plain ?_)
    refine Calls.spliced_cons (thn (hpe.run [(h2.objs.size, PySem.W.kxs_mw "ValueError.__init__" a)] _ (vs.map some) H _ I2 hq) fun u1 s3 hh => Calls.spliced_nil ?_)
    obtain ⟨v1, H3, I3, r3, ⟨a', ea', hea3⟩, q3⟩ := hh
    have ea2 : a' = a := by
      rw [List.getElem?_map, ha0] at ea'
      cases ea'
      rfl
    subst ea2
    have hu3 : s3.heap.get? h2.objs.size = some (PySem.W.kxs_mw "ValueError.__init__" a') := (I3.pin (h2.objs.size, PySem.W.kxs_mw "ValueError.__init__" a') (by simp)).1
    refine ⟨hu3, ?_⟩
    obtain ⟨t3, hx3⟩ := exo_at I3.hok hea3
    have KX3 := I3.kIn
    have hlen1 : [u1].length ≤ sizeLine := by
      rw [sizeLine_eq]
      exact (by decide : 1 ≤ 16777216)
    obtain ⟨hp3, g3, d3, tk3, os3⟩ := s3
    refine call_bv (KX3 _ _ hC) hx3 hu3 hlen1 fun h4 t4 k4 hx4 => ?_
    have J := I3.write (t' := tk3) (x := a') (e := a') (o := exo a' C none) (by rw [hea3]; exact True.intro) (.inl rfl) k4 ⟨_, hx4⟩ (exo_ok hx4)
    have eu : upd H3 a' (exo a' C none) = H3 := by
      funext b
      by_cases hb : b = a'
      · rw [hb, upd_same, hea3]
      · rw [upd_ne hb]
    rw [eu] at J
    have J0 : Inv (cxS CX P w K mg base (self :: N') qual scope f cc (.ref cda) A outer ⟨hp0, g, d, tk, os⟩ H E) [] (vs.map some) H3 ⟨h4, g3, d3, tk3, os3⟩ := Inv.unpinned (pins := []) J
    refine PySem.wpAt_of_wpAny ?_
    refine wpAny_mono (hps.run [] _ (vs.map some) H3 _ J0 q3) (fun fl s' hs => ?_) fun e s' hs => hs
    have fin : ∀ {σ' : L2.St} {H' : Hp} {v : V} {u : Value}, Inv (cxS CX P w K mg base (self :: N') qual scope f cc (.ref cda) A outer ⟨hp0, g, d, tk, os⟩ H E) [] σ' H' s' → RelV v u → Q v H' → CE outer P w H ⟨hp0, g, d, tk, os⟩ Q u s' :=
      fun {σ' H' v u} J rv q => ⟨v, H', J.os, J.bare, J.base, J.hok, rv, q⟩
    cases fl with
    | ret u =>
      obtain ⟨v, σ', H', J, rv, q⟩ := hs
      exact fin J rv q
    | next =>
      obtain ⟨σ', H', J, q⟩ := hs
      exact fin (v := V.non) (u := Value.none) J rfl q
    | brk =>
      obtain ⟨_, _, _, q⟩ := hs
      exact False.elim q
    | cont =>
      obtain ⟨_, _, _, q⟩ := hs
      exact False.elim q
end Vk
set_option Elab.async false
set_option linter.all false
set_option maxRecDepth 100000
set_option maxHeartbeats 4000000
namespace Vk
open PySem PySem.Spec PyProof.Rows L2
/-! isinstance of a caught error that has a dict -/
section
open PySem.W
variable {prog : Program} {w : World} {A : Around} {E : Value → Shared → Prop} {s : Shared} {K : Frag} {x D : Addr} {ox od : Obj}
theorem cls_of_exc {Q : Option Value → Shared → Prop} (T : ExcC K D) (X : K.In s.heap) (I : InstAt s.heap x ox D (some od)) (h : Q (some (.ref D)) { s with toks := s.toks + 1 }) : wpAny (model prog w) A (getAttr? (.ref x) "__class__") Q E s := by
  have hf : findObj K D (some od) "__class__" = some (.bind (.builtin "getset_descriptor.__get__") (.builtin "object.__class__")) :=
    findObj_data (by obtain ⟨cd, hc, _⟩ := any_some T.hd; rw [hc]; rfl) T.ha T.hn T.ht
  obtain ⟨hp, g, d, t, os⟩ := s
  have K0 := I.type (M := model prog w)
  have K1 := looks_findIn (M := model prog w) X T.hg
  have K2 := looks_findIn (M := model prog w) X T.hk
  have K3 := looks_find (M := model prog w) X I hf
  have sub : Looks (model prog w) hp (isInstance (.ref x) (.type "BaseException")) true := K0.andThen (looks_subIn X T.hs)
  have q0 : (false && onTheHeap (Value.builtin "BaseException.__getattribute__")) = false := rfl
  have q2 : (Value.builtin "BaseException.__getattribute__" == Value.builtin "object.__getattribute__") = false := by decide +kernel
  have q1 : (onTheHeap (Value.ref D) && Value.builtin "BaseException.__getattribute__" == Value.builtin "object.__getattribute__") = false := by rw [q2]; rfl
  unfold getAttr? getAttrBy? getAttrBy
  refine wpAny_bind (wpAny_mkText (wpAny_bind (wpAny_attempt (wpAny_holding (wpAny_bind (K0.at (wpAny_bind (K1.at ?_))))))))
  show wpAny _ _ (if (onTheHeap (Value.ref D) && Value.builtin "BaseException.__getattribute__" == Value.builtin "object.__getattribute__") = true then _ else _) _ _ _
  rw [q1, if_neg Bool.false_ne_true]
  unfold getAttrByItsOwn hookBefore
  refine wpAny_bind ?_
  rw [if_pos (show onTheHeap (Value.ref D) = true from rfl)]
  refine K2.at (wpAny_bind (wpAny_attempt (wpAny_holding ?_)))
  unfold callGetattribute
  rw [q0, if_neg Bool.false_ne_true]
  unfold boundAndCalled
  rw [PySem.F.excAttr_ValueError.ga.bind (.ref x)]
  refine wpAny_bind (wpAny_pure ?_)
  show wpAny _ _ (call (.builtin "BaseException.__getattribute__") [.ref x, .str "__class__" t]) _ _ _
  refine wpAny_call (codeAny_call_builtin PySem.F.excAttr_ValueError.ga.plain PySem.F.entry_bexc_ga ?_)
  refine @check_slot (model prog w) _ _ ⟨hp, g, d, t + 1, os⟩ "BaseException.__getattribute__" "BaseException" "__getattribute__" (.ref x) [.str "__class__" t] [] _ (by decide +kernel) (by decide +kernel) sub (PySem.F.args_bexc_ga (.ref x) (.str "__class__" t)) ?_
  unfold Builtin.«object.__getattribute__»
  refine wpAny_bind (wpAny_of_eq (a := ((Value.ref x : Value), [Value.str "__class__" t])) (by first | rfl | (simp only [slotArgs]; rfl)) ?_)
  refine wpAny_bind (wpAny_pure (wpAny_bind (K0.at (wpAny_bind (K3.at ?_)))))
  show wpAny _ _ (holding [Value.builtin "object.__class__"] (call (.builtin "getset_descriptor.__get__") [.builtin "object.__class__", .ref x, .ref D]) >>= ret) _ _ _
  refine wpAny_bind (wpAny_holding (wpAny_call (class_get (s := ⟨hp, g, d, t + 1, os⟩) (ox := ox) (od := some od) X I T.hm (wpAny_pure ?_))))
  show wpAny _ _ (handedOut (.ref D)) _ _ _
  rw [handedOut_of (v := .ref D) rfl]
  first
    | exact wpAny_pure (wpAny_pure h)
    | exact wpAny_pure h
    | exact wpAny_pure (wpAny_bind (wpAny_pure (wpAny_pure h)))
theorem kit_excD (T : ExcC K D) : KitX K (.ref x) (.ref D) (fun h => InstAt h x ox D (some od)) where
  ty := fun _ _ _ I => I.type
  it := fun _ _ X _ => by
    obtain ⟨cdD, hcD, _⟩ := any_some T.hd
    unfold clsIn at hcD
    split at hcD
    · rename_i c1 d1 cd1 sl1 ho
      intro A1 Q1 E1 s1 k q
      unfold isType loadHead
      exact wpAny_bind (wpAny_loadPart (k _ _ (X _ _ ho)) (wpAny_pure q))
    · cases hcD
  ne := fun h tp dd its n sl X htp => by
    obtain ⟨cdD, hcD, _⟩ := any_some T.hd
    refine Bool.eq_false_iff.mpr fun q => ?_
    have e : D = tp := Value.ref.inj (beq_iff_eq.mp q)
    subst e
    unfold clsIn at hcD
    split at hcD
    · rename_i c1 d1 cd1 sl1 ho
      have z := (X _ _ ho).symm.trans htp
      cases z
    · cases hcD
  ca := fun X I k => cls_of_exc T X I k
end
/-- the caught error at a, of the class at D, its dict at dd: it can be asked for its class -/
theorem exc_inst {X : Cx} {a D dd : Addr} {oe : Obj} {pn : List (Addr × Obj)} {pins : List (Addr × Obj)} {σ : L2.St} {H : Hp} {s : Shared} {fs : List (Str × V)} (hz : Zc (.ref D) (some dd) oe) (hf : ∃ vs, oe.data = .fields vs)
    (I : Inv (X.suite a ((a, oe) :: pn)) pins σ H s) (hd : H dd = some (.xd fs)) : ∃ od, PySem.W.InstAt s.heap a oe D (some od) := by
  obtain ⟨ha, _⟩ := I.pin (a, oe) (List.mem_append_left _ List.mem_cons_self)
  obtain ⟨vs, hv⟩ := hf
  have hx : ObjOk X.prog X.w H s.heap dd (.xd fs) := I.hok dd _ hd
  obtain ⟨mA, hns, hr⟩ := hx
  obtain ⟨od, ho, hl⟩ := lookIn_ns hns
  exact ⟨od, ha, hz.1, by unfold PySem.W.notCls; rw [hv] <;> rfl, by rw [hz.2]; exact ho⟩
/-- isinstance(e, c), isinstance(e, (c1, c2)) in the suite: t the class of e as a value -/
def rIsX (K : PySem.W.Frag) (a : Addr) (cls : Value) (d : Option Addr) : List V → Hp → VK → Prop := fun xs H Q =>
  ∃ (D dd : Addr) (fs : List (Str × V)), cls = .ref D ∧ d = some dd ∧ ExcC K D ∧ H dd = some (.xd fs) ∧
    ((∃ (c : V) (u : Value) (b : Bool), xs = [.ref a, c] ∧ ClsV c u ∧ PySem.W.kitOne K (.ref D) u = some b ∧ Q (.bl b) H) ∨
      ∃ (tp : Addr) (cs : List V) (us : List Value) (b : Bool), xs = [.ref a, .ref tp] ∧ H tp = some (.tup cs) ∧ Paired ClsV cs us ∧ PySem.W.kitAny K (.ref D) us = some b ∧ Q (.bl b) H)
theorem call_isX {X : Cx} {a : Addr} {cls : Value} {d : Option Addr} {oe : Obj} {pn : List (Addr × Obj)} (hz : Zc cls d oe) (hf : ∃ vs, oe.data = .fields vs) : CallR (X.suite a ((a, oe) :: pn)) (.builtin "isinstance") (rIsX X.K a cls d) := by
  intro pins s σ H xs us Q I r h
  obtain ⟨D, dd, fs, rfl, rfl, C, hd, h⟩ := h
  obtain ⟨od, J⟩ := exc_inst hz hf I hd
  rcases h with ⟨c, u, b, rfl, k, e, q⟩ | ⟨tp, cs, ws, b, rfl, hT, k, e, q⟩
  · obtain ⟨u1, u2, rfl, r1, r2⟩ := vals2 r
    cases (show u1 = Value.ref a from r1)
    have e2 := k.eq r2
    subst e2
    exact PySem.W.kia_one (kit_excD C) I.kIn J e (fun z => nomatch z) fun tk => ⟨.bl b, H, I.tok tk, rfl, q⟩
  · obtain ⟨u1, u2, rfl, r1, r2⟩ := vals2 r
    cases (show u1 = Value.ref a from r1)
    cases (show u2 = Value.ref tp from r2)
    obtain ⟨_, its, rv, o, h1, h2, n, h3⟩ := (show ObjOk X.prog X.w H s.heap tp (.tup cs) from I.hok tp _ hT)
    have e3 := ClsV.all k rv
    subst e3
    obtain ⟨oc, od', dt, sl⟩ := o
    simp only at h2 h3
    subst h2 h3
    exact PySem.W.kia_tup (kit_excD C) I.kIn J h1 e (fun z => nomatch z) fun tk => ⟨.bl b, H, I.tok tk, rfl, q⟩

/-! x == y by an own __eq__ -/
def rOwnI (K : PySem.W.Frag) (C : Addr) (sp : Sp) (E : XK) : R2 := fun x y H Q => ∃ a dx fs b C' dy gs, x = .ref a ∧ y = .ref b ∧ H a = some (.ins C dx fs) ∧ H b = some (.ins C' dy gs) ∧ PySem.W.notFirst K C (.ref C') = true ∧ sp [x, y] H Q E
section
variable {X : Cx} {CX : CXT} {k : Nat} {g C : Addr} {fd : FuncData} {ps : List Str} {sp : Sp} {E : XK}
theorem op_ownI {op : CmpOp} (hop : ∀ a b, compareOp op a b = richCompare op a b) (hs : PySem.W.findIn X.K (.ref C) (cmpInfo op).2.1 = some (some (.ref g))) (hf : PySem.W.isFn X.K (.ref g) = true) (F : FnOk X.prog X.w X.K X.mg X.base CX k g fd ps sp)
    (hr : Room k X.A) (hb : Binds X.K fd ps []) (hx : Passes CX X E) : OpR X (compareOp op) (rOwnI X.K C sp E) := by
  intro pins s σ H x y v u Q I rx ry h
  obtain ⟨a, dx, fs, b, C', dy, gs, rfl, rfl, ha, hbb, hn, q⟩ := h
  cases (show v = Value.ref a from rx)
  cases (show u = Value.ref b from ry)
  obtain ⟨mA, O, _⟩ := ins_get I.hok ha
  obtain ⟨od, J, _⟩ := O.look
  obtain ⟨mB, O2, _⟩ := ins_get I.hok hbb
  obtain ⟨od2, J2, _⟩ := O2.look
  obtain ⟨m, hF⟩ := I.fr
  rw [hop]
  refine PySem.W.cmp_K (op := op) (tb := .ref C') hr.units0 hF I.ok.mod.kin J J2.type hn hs hf ?_
  refine wpAny_mono (run_fn (us := [.ref a, .ref b]) (vs := [.ref a, .ref b]) F hr hb .nil hx I (.cons rfl (.cons rfl .nil)) (by rw [List.append_nil]; exact q)) (fun w s1 z => ?_) fun _ _ x => x
  obtain ⟨z1, H1, I1, rz, qz⟩ := z
  exact SlX.cmpback rz ⟨z1, H1, I1, rz, qz⟩
end

/-! C(e, ..) whose __init__ may raise, in a try: what is raised is wished for at the slots -/
def tMakeS (C : Addr) (sp : Sp) (dvs : List V) (E : L2.St → XK) (t : TA) : TE := fun σ H Q => t σ H fun vs H1 => ∀ x dx, H1 x = none → H1 dx = none → dx ≠ x →
  sp (.ref x :: (vs ++ dvs)) (upd (upd H1 dx (.own x)) x (.ins C dx [])) (fun v H2 => v = .non ∧ Q (.ref x) H2) (E σ)
section
variable {X : Cx} {CX : CXT} {k : Nat} {f C : Addr} {fd : FuncData} {ps : List Str} {sp : Sp} {dvs : List V} {ds : List Value} {E : L2.St → XK} {x : Str} {p pos : Pos} {e : Expr} {es : List Expr} {t : TA}
theorem pe_makeS (M : Mk X.K C f) (F : FnOk X.prog X.w X.K X.mg X.base CX k f fd ps sp) (hr : Room (k + 1) X.A) (hg : Gl X x) (hm : X.mg x = some (.ref C)) (hb : Binds X.K fd ps ds) (hd : Vals dvs ds) (hx : ∀ σ, PassesAt CX X σ (E σ))
    (ha : PA X (e :: es) t) (hdb : (x == ("__debug__" : Str)) = false := by decide) (he : starEach (e :: es) X.env = (false, eval e X.env) :: starEach es X.env := by rfl) (hpl : (backTo pos (starEach es X.env)).any (·.1) = false := by rfl) :
    PE X (.Call (.Name x p) (e :: es) [] pos) (tMakeS C sp dvs E t) := by
  refine ⟨fun pins s σ H Q I h => ?_⟩
  refine wpAny_Call_Name_kw (ld_glob I hg hm ?_ hdb)
  refine PySem.W.callWith_K (h₀ := X.base) I.ok.mod.kin M.kp (thn (ha.run pos pins s σ H _ I h) fun us s1 hh => ?_) he hpl
  obtain ⟨vs, H1, I1, r, q⟩ := hh
  refine ⟨I1.kIn, ?_⟩
  show wpAny _ _ (call (.ref C) us) _ _ _
  have hq := q (s1.heap.objs.size + 1) s1.heap.objs.size (I1.hok.fresh (Nat.le_succ _)) (I1.hok.fresh (Nat.le_refl _)) (Nat.ne_of_lt (Nat.lt_succ_self _))
  have I2 := Inv.made (C := C) I1
  have r2 : Vals (V.ref (s1.heap.objs.size + 1) :: (vs ++ dvs)) (Value.ref (s1.heap.objs.size + 1) :: (us ++ ds)) := .cons rfl (r.append hd)
  have hl : (Value.ref (s1.heap.objs.size + 1) :: us ++ ds).length = ps.length := by
    have e := r2.length
    rw [F.len _ _ _ _ hq] at e
    exact e.symm
  refine wpAny_call (make_map (f := f) I1.kIn M.makes M.init (beq_iff_eq.mp M.fn) (codeAny_mono (F.run _ X.stack _ _ ⟨Value.ref (s1.heap.objs.size + 1) :: us, []⟩ (Value.ref (s1.heap.objs.size + 1) :: (us ++ ds)) _ _ (E σ) (hr.make C us [])
    (I2.env0.make C us []) (hb _ (Value.ref (s1.heap.objs.size + 1) :: us) I2.kIn hl) r2 hq) fun r3 s3 hq3 => ?_))
  cases r3 with
  | error e => exact hx σ _ _ _ e s3 I2 hq3
  | ok fl =>
    cases fl with
    | ret u =>
      obtain ⟨v, H3, I3, rv, ev, q3⟩ := I2.after hq3
      subst ev
      exact ⟨rv, ⟨V.ref (s1.heap.objs.size + 1), H3, I3, rfl, q3⟩⟩
    | next => exact False.elim hq3
    | brk => exact False.elim hq3
    | cont => exact False.elim hq3
end
end Vk
set_option Elab.async false
set_option linter.all false
set_option maxRecDepth 100000
set_option maxHeartbeats 4000000
/-! set(text) and len(set(text)), whatever the text -/
namespace Vk
open PySem PySem.Spec PyProof.Rows L2

/-- the different codes, in the order in which they are met -/
def met : List Nat → List Nat
  | [] => []
  | c :: r => if (met r).contains c then met r else c :: met r
def metAt (l : List Nat) (i : Nat) : List Nat := met (l.take i).reverse
theorem metAt_succ {l : List Nat} {i c : Nat} (h : l[i]? = some c) : metAt l (i + 1) = if (metAt l i).contains c then metAt l i else c :: metAt l i := by
  unfold metAt
  have e : l.take (i + 1) = l.take i ++ [c] := by
    rw [List.take_add_one, h]
    rfl
  rw [e, List.reverse_append]
  rfl
theorem met_len : ∀ l : List Nat, (met l).length ≤ l.length
  | [] => Nat.le_refl _
  | c :: r => by
    have ih := met_len r
    unfold met
    split
    · exact Nat.le_succ_of_le ih
    · simp only [List.length_cons]
      omega
theorem mem_met : ∀ (l : List Nat) (c : Nat), c ∈ met l ↔ c ∈ l
  | [], c => Iff.rfl
  | a :: r, c => by
    have ih := mem_met r
    unfold met
    by_cases h : (met r).contains a = true
    · rw [if_pos h, ih]
      have ha : a ∈ r := (ih a).mp (by simpa using h)
      constructor
      · exact fun q => List.mem_cons_of_mem _ q
      · intro q
        rcases List.mem_cons.mp q with rfl | q
        · exact ha
        · exact q
    · rw [if_neg h]
      simp only [List.mem_cons, ih]
theorem met_full : ∀ l : List Nat, (met l).length = l.length ↔ l.Nodup
  | [] => by simp [met]
  | a :: r => by
    have ih := met_full r
    have hl := met_len r
    unfold met
    by_cases h : (met r).contains a = true
    · rw [if_pos h]
      have ha : a ∈ r := (mem_met r a).mp (by simpa using h)
      constructor
      · intro e
        simp only [List.length_cons] at e
        omega
      · intro q
        exact absurd ha (List.nodup_cons.mp q).1
    · rw [if_neg h]
      have ha : a ∉ r := fun q => h (by simpa using (mem_met r a).mpr q)
      simp only [List.length_cons, List.nodup_cons, ha, not_false_eq_true, true_and, Nat.add_right_cancel_iff]
      exact ih
theorem nodup_rev {l : List Nat} : l.reverse.Nodup ↔ l.Nodup := by
  refine (List.pairwise_reverse (R := fun a b : Nat => a ≠ b)).trans ?_
  exact ⟨fun h => h.imp Ne.symm, fun h => h.imp Ne.symm⟩
theorem metAt_end (l : List Nat) : (metAt l l.length).length = l.length ↔ l.Nodup := by
  unfold metAt
  rw [List.take_length]
  have h := met_full l.reverse
  rw [List.length_reverse] at h
  exact h.trans nodup_rev
/-- the set of the signs met -/
def metS (l : List Nat) (i : Nat) : Str → Bool := fun k => (metAt l i).any fun c => decide (k = (⟨#[c]⟩ : Str))
theorem metS_mem {l : List Nat} {i c : Nat} : metS l i ⟨#[c]⟩ = (metAt l i).contains c := by
  unfold metS
  rw [Bool.eq_iff_iff, List.any_eq_true]
  constructor
  · rintro ⟨d, hd, e⟩
    have e1 : [c] = [d] := congrArg (fun y : Str => y.cps.toList) (of_decide_eq_true e)
    have e2 : c = d := (List.cons.inj e1).1
    simpa [e2] using hd
  · intro h
    exact ⟨c, by simpa using h, by simp⟩
theorem metS_step {l : List Nat} {i c : Nat} (h : l[i]? = some c) (k : Str) : (metS l i k || decide (k = (⟨#[c]⟩ : Str))) = metS l (i + 1) k := by
  unfold metS
  rw [metAt_succ h]
  by_cases q : (metAt l i).contains c = true
  · rw [if_pos q]
    by_cases e : k = (⟨#[c]⟩ : Str)
    · subst e
      have := metS_mem (l := l) (i := i) (c := c)
      unfold metS at this
      rw [this, q]
      rfl
    · simp [e]
  · rw [if_neg q, List.any_cons, Bool.or_comm]
theorem metN_step {l : List Nat} {i c : Nat} (h : l[i]? = some c) : (if metS l i ⟨#[c]⟩ = true then (metAt l i).length else (metAt l i).length + 1) = (metAt l (i + 1)).length := by
  rw [metAt_succ h, metS_mem]
  split
  · rfl
  · rfl

section
variable {prog : Program} {w : World} {A : Around} {R : Result → Shared → Prop} {I : Addr} {fp wr : List Addr} {G : Array GenState → Array GenState → Prop} {P : Nat → Value → Prop} {St : Nat → Shared → Prop}
theorem upd_text {l : List Nat} (W : WalksS prog w A.in1 I fp wr G l.length P St) (S : Addr) (hSf : S ∉ fp)
    (hval : ∀ i v, P i v → ∃ c t, l[i]? = some c ∧ v = .str ⟨#[c]⟩ t) (hb : l.length + 1 < scanBound) :
    ∀ (k i : Nat) (s : Shared), l.length - i = k → i ≤ l.length → St i s → s.heap.SetOf (strKind prog w) S (metS l i) (metAt l i).length →
      (∀ s', Moved (S :: wr) G s s' → s'.heap.SetOf (strKind prog w) S (metS l l.length) (metAt l l.length).length → R (.ok (.ret .none)) s') → codeAny (model prog w) A (.builtin "set.update.loop" ⟨[.ref S, .ref I], []⟩) R s := by
  have hSw : S ∉ wr := fun h => hSf (W.sub _ h)
  have hsub : ∀ b ∈ wr, b ∈ S :: wr := fun b hb => List.mem_cons_of_mem _ hb
  intro k
  induction k with
  | zero =>
    intro i s hk hi hst hS hR
    obtain rfl : i = l.length := by omega
    refine codeAny_builtin PyProof.Rows.F.entry_set_update_loop ?_
    rw [Around.under_plainId PyProof.Rows.F.plain_set_update_loop _]
    show wpAny _ A.in1 (pyNext (.ref I) >>= _) _ _ s
    refine wpAny_bind (W.done s _ _ hst fun s1 hm => ?_)
    show wpAny _ A.in1 (ret Value.none) _ _ s1
    refine wpAny_pure (hR s1 (hm.mono hsub) ?_)
    obtain ⟨o, es, ep, t, ho, more⟩ := hS
    exact ⟨o, es, ep, t, hm.heap S _ hSw ho, more⟩
  | succ k ih =>
    intro i s hk hi hst hS hR
    have hlt : i < l.length := by omega
    refine codeAny_builtin PyProof.Rows.F.entry_set_update_loop ?_
    rw [Around.under_plainId PyProof.Rows.F.plain_set_update_loop _]
    show wpAny _ A.in1 (pyNext (.ref I) >>= _) _ _ s
    refine wpAny_bind (W.item i s _ _ hlt hst fun v s1 hP hst1 hm => ?_)
    obtain ⟨c, t, hc, rfl⟩ := hval i v hP
    have hS1 : s1.heap.SetOf (strKind prog w) S (metS l i) (metAt l i).length := by
      obtain ⟨o, es, ep, tb, ho, more⟩ := hS
      exact ⟨o, es, ep, tb, hm.heap S _ hSw ho, more⟩
    show wpAny _ A.in1 (holding [Value.str ⟨#[c]⟩ t] (setAdd S (.str ⟨#[c]⟩ t)) >>= _) _ _ s1
    refine wpAny_bind (wpAny_holding ?_)
    unfold setAdd
    refine wpAny_holding (wpAny_bind ((strKind prog w).pyHash (k := ⟨#[c]⟩) (strKind_is _ _ _ _) ?_))
    have hroom : (metAt l i).length + 1 < scanBound := by
      have h1 := met_len (l.take i).reverse
      rw [List.length_reverse, List.length_take] at h1
      have h2 : (metAt l i).length ≤ min i l.length := h1
      omega
    refine wpAny_setAddHashed_of (knd := strKind prog w) (s := { s1 with toks := s1.toks + 1 }) (strKind_is _ _ _ _) rfl hS1 hroom fun h2 hsb hS2 => ?_
    have hSi : h2.SetOf (strKind prog w) S (metS l (i + 1)) (metAt l (i + 1)).length := SetOf_congr hS2 (fun y => metS_step hc y) (metN_step hc)
    refine wpAny_pure ⟨plainId_quiet PyProof.Rows.F.plain_set_update_loop _, ih (i + 1) _ (by omega) hlt (W.frame _ s1 _ _ hst1 (Nat.le_succ _) fun b hb o e => ?_) hSi fun s3 hm3 hS3 => ?_⟩
    · rw [hsb.2 b (fun z : b = S => hSf (by rw [← z]; exact hb))]
      exact e
    · refine hR s3 (Moved.trans W.gtrans ((hm.mono hsub).then_heap (Nat.le_succ _) fun b o hb e => ?_) hm3) hS3
      rw [hsb.2 b (fun z : b = S => hb (by rw [z]; exact List.mem_cons_self))]
      exact e
end

section
variable {prog : Program} {w : World} {A : Around} {E : Value → Shared → Prop} {s : Shared}
theorem call_set_text {x : Str} {t : Tok} {Q : Value → Shared → Prop} (hh : A.handled = none) (hb : x.cps.size + 1 < scanBound)
    (h : ∀ (h2 : Heap) (tk : Nat), h2.SetOf (strKind prog w) s.heap.objs.size (metS x.cps.toList x.cps.size) (metAt x.cps.toList x.cps.size).length →
      (∀ b o, b < s.heap.objs.size → s.heap.get? b = some o → h2.get? b = some o) → Q (.ref s.heap.objs.size) { s with heap := h2, toks := tk }) :
    wpAny (model prog w) A (call (.type "set") [.str x t]) Q E s := by
  obtain ⟨c, tl, hmro⟩ := PySem.F.called_set.mro
  have hmade := PySem.F.called_set.made
  have hsub := PySem.F.called_set.sub
  refine wpAny_call (codeAny_of_tree ?_)
  show wpAny _ _ (callAny (.type "set") _) _ _ _
  refine wpAny_pure ⟨Code.quiet_builtin _ (by decide +kernel), codeAny_builtin PySem.F.entry_type_call ?_⟩
  rw [Around.under_plain (weight_type_call_type "set" [.str x t] []) rfl]
  have h1 := PySem.F.called_set.notType
  have h2 := PySem.F.called_set.canCreate
  have hct := PySem.F.typeCall_set_1 (.str x t)
  repeat (any_goals (first | assumption | wp_step))
  refine codeAny_mono (code_set_new_1 (.str x t) (E := E) (Q₁ := fun obj s₁ => ∃ led : Bool, obj = .ref s.heap.objs.size ∧ s₁ = { s with heap := s.heap.push { cls := .type "set", dict := none, data := .set #[] 0 (.fresh 0 0 led) } }) fun led => ⟨led, rfl, rfl⟩) fun r s₁ hr => ?_
  cases r with
  | error e => exact hr
  | ok fl =>
    cases fl with
    | ret obj =>
      obtain ⟨led, rfl, rfl⟩ := hr
      have hS : (s.heap.push { cls := .type "set", dict := none, data := .set #[] 0 (.fresh 0 0 led) }).get? s.heap.objs.size = some { cls := .type "set", dict := none, data := .set #[] 0 (.fresh 0 0 led) } := Heap.get?_push_size _ rfl
      have hT : Shared.TypeIs { s with heap := s.heap.push { cls := .type "set", dict := none, data := .set #[] 0 (.fresh 0 0 led) } } (.ref s.heap.objs.size) "set" := ⟨_, hS, rfl⟩
      have hli := PySem.F.called_set.init.lookup
      have hbi := PySem.F.called_set.init.bind (.ref s.heap.objs.size)
      repeat (any_goals (first | assumption | wp_step))
      refine codeAny_mono (codeAny_call_builtin (R := wants (fun r s₂ => r = .none ∧ ∃ h2 tk, s₂ = { s with heap := h2, toks := tk } ∧
          h2.SetOf (strKind prog w) s.heap.objs.size (metS x.cps.toList x.cps.size) (metAt x.cps.toList x.cps.size).length ∧
          (∀ b o, b < s.heap.objs.size → s.heap.get? b = some o → h2.get? b = some o)) E) PySem.F.called_set.init.plain PySem.F.entry_set_init (check_set_init_1 hT ?_)) fun r₂ s₂ hr₂ => ?_
      · unfold Builtin.«set.__init__» noKeywords Builtin.Frozenset.updateFrom
        generalize hPI : pyIter = PI
        have hTx : Shared.TypeIs { s with heap := s.heap.push { cls := .type "set", dict := none, data := .set #[] 0 (.fresh 0 0 led) } } (.str x t) "str" := rfl
        have hsS : isSubtype (.type "str") (.type "set") = pure false := by rw [isSubtype_type]; kernel_rfl
        have hsF : isSubtype (.type "str") (.type "frozenset") = pure false := by rw [isSubtype_type]; kernel_rfl
        have hne : (Value.type "str" == Value.type "dict") = false := by decide
        wp_walk
        subst hPI
        refine wpAny_pyIter_str fun o St W hst => wpAny_bind (wpAny_runValue ?_)
        generalize hH : s.heap.push { cls := .type "set", dict := none, data := .set #[] 0 (.fresh 0 0 led) } = Hq at W hst hS ⊢
        have hHs : Hq.objs.size = s.heap.objs.size + 1 := by rw [← hH, Heap.size_push]
        have hSf : s.heap.objs.size ∉ [Hq.objs.size] := fun hm => by
          rw [List.mem_singleton] at hm
          omega
        have hh3 : A.in1.in1.in1.handled = none := by simp [hh]
        refine upd_text (l := x.cps.toList) ((W A.in1.in1.in1 hh3).toS) s.heap.objs.size hSf (fun i v hv => ?_) hb (x.cps.toList.length - 0) 0 _ (by omega) (Nat.zero_le _) hst ?_ ?_
        · obtain ⟨c, u, hc, e⟩ := hv
          exact ⟨c, u, by rw [Array.getElem?_toList]; exact hc, e⟩
        · exact SetOf_congr ((PyProof.Rows.setObjOf_fresh (knd := strKind prog w) led).setOf (Heap.get?_push_of_some _ hS) (by unfold scanBound; omega)) (fun _ => rfl) rfl
        · intro s1 hm hS1
          obtain ⟨h2, g2, d2, tk2, os2⟩ := s1
          have eg : g2 = s.gens := hm.gens
          have ed : d2 = s.drawn := hm.drawn
          have eo : os2 = s.os := hm.os
          subst eg; subst ed; subst eo
          show wpAny _ _ _ _ _ _
          refine wpAny_pure ?_
          show wpAny _ _ (ret Value.none) _ _ _
          refine wpAny_pure ⟨rfl, h2, tk2, rfl, hS1, fun b o hb2 e => hm.heap b o (fun z => ?_) (Heap.get?_push_of_some _ (by rw [← hH]; exact Heap.get?_push_of_some _ e))⟩
          rcases List.mem_cons.mp z with z | z
          · rw [z] at hb2
            exact Nat.lt_irrefl _ hb2
          · rw [List.mem_singleton] at z
            rw [z, hHs] at hb2
            exact Nat.not_succ_lt_self hb2
      · cases r₂ with
        | error e => exact hr₂
        | ok fl₂ =>
          cases fl₂ with
          | ret r =>
            obtain ⟨rfl, h2, tk, rfl, hS', hk'⟩ := hr₂
            repeat (any_goals (first | assumption | wp_step))
            exact h _ _ hS' hk'
          | _ => exact hr₂.elim
    | _ => exact hr.elim
end

/-- len(set(x)), x a text -/
def tLenSetT (ta : TE) : TE := fun σ H Q => ta σ H fun x H1 => ∃ z : Str, x = .str z ∧ z.length ≤ 4000 ∧ Q (.int ((metAt z.cps.toList z.cps.toList.length).length : Nat)) H1
theorem pe_lenSetT {X : Cx} {a : Expr} {ta : TE} {p p2 q pos : Pos} (hg : Gl X "len") (hm : X.mg "len" = none) (hg2 : Gl X "set") (hm2 : X.mg "set" = none) (ha : PE X a ta) (hc : X.calm = true := by rfl)
    (na : starEach [a] X.env = (false, eval a X.env) :: starEach [] X.env := by rfl) : PE X (.Call (.Name "len" p) [.Call (.Name "set" p2) [a] [] q] [] pos) (tLenSetT ta) := by
  refine ⟨fun pins s σ H Q I h => ?_⟩
  refine Call_ (ld_blt I hg hm boot_len (PyProof.Rows.callWith_builtin1 (PyProof.Rows.args_cons ?_ rfl) rfl rfl))
  refine Call_ (ld_blt I hg2 hm2 boot_set ?_)
  refine PyProof.Rows.callWith_type1 (PyProof.Rows.args_cons (thn (ha.run pins s σ H _ I h) fun v s1 hh => PyProof.Rows.args_nil ?_) na) na rfl
  obtain ⟨x, H1, I1, r1, z, rfl, hz, q1⟩ := hh
  obtain ⟨t, rfl⟩ := r1
  have hz2 : z.cps.size ≤ 4000 := hz
  refine call_set_text (I1.ok.hd hc) (by unfold scanBound; omega) fun h2 tk hS hk => PyProof.Rows.args_nil ?_
  obtain ⟨o, es, ep, tb, ho, hex, hd, _, _, _, hf, hn⟩ := hS
  have I2 : Inv X pins σ H1 { s1 with heap := h2, toks := tk } := I1.kept fun b o e => hk b o (Heap.lt_size e) e
  have hle : (metAt z.cps.toList z.cps.size).length ≤ z.cps.size := by
    have h1 := met_len (z.cps.toList.take z.cps.size).reverse
    rw [List.length_reverse, List.length_take] at h1
    exact Nat.le_trans h1 (Nat.min_le_left _ _)
  exact call_len_set ho hex hd hf (by rw [hn]; omega) ⟨.int ((metAt z.cps.toList z.cps.toList.length).length : Nat), H1, I2.tok _, ⟨_, by rw [hn]; rfl⟩, q1⟩
end Vk
set_option Elab.async false
set_option linter.all false
namespace Vk
open PySem PySem.Spec PyProof.Rows L2
theorem iCMeth {C : Addr} {sp : Sp} {E : XK} {tf : TE} {ta : TA} {σ : L2.St} {H : Hp} {Q : VK} (h : tf σ H fun x H1 => x = .ref C ∧ ta σ H1 fun vs H2 => sp (.ref C :: vs) H2 Q E) : ClX.tCMeth C sp E tf ta σ H Q := h
end Vk
set_option Elab.async false
set_option linter.all false
set_option maxRecDepth 100000
set_option maxHeartbeats 4000000
namespace Vk
open PySem PySem.Spec PyProof.Rows L2
/-! C.m(e, ..), m a classmethod that may raise, in a try -/
def tCMethS (C : Addr) (sp : Sp) (E : L2.St → XK) (ta : TE) (t : TA) : TE := fun σ H Q => ta σ H fun x H1 => x = .ref C ∧ t σ H1 fun vs H2 => sp (.ref C :: vs) H2 Q (E σ)
section
variable {X : Cx} {CX : CXT} {k : Nat} {C p g : Addr} {mc : Value} {sp : Sp} {o e : Expr} {es : List Expr} {m : Str} {pos apos : Pos} {ta : TE} {t : TA} {pl : Sem Bool} {pins : List (Addr × Obj)} {σ : L2.St} {H : Hp} {s : Shared}
theorem run_fnRS {f : Addr} {E : XK} {Q : VK} {us : List Value} {vs : List V} (F : FnR X.prog X.w X.K X.mg X.base CX k f sp) (hr : Room k X.A) (hx : PassesAt CX X σ E) (I : Inv X pins σ H s) (r : Vals vs us) (h : sp vs H Q E) :
    codeAny (model X.prog X.w) X.A (.call (.ref f) ⟨us, []⟩) (fun r s' => match r with | .ok (.ret v) => EP X pins σ Q v s' | .ok _ => False | .error e => X.xe e s') s := by
  refine codeAny_mono (F X.A X.stack s H us vs Q E hr I.env0 r h) fun r s' hq => ?_
  cases r with
  | error e => exact hx pins H s e s' I hq
  | ok fl =>
    cases fl with
    | ret u => exact I.after hq
    | next => exact False.elim hq
    | brk => exact False.elim hq
    | cont => exact False.elim hq
theorem run_cmS {q : Addr} {E : XK} {Q : VK} {us : List Value} {vs : List V} (F : FnR X.prog X.w X.K X.mg X.base CX k g sp) (hr : Room k X.A) (hx : PassesAt CX X σ E) (I : Inv X ((q, PySem.W.methodObj (.ref g) (.ref C)) :: pins) σ H s)
    (r : Vals vs us) (h : sp (.ref C :: vs) H Q E) : wpAny (model X.prog X.w) X.A (call (.ref q) us) (EP X pins σ Q) X.xe s := by
  have z : wpAny (model X.prog X.w) X.A (call (.ref q) us) (EP X ((q, PySem.W.methodObj (.ref g) (.ref C)) :: pins) σ Q) X.xe s :=
    wpAny_call (PySem.W.method_call (ClX.pin_at I) (run_fnRS (us := .ref C :: us) (vs := .ref C :: vs) F hr hx I (.cons rfl r) h))
  exact thn z fun _ _ y => ClX.unpinE y
theorem pe_cmethS {E : L2.St → XK} (he : PE X o ta) (r : ClX.CRead X.K C mc) (c : ClX.CMet X.K C mc m p g) (F : FnR X.prog X.w X.K X.mg X.base CX k g sp) (hr : Room k X.A) (hx : ∀ σ, PassesAt CX X σ (E σ)) (ha : PA X (e :: es) t)
    (hst : starEach (e :: es) X.env = (false, eval e X.env) :: starEach es X.env := by rfl) (hpl : (backTo pos (starEach es X.env)).any (·.1) = false := by rfl)
    (ht : eval (.Call (.Attribute o m apos) (e :: es) [] pos) X.env = (do
      let ov ← eval o X.env
      standAt apos.atName
      let (f, first) ← holding [ov] (getMethod ov m pl)
      callWith pos f first (backTo pos (starEach (e :: es) X.env)) (backToKw pos (keywordEach [] X.env))) := by rfl) :
    PE X (.Call (.Attribute o m apos) (e :: es) [] pos) (tCMethS C sp E ta t) := by
  refine ⟨fun pins s σ H Q I h => ?_⟩
  refine PySem.W.methodCall_KW (pl := pl) (thn (he.run pins s σ H _ I h) fun u s1 ⟨x, H1, I1, rx, ex, q⟩ => ?_) ht
  subst ex
  obtain rfl : u = Value.ref C := rx
  refine ClX.getmethcm_ok I1 r c fun s2 I2 => ?_
  refine ClX.callwith_cm I2 (ClX.base_none I1 (Nat.le_refl _)) c.fi (thn (ha.run pos _ s2 σ H1 _ I2 q) fun us s3 ⟨vs, H2, I3, rv, q2⟩ => ⟨⟨ClX.pin_at I3, I3.kIn⟩, ?_⟩) hst hpl
  exact run_cmS F hr (hx σ) I3 rv q2
end
theorem iCMethS {C : Addr} {sp : Sp} {E : L2.St → XK} {tf : TE} {ta : TA} {σ : L2.St} {H : Hp} {Q : VK} (h : tf σ H fun x H1 => x = .ref C ∧ ta σ H1 fun vs H2 => sp (.ref C :: vs) H2 Q (E σ)) : tCMethS C sp E tf ta σ H Q := h
end Vk
set_option Elab.async false
set_option linter.all false
set_option maxRecDepth 100000
set_option maxHeartbeats 2000000
namespace Vk
open PySem PySem.Spec PyProof.Rows L2
/-! defs whose errors bear no context, for a handler that raises -/
theorem okN {P : Program} {w : World} {K : PySem.W.Frag} {mg : Str → Option Value} {base : Heap} {nm qn : Str} {st : Stmt} {fa : Addr} {fd : FuncData} {N qs : List Str} {lv : Nat} {sp : Sp} (F : Fun K nm qn st fa fd) (S : FnScope N qs (defScope st))
    (hlen : ∀ us H Q E, sp us H Q E → us.length = qs.length)
    (hb : ∀ (cv : Value) (B : Around) (out : List Env) (s0 : Shared) (H : Hp) (us : List V) (Q : VK) (E : XK), Room lv (B.deeper (envOfC qn (defScope st) s0.heap.objs.size fa cv)) → sp us H Q E →
      ∃ z, PSs (cxOf (L2N.CX P w) P w K mg base N qn (defScope st) fa cv B out s0 H E) (defBody st) z ∧ z { nx := fun _ G => Q .non G, rt := Q } (start N us) H) : FnOk P w K mg base (L2N.CX P w) (lv + 1) fa fd qs sp := by
  obtain ⟨_, _, _, _, _, _, cv, _, _, rfl, h1, h2⟩ := F.ex
  exact fn_of h1 h2 S hlen fun B out s0 H us Q E r h => hb cv B out s0 H us Q E r h
/-- C(e, ..), C an own error with its own __init__; the new error bears no context -/
theorem pmk_oexN {X : Cx} {CX : CXT} {nm : Str} {C fi : Addr} {lv : Nat} {fd : FuncData} {qs : List Str} {sp : Sp} {e : Expr} {es : List Expr} {ta : TA} {p p' : Pos} (O : OexC X.K C) (hi : PySem.W.findIn X.K (.ref C) "__init__" = some (some (.ref fi))) (ht : PySem.W.typeIn X.K (.ref fi) = some (.type "function"))
    (FI : FnOk X.prog X.w X.K X.mg X.base CX lv fi fd qs sp) (hr : Room (lv + 1) X.A) (hb : Binds X.K fd qs []) (hp : Passes CX X (fun _ _ _ => False)) (hg : Gl X nm) (hm : X.mg nm = some (.ref C)) (ha : PA X (e :: es) ta)
    (hdb : (nm == ("__debug__" : Str)) = false := by decide) (hst : starEach (e :: es) X.env = (false, eval e X.env) :: starEach es X.env := by rfl) (hpl : (backTo p' (starEach es X.env)).any (·.1) = false := by rfl) :
    L2N.PMk X (.Call (.Name nm p) (e :: es) [] p') (tMkO C sp [] ta) := by
  intro pins s σ H Q I h
  obtain ⟨n1, n2, n3, n4, bm, n6, n7, n8, n9, n10, n11, n12, n13, n14, n15, hC, hbm⟩ := O.cls
  refine wpAny_Call_Name_kw (ld_glob I hg hm ?_ hdb)
  refine PySem.W.callWith_K (h₀ := X.base) I.ok.mod.kin O.kC (thn (ha.run p' pins s σ H _ I h) fun us s1 z1 => ?_) hst hpl
  obtain ⟨vs, H1, J, rv, hz, q⟩ := z1
  refine ⟨J.kIn, ?_⟩
  show wpAny _ _ (call (.ref C) us) _ _ _
  obtain ⟨g0, ga, dr, tk, os⟩ := s1
  have up1 : g0.objs.size ≤ g0.objs.size + 1 := Nat.le_succ _
  have q1 := q (g0.objs.size + 1) (J.hok.fresh up1)
  rw [List.append_nil] at q1
  have kp : ∀ b o, g0.get? b = some o → ((g0.push (PySem.W.kdv_tup us)).push (PySem.HandSPX.excO C g0.objs.size)).get? b = some o := fun _ _ y => Heap.get?_push_of_some _ (Heap.get?_push_of_some _ y)
  have at1 : ((g0.push (PySem.W.kdv_tup us)).push (PySem.HandSPX.excO C g0.objs.size)).get? (g0.objs.size + 1) = some (PySem.HandSPX.excO C g0.objs.size) := by heap_get
  have J2 := J.laid (t' := tk) (a := g0.objs.size + 1) (o := exo (g0.objs.size + 1) C none) kp up1 (exo_ok at1)
  have r2 : Vals (V.ref (g0.objs.size + 1) :: vs) (Value.ref (g0.objs.size + 1) :: us) := .cons rfl rv
  have ln : (Value.ref (g0.objs.size + 1) :: us ++ []).length = qs.length := by
    have y := r2.length
    rw [FI.len _ _ _ _ q1] at y
    rw [List.append_nil]
    exact y.symm
  have usz : us.length ≤ sizeLine := by
    rw [← Paired.length rv, sizeLine_eq]
    omega
  have b1 := hb _ (Value.ref (g0.objs.size + 1) :: us) J2.kIn ln
  rw [List.append_nil] at b1
  have run := FI.run _ X.stack _ _ ⟨Value.ref (g0.objs.size + 1) :: us, []⟩ (Value.ref (g0.objs.size + 1) :: us) _ _ (fun _ _ _ => False) (hr.make C us []) (J2.env0.make C us []) b1 r2 q1
  refine wpAny_call (PySem.HandSPX.call_own F.excBase_ValueError (fun Y => PySem.HandSPX.refsVE_contains Y bm hbm) (J.kIn _ _ hC) (PySem.W.looks_findIn J.kIn hi) (fun self => PySem.W.bind_fn J.kIn self ht) usz (codeAny_mono run fun r s2 z => ?_))
  cases r with
  | error er => exact hp pins σ _ _ er s2 J2 z
  | ok fl =>
    cases fl with
    | next => exact z.elim
    | brk => exact z.elim
    | cont => exact z.elim
    | ret u =>
      obtain ⟨v, H2, e1, e2, e3, e4, e5, ev, d, fs, e6, e7, e8, e9⟩ := z
      subst ev
      obtain ⟨g2, ga2, d2, t2, os2⟩ := s2
      obtain ⟨t0, G, J3, kG, gn, go, na⟩ := mk_end0 (d2 := d2) (t2 := t2) J up1 kp e3 e4 e1 e2 e6 e7 e8
      refine ⟨e5, g0.objs.size + 1, _, _, ⟨G, ga2, d2, t2, os2⟩, _, .ref C, some d, rfl, J3, kG, gn, go, ⟨rfl, rfl, fun vs hv => ?_⟩, rfl, rfl, na, rfl, e2, raises_own O.exC O.tyC, e9⟩
      cases hv
      rfl
end Vk
set_option Elab.async false
set_option linter.all false
set_option maxRecDepth 100000
set_option maxHeartbeats 2000000
namespace Vk
open PySem PySem.Spec PyProof.Rows L2
/-! own defs called in a handler; a def that never raises, under any kind of air -/
section
variable {P : Program} {w : World} {K : PySem.W.Frag} {mg : Str → Option Value} {base : Heap}
theorem okH {x qual : Str} {st : Stmt} {f : Addr} {fd : FuncData} {N ps : List Str} {k : Nat} {sp : Sp} (F : Fun K x qual st f fd) (S : FnScope N ps (defScope st)) (len : ∀ vs H Q E, sp vs H Q E → vs.length = ps.length)
    (hbody : ∀ (cdv : Value) (A : Around) (outer : List Env) (s : Shared) (H : Hp) (vs : List V) (Q : VK) (E : XK) (p : Addr × Obj), L2H.Hot1 A p → L2H.RoomH k (A.deeper (envOfC qual (defScope st) s.heap.objs.size f cdv)) → sp vs H Q E →
      ∃ t, PSs (L2H.cxH CX0 P w K mg base N qual (defScope st) f cdv A outer s H E p) (defBody st) t ∧ t { nx := fun _ H' => Q .non H', rt := Q } (start N vs) H) : L2H.FnH P w K mg base CX0 (k + 1) f fd ps sp := by
  obtain ⟨oc, od, kV, doc, pm, an, cdv, ct, osl, rfl, lk, hcd⟩ := F.ex
  exact L2H.fn_ofH lk hcd S len fun A outer s H vs Q E p h1 hr hsp => hbody cdv A outer s H vs Q E p h1 hr hsp
theorem hot_of {X : Cx} {ab : Addr} {oe : Obj} {cls : Value} {d : Option Addr} {pn : List (Addr × Obj)} (hz : L2N.Zn cls d oe) (hf : ∃ vs, oe.data = .fields vs) : L2H.HotC (X.suite ab ((ab, oe) :: pn)) := by
  obtain ⟨vs, hv⟩ := hf
  exact ⟨(ab, oe), ⟨rfl, vs, hv, hz.2.2 vs hv⟩, List.mem_cons_self⟩
theorem takes0N {X : Cx} : L2N.Takes X (fun _ _ _ _ => False) := fun _ _ x => by
  obtain ⟨_, _, _, _, _, _, _, _, _, _, _, _, _, _, _, _, z⟩ := x
  exact z.elim
theorem roomH_mark {k : Nat} {A : Around} (r : Room k A) (h : Option Value) : L2H.RoomH k (A.mark h) := ⟨r.dp, r.un⟩
theorem passH {X : Cx} {E : L2.St → XK} : ∀ σ, PassesAt CX0 X σ (E σ) := fun _ _ _ _ _ _ _ h => h.elim
theorem _root_.L2.FnOk.cx {CX CX' : CXT} {n : Nat} {f : Addr} {fd : FuncData} {ps : List Str} {sp : Sp} (F : FnOk P w K mg base CX n f fd ps sp) (hE : ∀ vs H Q E, sp vs H Q E → sp vs H Q (fun _ _ _ => False))
    (hc : ∀ outer H s e s', ¬ CX outer H s (fun _ _ _ => False) e s') : FnOk P w K mg base CX' n f fd ps sp := by
  refine ⟨F.len, fun A outer s H args us vs Q E hr e0 hb r h => ?_⟩
  refine codeAny_mono (F.run A outer s H args us vs Q _ hr e0 hb r (hE _ _ _ _ h)) fun r s' z => ?_
  cases r with
  | error e => exact absurd z (hc _ _ _ _ _)
  | ok fl => cases fl <;> exact z
theorem cx_no {outer : List Env} {H : Hp} {s : Shared} {e : Value} {s' : Shared} : ¬ L2.CX P w outer H s (fun _ _ _ => False) e s' := fun h => by
  obtain ⟨_, _, _, _, _, _, _, _, _, _, _, _, z⟩ := h
  exact z.elim
/-- what bears no context may be taken by who doesn't ask -/
theorem _root_.L2.FnOk.weak {n : Nat} {f : Addr} {fd : FuncData} {ps : List Str} {sp : Sp} (F : FnOk P w K mg base (L2N.CX P w) n f fd ps sp) : FnOk P w K mg base (L2.CX P w) n f fd ps sp := by
  refine ⟨F.len, fun A outer s H args us vs Q E hr e0 hb r h => ?_⟩
  refine codeAny_mono (F.run A outer s H args us vs Q E hr e0 hb r h) fun r s' z => ?_
  cases r with
  | error e =>
    obtain ⟨a, B, H', cls, d, h1, ⟨y1, y2, y3, oe, vs', T, oT, ts, e1, hz, e2⟩, h4⟩ := z
    exact ⟨a, B, H', cls, d, h1, ⟨y1, y2, y3, oe, vs', T, oT, ts, e1, hz.zc, e2⟩, h4⟩
  | ok fl => cases fl <;> exact z
end
theorem iMakeS {C : Addr} {sp : Sp} {dvs : List V} {E : L2.St → XK} {t : TA} {σ : L2.St} {H : Hp} {Q : VK} (h : t σ H fun vs H1 => ∀ x dx, H1 x = none → H1 dx = none → dx ≠ x → sp (.ref x :: (vs ++ dvs)) (upd (upd H1 dx (.own x)) x (.ins C dx [])) (fun v H2 => v = .non ∧ Q (.ref x) H2) (E σ)) : tMakeS C sp dvs E t σ H Q := h
theorem iCallSH {sp : Sp} {E : L2.St → XK} {t : TA} {σ : L2.St} {H : Hp} {Q : VK} (h : t σ H fun vs H1 => sp vs H1 Q (E σ)) : tCallS sp E t σ H Q := h
end Vk
set_option Elab.async false
set_option linter.all false
set_option maxRecDepth 100000
set_option maxHeartbeats 2000000
namespace Vk
open PySem PySem.Spec PyProof.Rows L2
/-! slices of lists -/
theorem cut_toN (xs : List V) (k : Nat) : cutV xs none (some (k : Int)) = xs.take k := by
  unfold cutV
  rw [HT.sIx_nat, HT.sIx_none, Nat.sub_zero, List.drop_zero]
  exact (List.take_eq_take_min ..).symm
theorem cut_fromN (xs : List V) (k : Nat) : cutV xs (some (k : Int)) none = xs.drop k := by
  unfold cutV
  rw [HT.sIx_nat, HT.sIx_none, List.take_of_length_le (by rw [List.length_drop]; exact Nat.le_refl _)]
  by_cases h : k ≤ xs.length
  · rw [Nat.min_eq_left h]
  · rw [Nat.min_eq_right (by omega), List.drop_of_length_le (Nat.le_refl _), List.drop_of_length_le (by omega)]
theorem cut_from1 (xs : List V) : cutV xs (some 1) none = xs.drop 1 := cut_fromN xs 1
theorem cut_from2 (xs : List V) : cutV xs (some 2) none = xs.drop 2 := cut_fromN xs 2
theorem cut_to1 (xs : List V) : cutV xs none (some 1) = xs.take 1 := cut_toN xs 1
theorem cut_to2 (xs : List V) : cutV xs none (some 2) = xs.take 2 := cut_toN xs 2
theorem cut_fromS (xs : List V) (k : Nat) : cutV xs (some ((k : Int) + 1)) none = xs.drop (k + 1) := cut_fromN xs (k + 1)
theorem cut_toS (xs : List V) (k : Nat) : cutV xs none (some ((k : Int) + 1)) = xs.take (k + 1) := cut_toN xs (k + 1)
theorem cut_toL (xs : List V) : cutV xs none (some (-1)) = xs.take (xs.length - 1) := by
  unfold cutV
  have : HT.sIx xs.length xs.length (some (-1)) = xs.length - 1 := by
    show (if (-1 : Int) < 0 then ((-1 : Int) + (xs.length : Int)).toNat else min (-1 : Int).toNat xs.length) = _
    rw [if_pos (by decide)]
    omega
  rw [this, HT.sIx_none, Nat.sub_zero, List.drop_zero]
section
variable {K : PySem.W.Frag} {H : Hp} {Q : VK} {a : Addr} {xs : List V} {k : Nat}
theorem iSlToN (hq : SqL K H a xs) (h : ∀ p, H p = none → Q (.ref p) (upd H p (.lst (xs.take k)))) : rSlL K (.ref a) none (some (k : Int)) H Q := iSlL hq (by rw [cut_toN]; exact h)
theorem iSlFromN (hq : SqL K H a xs) (h : ∀ p, H p = none → Q (.ref p) (upd H p (.lst (xs.drop k)))) : rSlL K (.ref a) (some (k : Int)) none H Q := iSlL hq (by rw [cut_fromN]; exact h)
theorem iSlToSN (hq : SqL K H a xs) (h : ∀ p, H p = none → Q (.ref p) (upd H p (.lst (xs.take (k + 1))))) : rSlL K (.ref a) none (some ((k : Int) + 1)) H Q := iSlL hq (by rw [cut_toS]; exact h)
theorem iSlFromSN (hq : SqL K H a xs) (h : ∀ p, H p = none → Q (.ref p) (upd H p (.lst (xs.drop (k + 1))))) : rSlL K (.ref a) (some ((k : Int) + 1)) none H Q := iSlL hq (by rw [cut_fromS]; exact h)
theorem iSlFrom1 (hq : SqL K H a xs) (h : ∀ p, H p = none → Q (.ref p) (upd H p (.lst (xs.drop 1)))) : rSlL K (.ref a) (some 1) none H Q := iSlL hq (by rw [cut_from1]; exact h)
theorem iSlFrom2 (hq : SqL K H a xs) (h : ∀ p, H p = none → Q (.ref p) (upd H p (.lst (xs.drop 2)))) : rSlL K (.ref a) (some 2) none H Q := iSlL hq (by rw [cut_from2]; exact h)
theorem iSlTo1 (hq : SqL K H a xs) (h : ∀ p, H p = none → Q (.ref p) (upd H p (.lst (xs.take 1)))) : rSlL K (.ref a) none (some 1) H Q := iSlL hq (by rw [cut_to1]; exact h)
theorem iSlToL (hq : SqL K H a xs) (h : ∀ p, H p = none → Q (.ref p) (upd H p (.lst (xs.take (xs.length - 1))))) : rSlL K (.ref a) none (some (-1)) H Q := iSlL hq (by rw [cut_toL]; exact h)
end
end Vk
set_option Elab.async false
set_option linter.all false
set_option maxRecDepth 100000
set_option maxHeartbeats 4000000
namespace Vk
open PySem PySem.Spec PyProof.Rows L2
/-! several except clauses, each with a name: one step for each clause -/
/-- D, the clause's name gone behind its suite -/
def goneD (D : Ends) (i : Nat) : Ends := { nx := fun σ' H' => D.nx (σ'.set i none) H', rt := D.rt, bk := fun σ' H' => D.bk (σ'.set i none) H', ct := fun σ' H' => D.ct (σ'.set i none) H' }
/-- a clause: its class, its name's slot, its suite's reading -/
structure Cl where
  c : Value
  i : Nat
  ts : Addr → Value → Option Addr → TS
def wAsN (K : PySem.W.Frag) (Wout : WX) (D : Ends) : List Cl → WX
  | [] => Wout
  | q :: r => fun cls d σ H => ∃ b, PySem.W.exmOne K cls q.c = some b ∧ (b = true → ∀ a, H a = none → q.ts a cls d (goneD D q.i) (σ.set q.i (some (.ref a))) H) ∧ (b = false → wAsN K Wout D r cls d σ H)
inductive AsOk (X : Cx) : List ExceptHandler → List Cl → Prop
  | nil : AsOk X [] []
  | cons {x n : Str} {q : Cl} {b₀ : Stmt} {suite : List Stmt} {np pos' : Pos} {hds : List ExceptHandler} {l : List Cl} (hi : X.N[q.i]? = some n) (hln : X.env.kindOf n = some .local) (hc : Names X x q.c)
      (hsu : ∀ (a : Addr) (oe : Obj) (cls : Value) (d : Option Addr) (pn : List (Addr × Obj)), Zc cls d oe → (∃ vs, oe.data = .fields vs) → PSs (X.suite a ((a, oe) :: pn)) (b₀ :: suite) (q.ts a cls d)) (r : AsOk X hds l) :
      AsOk X (.ExceptHandler (some (.Name x np)) (some n) (b₀ :: suite) pos' :: hds) (q :: l)
section
variable {X : Cx} {body : List Stmt} {h₀ : ExceptHandler} {hds : List ExceptHandler} {l : List Cl} {pos : Pos} {tb : WX → TS} {Wout : WX}
theorem ps_try_asN (hs : X.stack = X.env :: X.outer) (hf : X.env.frame = some X.env.locals) (hN : X.N.Nodup) (tk : Takes X Wout)
    (hb : ∀ (W : WX) (pn : List (Addr × Obj)) (xe : Value → Shared → Prop), Takes (X.tr pn xe) W → PassesOwn (model X.prog X.w) X.A X.env xe → PSs (X.tr pn xe) body (tb W))
    (hh : AsOk X (h₀ :: hds) l) : PS X (.Try body (h₀ :: hds) [] [] pos) (fun D σ H => tb (wAsN X.K Wout D l) D σ H) := by
  refine ⟨fun pins s σ H D I h => ?_⟩
  have ok := I.ok
  have hfr : X.A.frames = some (X.env :: X.outer) := by rw [ok.frames, hs]
  refine wpAny_Try_except (wpAny_mono ((hb (wAsN X.K Wout D l) (X.pn ++ pins) (fun e s₁ => wpAny (model X.prog X.w) X.A (noteFrame e X.env) (fun _ s₂ => wpAny (model X.prog X.w) X.A (setFlight e none) (fun _ s₃ =>
    wpAny (model X.prog X.w) X.A (handleBy e X.env (h₀ :: hds)) (SP X pins D) X.xe s₃) X.xe s₂) X.xe s₁) (fun u s' hx => ?_) PassesOwn.looking).run [] s σ H D (I.toTry _) h) (fun f s1 hsp => ?_) fun e s1 he => he)
  · obtain ⟨a, B, sI, pn', σ1, H1, cls, d, rfl, J0, nb, up, sky, na, os, ag, wish⟩ := hx
    have J : Inv X pins σ1 H1 sI := J0.ofTry ok
    rw [hs] at sky
    show wpAny (model X.prog X.w) X.A (noteFrame (.ref a) X.env) _ _ _
    refine Sky.land Zc.steady hfr hf sky fun h3 fl up3 => ?_
    have J3 : Inv X pins σ1 H1 { s' with heap := h3 } := J.landed nb fl.1 (up.trans up3) os ag
    obtain ⟨o3, vs3, e3, z3, d3⟩ := fl.there
    have nfr : a ∉ frs (X.env :: X.outer) := fun hm => by
      obtain ⟨_, o', e', hnf⟩ := fl.2.2.1.mem hm
      rw [e3] at e'
      cases e'
      exact hnf _ d3
    have nL : a ≠ X.env.locals := fun z => nfr (List.mem_filterMap.mpr ⟨X.env, List.mem_cons_self, by rw [hf, z]⟩)
    have nF : a ∉ X.fs := fun hm => by
      obtain ⟨e, he, q⟩ := List.mem_filterMap.mp hm
      exact nfr (List.mem_filterMap.mpr ⟨e, List.mem_cons_of_mem _ he, q⟩)
    have S3 := J3.suite e3 d3 na nL nF
    have LT : PySem.W.Looks (model X.prog X.w) h3 (typeOf (.ref a)) cls := fun A Q E s k q => wpAny_typeOf_ref (k _ _ e3) (by rw [z3.1]; exact q)
    suffices all : ∀ {hds' : List ExceptHandler} {l' : List Cl}, AsOk X hds' l' → wAsN X.K Wout D l' cls d σ1 H1 → wpAny (model X.prog X.w) X.A (handleBy (.ref a) X.env hds') (SP X pins D) X.xe { s' with heap := h3 } from all hh wish
    clear wish hh
    intro hds' l' hk
    induction hk with
    | nil =>
      intro wo
      obtain ⟨_, _, _, oe, vs, T, oT, ts', he, hz, hd, h1, hr⟩ := id fl
      have out : wpAny (model X.prog X.w) X.A (setFlight (.ref a) X.env.frame) (fun _ s4 => wpAny (model X.prog X.w) X.A (throw (.ref a) : Sem Flow) (SP X pins D) X.xe s4) X.xe { s' with heap := h3 } := by
        rw [hf]
        exact HandSPX.setFlight_upZ fl fun h4 hh4 up4 => wpAny_throw (tk _ _ ⟨a, B, sI, pins, σ1, H1, cls, d, rfl, J, nb, (up.trans up3).trans up4, .inr (.inr (by rw [hs]; exact hh4)), na, os, ag, wo⟩)
      refine wpAny_handleBy_nil ?_
      unfold PySem.passOn
      refine wpAny_bind (wpAny_field he hd h1 ?_)
      rw [if_neg (show ¬ ((Value.ref T == Value.none) = true) from by simp)]
      first
        | exact wpAny_bind (wpAny_pure (wpAny_bind out))
        | exact wpAny_bind out
    | @cons x n q b₀ suite np pos' hds2 l2 hi hln hc hsu r ih =>
      intro wo
      obtain ⟨b, hb1, hyes, hno⟩ := wo
      have LM := PySem.W.exm_one (M := model X.prog X.w) J3.kIn LT hb1
      refine wpAny_handleBy_cons (codeAny_handlers_test ?_) (by intro z; cases z)
      have name : ∀ {Q : Value → Shared → Prop} {E : Value → Shared → Prop}, Q q.c { s' with heap := h3 } → wpAny (model X.prog X.w) (X.A.mark (some (.ref a))) (eval (.Name x np) X.env) Q E { s' with heap := h3 } := fun {Q E} hQ => by
        obtain ⟨hg, hdbg, hm | ⟨hm, hv, hnn⟩⟩ := hc
        · exact ld_glob (X := X.suite a ((a, o3) :: (X.pn ++ pins))) S3 hg hm hQ hdbg
        · exact ld_blt (X := X.suite a ((a, o3) :: (X.pn ++ pins))) S3 hg hm hv hQ hnn hdbg
      refine name (LM.here ?_)
      cases b with
      | false =>
        show wpAny _ X.A (handleBy (.ref a) X.env hds2) _ _ _
        exact ih (hno rfl)
      | true =>
        refine codeAny_handlers_suite_as (HandSPX.lands_againZ fl fun h4 fl4 up4 => ?_)
        have J4 : Inv X pins σ1 H1 { s' with heap := h4 } := J.landed nb fl4.1 ((up.trans up3).trans up4) os ag
        obtain ⟨o4, vs4, e4, z4, d4⟩ := fl4.there
        refine store_ok (X := X.suite a ((a, o4) :: (X.pn ++ pins))) (v := .ref a) (J4.suite e4 d4 na nL nF) hN hi (.inl hln) rfl (fun s5 S5 => ?_) (.inr hln)
        refine wpAny_mono ((hsu a o4 cls d (X.pn ++ pins) z4 ⟨_, d4⟩).run [] s5 _ H1 _ S5 (hyes rfl a na)) (fun f s6 hsp => ?_) fun _ _ z => z.elim
        cases f with
        | next =>
          obtain ⟨σ6, H6, S6, q6⟩ := hsp
          exact gone_ok (S6.unsuite ok) hN hi hln fun s7 J7 => ⟨_, _, J7, q6⟩
        | brk =>
          obtain ⟨σ6, H6, S6, q6⟩ := hsp
          exact gone_ok (S6.unsuite ok) hN hi hln fun s7 J7 => ⟨_, _, J7, q6⟩
        | cont =>
          obtain ⟨σ6, H6, S6, q6⟩ := hsp
          exact gone_ok (S6.unsuite ok) hN hi hln fun s7 J7 => ⟨_, _, J7, q6⟩
        | ret u =>
          obtain ⟨v6, σ6, H6, S6, r6, q6⟩ := hsp
          exact gone_ok (S6.unsuite ok) hN hi hln fun s7 J7 => ⟨_, _, _, J7, r6, q6⟩
  · cases f with
    | next =>
      obtain ⟨σ', H', J', q⟩ := hsp
      exact wpAny_execs_nil ⟨σ', H', J'.ofTry ok, q⟩
    | brk =>
      obtain ⟨σ', H', J', q⟩ := hsp
      exact ⟨σ', H', J'.ofTry ok, q⟩
    | cont =>
      obtain ⟨σ', H', J', q⟩ := hsp
      exact ⟨σ', H', J'.ofTry ok, q⟩
    | ret u =>
      obtain ⟨v, σ', H', J', r, q⟩ := hsp
      exact ⟨v, σ', H', J'.ofTry ok, r, q⟩
end
end Vk
set_option Elab.async false
set_option linter.all false
set_option maxRecDepth 100000
set_option maxHeartbeats 4000000
namespace Vk
open PySem PySem.Spec PyProof.Rows L2
/-! len of an instance with its own `__len__` -/
def rLenI (C : Addr) (sp : Sp) (E : XK) : List V → Hp → VK → Prop := fun xs H Q => ∃ (a dx : Addr) (fs : List (Str × V)), xs = [V.ref a] ∧ H a = some (.ins C dx fs) ∧ sp [.ref a] H (fun z H' => ∃ n : Nat, z = .int (n : Int) ∧ n < 2 ^ 63 ∧ Q z H') E
theorem call_lenI {X : Cx} {CX : CXT} {C g : Addr} {n : Nat} {sp : Sp} {E : XK} (hs : PySem.W.findIn X.K (.ref C) "__len__" = some (some (.ref g))) (hf : PySem.W.isFn X.K (.ref g) = true) (F : FnR X.prog X.w X.K X.mg X.base CX n g sp) (hr : Room (n + 1) X.A) (hx : Passes CX X E) :
    CallR X (.builtin "len") (rLenI C sp E) := by
  intro pins s σ H xs us Q I r h
  obtain ⟨a, dx, fs, rfl, ha, q⟩ := h
  obtain ⟨u, rfl, ru⟩ := vals1 r
  cases (show u = Value.ref a from ru)
  obtain ⟨mA, O, _⟩ := ins_get I.hok ha
  obtain ⟨od, J, _⟩ := O.look
  obtain ⟨m, hF⟩ := I.fr
  have hr1 : Room n X.A.in1 := Room.in1 hr
  refine PySem.W.len_K hF I.ok.mod.kin J hs hf (wpAny_mono (wpAny_call (SlX.run_at (us := [.ref a]) (ws := [.ref a]) F hr1 I.env0.in1 hx I (.cons rfl .nil) q)) (fun w s' z => ?_) fun _ _ x => x)
  obtain ⟨z', H', I', rz, k, ei, hk, qz⟩ := z
  subst ei
  obtain ⟨t, e⟩ := (show ∃ t, w = Value.int (k : Int) t from rz)
  cases e
  exact ⟨⟨by omega, by omega⟩, .int (k : Int), H', I'.tok _, ⟨_, rfl⟩, qz⟩
end Vk
set_option Elab.async false
set_option linter.all false
set_option maxRecDepth 100000
set_option maxHeartbeats 4000000
namespace Vk
open PySem PySem.Spec PyProof.Rows L2
/-- what a class says of its own operator, the right hand side a builtin T -/
structure BinF (K : PySem.W.Frag) (C g : Addr) (op : Operator) (T : String) : Prop where
  sf : PySem.W.selfFirst K C = true
  own : PySem.W.findIn K (.ref C) (PySem.dunder op.info.2) = some (some (.ref g))
  fn : PySem.W.isFn K (.ref g) = true
  nr : PySem.W.findIn K (.ref C) (dunderR op.info.2) = some none
  t1 : ∃ fo, PySem.W.findIn K (.type T) (PySem.dunder op.info.2) = some fo
  t2 : ∃ ro, PySem.W.findIn K (.type T) (dunderR op.info.2) = some ro
  sub : PySem.W.subIn K (.type T) (.ref C) = some false
section
variable {prog : Program} {w : World} {A : Around} {E : Value → Shared → Prop} {s : Shared} {K : PySem.W.Frag} {x C L g : Addr} {h0 : Heap} {m : Str → Option Value} {ox : Obj} {od : Option Obj} {T : String}
theorem bin_any {op : Operator} {b : Value} {Q : Value → Shared → Prop} (F : PyProof.Rows.Fr h0 L s.heap m) (X0 : K.In h0) (I : PySem.W.InstAt s.heap x ox C od) (lb : PySem.W.Looks (model prog w) s.heap (typeOf b) (.type T)) (B : BinF K C g op T)
    (go : wpAny (model prog w) A (call (.ref g) [.ref x, b]) (PySem.W.CmpBack Q) E s) : wpAny (model prog w) A (binaryOp op (.ref x) b) Q E s := by
  have Xs := X0.keeps F.keep
  obtain ⟨B1, B2, B3, B4, ⟨fo, B5⟩, ⟨ro, B6⟩, B7⟩ := B
  obtain ⟨cd, rest, hcd, hm⟩ := PySem.W.ksp_first B1
  obtain ⟨sym, n2, hi⟩ : ∃ sym n2, op.info = (sym, n2) := ⟨_, _, rfl⟩
  simp only [hi] at B2 B4 B5 B6
  have run := PySem.W.ksp_try Xs I B2 B3 go
  have l1 := I.type (M := model prog w)
  have l3 := PySem.W.fills_K (M := model prog w) Xs hcd hm B2
  have l4 := PySem.W.ksp_fillsT (M := model prog w) Xs B5 B6
  have l5 := PySem.W.looks_subIn (M := model prog w) Xs B7
  have l6 := PySem.W.ksp_inPy (M := model prog w) Xs B2 B4 (.inl rfl)
  have l7 : PySem.W.Looks (model prog w) s.heap (numberSlotInPython (.type T) n2) false := .of_pure rfl
  have l8 := PySem.W.looks_findIn (M := model prog w) Xs B6
  generalize ((fo.isSome && !isSeqSlot fo) || (ro.isSome && !isSeqSlot ro)) = rgt at l4
  have ne : (Value.ref C == Value.type T) = false := rfl
  cases s
  simp only [binaryOp, hi]
  refine wpAny_holding (wpAny_bind ?_)
  unfold binaryOp1
  refine wpAny_bind (l1.at (wpAny_bind (lb.at (wpAny_bind (l3.at ?_)))))
  simp only [ne, Bool.false_eq_true, if_false]
  cases rgt <;>
  · ksp_lk
    refine wpAny_mono run (fun r s' z => ?_) fun _ _ e => e
    obtain ⟨v, rfl, q⟩ := z
    ksp_lk
    exact q
end
theorem looks_tuple {M : Model} {h : Heap} {p : Addr} {o : Obj} (e : h.get? p = some o) (c : o.cls = .type "tuple") : PySem.W.Looks M h (typeOf (.ref p)) (.type "tuple") :=
  fun _ _ _ _ k q => wpAny_typeOf ⟨o, k _ _ e, c⟩ q
/-! x op y by an own method, y a text or a tuple; what it raises is wished for at the slots -/
def tBinI (K : PySem.W.Frag) (C : Addr) (sp : Sp) (E : L2.St → XK) (ta tb : TE) : TE := fun σ H Q => ta σ H fun x H1 => tb σ H1 fun y H2 => ∃ a dx fs, x = .ref a ∧ H2 a = some (.ins C dx fs) ∧ ((∃ z, y = .str z) ∨ ∃ p xs, y = .ref p ∧ SqT K H2 p xs) ∧ sp [x, y] H2 Q (E σ)
section
variable {X : Cx} {CX : CXT} {k : Nat} {g C : Addr} {fd : FuncData} {ps : List Str} {sp : Sp} {E : L2.St → XK} {pos : Pos} {e f : Expr} {ta tb : TE} {op : Operator}
theorem pe_binI (B1 : BinF X.K C g op "str") (B2 : BinF X.K C g op "tuple") (F : FnOk X.prog X.w X.K X.mg X.base CX k g fd ps sp) (hr : Room k X.A) (hb : Binds X.K fd ps []) (hx : ∀ σ, PassesAt CX X σ (E σ)) (he : PE X e ta) (hf : PE X f tb) :
    PE X (.BinOp e op f pos) (tBinI X.K C sp E ta tb) := by
  refine ⟨fun pins s σ H Q I h => ?_⟩
  refine wpAny_BinOp (binT he hf (R := fun x y H2 => ∃ a dx fs, x = .ref a ∧ H2 a = some (.ins C dx fs) ∧ ((∃ z, y = .str z) ∨ ∃ p xs, y = .ref p ∧ SqT X.K H2 p xs) ∧ sp [x, y] H2 Q (E σ)) I h fun v u s2 x y H2 I2 rx ry q => ?_)
  obtain ⟨a, dx, fs, rfl, ha, hy, q⟩ := q
  cases (show v = Value.ref a from rx)
  obtain ⟨mA, O, _⟩ := ins_get I2.hok ha
  obtain ⟨od, J, _⟩ := O.look
  obtain ⟨m, hF⟩ := I2.fr
  have run : wpAny (model X.prog X.w) X.A (call (.ref g) [.ref a, u]) (PySem.W.CmpBack (EP X pins σ Q)) X.xe s2 := by
    refine wpAny_mono (run_fnS (us := [.ref a, u]) (vs := [.ref a, y]) F hr hb (hx σ) I2 (.cons rfl (.cons ry .nil)) q) (fun w s1 z => ?_) fun _ _ z => z
    obtain ⟨z1, H1, I1, rz, qz⟩ := z
    exact SlX.cmpback rz ⟨z1, H1, I1, rz, qz⟩
  rcases hy with ⟨z, rfl⟩ | ⟨p, xs, rfl, hp⟩
  · obtain ⟨t, rfl⟩ := ry
    exact bin_any hF I2.ok.mod.kin J (.of_pure rfl) B1 run
  · cases (show u = Value.ref p from ry)
    obtain ⟨its, _, ⟨o, ho, hc, _⟩, _⟩ := I2.tuple hp
    exact bin_any hF I2.ok.mod.kin J (looks_tuple ho hc) B2 run
/-! y in x by an own __contains__ that never raises -/
def rInI (C : Addr) (sp : Sp) (E : XK) : R2 := fun y x H Q => ∃ a dx fs, x = .ref a ∧ H a = some (.ins C dx fs) ∧ sp [x, y] H (fun z H' => ∃ b, z = .bl b ∧ Q (.bl b) H') E
theorem op_inI {E : XK} (hs : PySem.W.findIn X.K (.ref C) "__contains__" = some (some (.ref g))) (hf : PySem.W.isFn X.K (.ref g) = true) (F : FnOk X.prog X.w X.K X.mg X.base CX k g fd ps sp) (hr : Room k X.A) (hb : Binds X.K fd ps []) (hx : Passes CX X E) :
    OpR X (compareOp .In) (rInI C sp E) := by
  intro pins s σ H y x u v Q I ry rx h
  obtain ⟨a, dx, fs, rfl, ha, q⟩ := h
  cases (show v = Value.ref a from rx)
  obtain ⟨mA, O, _⟩ := ins_get I.hok ha
  obtain ⟨od, J, _⟩ := O.look
  obtain ⟨m, hF⟩ := I.fr
  refine PySem.W.in_K hF I.ok.mod.kin J hs hf ?_
  refine wpAny_mono (run_fn (us := [.ref a, u]) (vs := [.ref a, y]) F hr hb .nil hx I (.cons rfl (.cons ry .nil)) (by rw [List.append_nil]; exact q)) (fun w s1 z => ?_) fun _ _ z => z
  obtain ⟨z1, H1, I1, rz, b, rfl, qz⟩ := z
  cases (show w = Value.bool b from rz)
  exact wpAny_truthy_bool ⟨.bl b, H1, I1, rfl, qz⟩
/-! x[y] by an own __getitem__ that may raise, in a try -/
def tIxI (C : Addr) (sp : Sp) (E : L2.St → XK) (ta tb : TE) : TE := fun σ H Q => ta σ H fun x H1 => tb σ H1 fun y H2 => ∃ a dx fs, x = .ref a ∧ H2 a = some (.ins C dx fs) ∧ sp [x, y] H2 Q (E σ)
theorem pe_ixI (hs : PySem.W.findIn X.K (.ref C) "__getitem__" = some (some (.ref g))) (hn : PySem.W.fnIn X.K g = true) (hi : PySem.W.isFn X.K (.ref g) = true) (F : FnR X.prog X.w X.K X.mg X.base CX k g sp) (hr : Room (k + 1) X.A) (hx : ∀ σ, PassesAt CX X σ (E σ)) (he : PE X e ta) (hf : PE X f tb)
    (hsl : ∀ o i, subscripted f true o i = runValue (.builtin "lifetime.subscript" ⟨[o, i], []⟩)) : PE X (.Subscript e f pos) (tIxI C sp E ta tb) := by
  refine ⟨fun pins s σ H Q I h => ?_⟩
  refine Subscript_ (binT he hf (R := fun x y H2 => ∃ a dx fs, x = .ref a ∧ H2 a = some (.ins C dx fs) ∧ sp [x, y] H2 Q (E σ)) I h fun v u s2 x y H2 I2 rx ry q => ?_)
  obtain ⟨a, dx, fs, rfl, ha, q⟩ := q
  cases (show v = Value.ref a from rx)
  obtain ⟨mA, O, _⟩ := ins_get I2.hok ha
  obtain ⟨od, J, _⟩ := O.look
  obtain ⟨m, hF⟩ := I2.fr
  have hr1 : Room k X.A.in1 := Room.in1 hr
  refine PySem.W.sub_K hF I2.ok.mod.kin J hs hn hi (wpAny_call (codeAny_mono (F X.A.in1 X.stack s2 H2 [.ref a, u] [.ref a, y] Q (E σ) hr1 I2.env0.in1 (.cons rfl (.cons ry .nil)) q) fun r s' z => ?_)) (hsl _ _)
  match r, z with
  | .error e, z => exact hx σ pins H2 s2 e s' I2 z
  | .ok (.ret u), z => exact I2.after z
  | .ok .next, z => exact z.elim
  | .ok .brk, z => exact z.elim
  | .ok .cont, z => exact z.elim
end
end Vk
set_option Elab.async false
set_option linter.all false
set_option maxRecDepth 100000
set_option maxHeartbeats 4000000
namespace NSet
open PySem PySem.Spec PyProof.Rows L2
/-! X28: sets of tuples of whole numbers and texts -/
/-- a cell of a tuple: a number or a text -/
abbrev Cell := Int ⊕ Str
def cell : Cell → NestedKey
  | .inl i => .num i
  | .inr x => .text x
def nk (k : List Cell) : NestedKey := .tup (k.map cell)
theorem cell_inj {a b : Cell} (h : cell a = cell b) : a = b := by
  cases a <;> cases b <;> simp only [cell, NestedKey.num.injEq, NestedKey.text.injEq, reduceCtorEq] at h <;> rw [h]
theorem nk_inj {a b : List Cell} (h : nk a = nk b) : a = b := by
  unfold nk at h
  exact List.map_inj_right (fun _ _ e => cell_inj e) |>.mp (NestedKey.tup.inj h)
theorem depth_cells : ∀ k : List Cell, NestedKey.depthAll (k.map cell) = 0
  | [] => rfl
  | .inl _ :: k => by
    show max 0 (NestedKey.depthAll (k.map cell)) = 0
    rw [depth_cells k]
    rfl
  | .inr _ :: k => by
    show max 0 (NestedKey.depthAll (k.map cell)) = 0
    rw [depth_cells k]
    rfl
theorem depth_nk (k : List Cell) : (nk k).depth ≤ 1 := by
  unfold nk
  simp only [NestedKey.depth, depth_cells]
  omega
/-- the tuple at a has the cells k -/
def At (h : Heap) (k : List Cell) (a : Addr) : Prop := NestedIs h (nk k) (.ref a)
theorem At.obj {h : Heap} {k : List Cell} {a : Addr} (x : At h k a) : ∃ (o : Obj) (vs : Array Value) (n : Nat), h.get? a = some o ∧ o.cls = .type "tuple" ∧ o.data = .seq vs n ∧ NestedAll h (k.map cell) vs.toList := by
  unfold At nk at x
  cases x with
  | tup h1 h2 h3 h4 => exact ⟨_, _, _, h1, h2, h3, h4⟩
theorem At.one {h : Heap} {k k' : List Cell} {a : Addr} (x : At h k a) (y : At h k' a) : k = k' := nk_inj (NestedIs.inj _ _ _ x y)
theorem At.on {h h' : Heap} {k : List Cell} {a : Addr} (x : At h k a) (hk : ∀ b o vs n, h.get? b = some o → o.data = .seq vs n → h'.get? b = some o) : At h' k a := NestedIs.at hk _ _ x
theorem At.wide {h h' : Heap} {k : List Cell} {a : Addr} (x : At h k a) (hk : ∀ b o, h.get? b = some o → h'.get? b = some o) : At h' k a := x.on fun b o _ _ e _ => hk b o e
theorem At.past {h h' : Heap} {k : List Cell} {a d : Addr} {o : Obj} {es : Array (Int × Value)} {ep : Nat} {t : SetTable} (x : At h k a) (ho : h.get? d = some o) (hd : o.data = .set es ep t) (hs : Heap.SameBut d h h') : At h' k a :=
  x.on fun b u vs n e c => (hs.2 b fun z => by
    rw [z, ho] at e
    rw [← Option.some.inj e, hd] at c
    cases c).trans e
/-- what is asked of the cells -/
theorem cells_told {h : Heap} : ∀ {k : List Cell} {vs : List Value}, NestedAll h (k.map cell) vs → ∀ v ∈ vs, (∀ n, ofAClassStatement n v = pure false) ∧ ∃ b, ∀ n, hashByValue n v = pure b
  | [], _, .nil, v, hv => by cases hv
  | c :: k, _, .cons x xs, v, hv => by
    rcases List.mem_cons.mp hv with e | hv
    · subst e
      cases c with
      | inl i =>
        change NestedIs h (.num i) v at x
        cases x with
        | bool _ => exact ⟨fun n => by cases n <;> rfl, true, fun n => by cases n <;> rfl⟩
        | int _ t => exact ⟨fun n => by cases n <;> rfl, true, fun n => by cases n <;> rfl⟩
      | inr y =>
        change NestedIs h (.text y) v at x
        cases x with
        | text _ t => exact ⟨fun n => by cases n <;> rfl, false, fun n => by cases n <;> rfl⟩
    · exact cells_told xs v hv
section
variable {P : Program} {w : World} {A : Around} {E : Value → Shared → Prop} {s : Shared}
theorem At.noClass {k : List Cell} {a : Addr} {Q : Bool → Shared → Prop} (x : At s.heap k a) (h : Q false s) : wpAny (model P w) A (ofAClassStatement 8 (.ref a)) Q E s := by
  obtain ⟨o, vs, n, ho, hc, hd, hv⟩ := x.obj
  have told := cells_told hv
  have hT : s.TypeIs (.ref a) "tuple" := ⟨o, ho, hc⟩
  unfold ofAClassStatement
  refine wpAny_bind (wpAny_typeOf hT ?_)
  have et : (("tuple" : String) == "tuple") = true := by decide
  simp only [et, if_true]
  refine wpAny_bind (wpAny_pure ?_)
  refine wp_if_neg (by decide) ?_
  try refine wpAny_bind (wpAny_pure ?_)
  refine wpAny_bind (wpAny_seqItems ho hd ?_)
  refine wpAny_bind ?_
  show wpAny _ _ (forIn vs _ _) _ _ s
  rw [← Array.forIn_toList]
  refine wpAny_forIn_list _ (fun rest r s' => r.1 = none ∧ s' = s ∧ ∀ v ∈ rest, v ∈ vs.toList) _ ?_ ?_ _ _ ⟨rfl, rfl, fun _ h => h⟩
  · rintro v rest r s' ⟨hr, rfl, hall⟩
    rw [(told v (hall v List.mem_cons_self)).1]
    refine wpAny_bind (wpAny_pure ?_)
    refine wp_if_neg (by decide) ?_
    exact wpAny_pure ⟨rfl, rfl, fun u hu => hall u (List.mem_cons_of_mem _ hu)⟩
  · rintro ⟨r1, r2⟩ s' ⟨hr, rfl, _⟩
    simp only at hr
    subst hr
    exact wpAny_pure h
/-- whether the hash is by value: either answer will do -/
theorem At.byVal {k : List Cell} {a : Addr} {Q : Bool → Shared → Prop} (x : At s.heap k a) (h : ∀ b, Q b s) : wpAny (model P w) A (hashByValue 8 (.ref a)) Q E s := by
  obtain ⟨o, vs, n, ho, hc, hd, hv⟩ := x.obj
  have told := cells_told hv
  have hT : s.TypeIs (.ref a) "tuple" := ⟨o, ho, hc⟩
  unfold hashByValue
  refine wpAny_bind (wpAny_specialOf hT F.slot_tuple_hash.lookup ?_)
  show wpAny _ _ (seqItems? (.ref a) >>= _) _ _ s
  refine wpAny_bind (wpAny_seqItems ho hd ?_)
  refine wpAny_bind ?_
  show wpAny _ _ (forIn vs _ _) _ _ s
  rw [← Array.forIn_toList]
  refine wpAny_forIn_list _ (fun rest r s' => r.1 = none ∧ s' = s ∧ ∀ v ∈ rest, v ∈ vs.toList) _ ?_ ?_ _ _ ⟨rfl, rfl, fun _ h => h⟩
  · rintro v rest r s' ⟨hr, rfl, hall⟩
    obtain ⟨b, hb⟩ := (told v (hall v List.mem_cons_self)).2
    rw [hb]
    refine wpAny_bind (wpAny_pure ?_)
    cases b with
    | true =>
      refine wp_if_neg (by decide) ?_
      exact wpAny_pure ⟨rfl, rfl, fun u hu => hall u (List.mem_cons_of_mem _ hu)⟩
    | false =>
      refine wp_if_pos (by decide) ?_
      exact wpAny_pure (wpAny_pure (h false))
  · rintro ⟨r1, r2⟩ s' ⟨hr, rfl, _⟩
    simp only at hr
    subst hr
    exact wpAny_pure (h true)
theorem At.depth8 {h : Heap} {k : List Cell} {a : Addr} (x : At h k a) : (nestedKind P w).is h (nk k) a := ⟨x, Nat.le_trans (depth_nk k) (by decide)⟩
abbrev hsh (w : World) (k : List Cell) : Int := (nk k).hash w
theorem At.hashed {k : List Cell} {a : Addr} {Q : Int → Shared → Prop} (hu : A.units + 8 < cLine) (x : At s.heap k a) (h : ∀ n, Q (hsh w k) { s with toks := s.toks + n }) : wpAny (model P w) A (PySem.pyHash (.ref a)) Q E s :=
  (nestedKind P w).pyHash hu x.depth8 (h _)
theorem At.equal {k k' : List Cell} {a b : Addr} {Q : Bool → Shared → Prop} (hu : A.units + 8 < cLine) (x : At s.heap k a) (y : At s.heap k' b) (h : Q (decide (k = k')) s) : wpAny (model P w) A (PySem.eqBool (.ref a) (.ref b)) Q E s := by
  refine (nestedKind P w).eqBool hu x.depth8 y.depth8 ?_
  have e : decide (nk k = nk k') = decide (k = k') := by
    by_cases z : k = k'
    · rw [z, decide_eq_true rfl, decide_eq_true rfl]
    · rw [decide_eq_false z, decide_eq_false fun q => z (nk_inj q)]
  rw [e]
  exact h
theorem At.still {k : List Cell} {a : Addr} {Q : Bool → Shared → Prop} (x : At s.heap k a) (h : Q true s) : wpAny (model P w) A (eqIsQuiet 8 (.ref a)) Q E s := (nestedKind P w).quiet x.depth8 h
/-- the search shows nothing -/
theorem unseen {k : List Cell} {a : Addr} {Q : Bool → Shared → Prop} (x : At s.heap k a) {ys : List Value} (hy : ∀ y ∈ ys, ∃ k' c, y = Value.ref c ∧ At s.heap k' c) (h : Q false s) : wpAny (model P w) A (searchCouldBeSeen (.ref a) ys) Q E s := by
  unfold searchCouldBeSeen
  refine wpAny_bind (wpAny_forIn_list _ (fun rest r s' => r.1 = none ∧ s' = s ∧ ∀ y ∈ rest, y ∈ ys) _ (fun v rest r s' hI => ?_) (fun r s' hI => ?_) _ _ ⟨rfl, rfl, fun _ h => h⟩)
  · obtain ⟨hr, rfl, hall⟩ := hI
    obtain ⟨k', c, rfl, hc⟩ := hy v (hall v List.mem_cons_self)
    have rest' : ∀ y ∈ rest, y ∈ ys := fun u hu => hall u (List.mem_cons_of_mem _ hu)
    dsimp only
    by_cases hv : (a == c || (carriedByValue (.ref a) && carriedByValue (.ref c))) = true
    · exact wp_if_pos hv (wpAny_pure ⟨rfl, rfl, rest'⟩)
    refine wp_if_neg hv (wpAny_bind (x.still ?_))
    refine wp_if_neg (by decide) (wpAny_bind (hc.still ?_))
    refine wp_if_neg (by decide) (wpAny_bind (x.noClass ?_))
    refine wp_if_neg (by decide) (wpAny_bind (hc.noClass ?_))
    exact wp_if_neg (by decide) (wpAny_pure ⟨rfl, rfl, rest'⟩)
  · obtain ⟨r1, r2⟩ := r
    obtain ⟨hr, rfl, _⟩ := hI
    simp only at hr
    subst hr
    exact wpAny_pure h
end
end NSet
set_option Elab.async false
set_option linter.all false
set_option maxRecDepth 100000
set_option maxHeartbeats 4000000
namespace NSet
open PySem PySem.Spec PyProof.Rows L2
/-! X29: the search of a set of such tuples -/
/-- where a search stands after c steps -/
abbrev St (t : SetTable) (h : Int) (c : Nat) : SetTable.Probe := nth t.mask (runAt t.mask (SetTable.bits h % (t.mask + 1)) (SetTable.bits h)) c
theorem nth_dummy (m : Nat) : ∀ (n : Nat) (p : SetTable.Probe), p.dummy = none → (nth m p n).dummy = none
  | 0, _, h => h
  | n + 1, p, h => nth_dummy m n _ (by
    unfold adv
    split <;> exact h)
/-- what a probe from the c-th step on tells, by the way's own count -/
theorem probe_from {t : SetTable} {hs : List Int} (T : TabOk t hs) (h : Int) (hat : Nat → Int) {K c : Nat} (hf : K < 10 * SetTable.turns t.mask) (hK : way t.mask h K ∉ t.place.toList) (hb : ∀ e, e < K → way t.mask h e ∈ t.place.toList) (hc : c ≤ K) :
    (∃ e i, c ≤ e ∧ e < K ∧ t.place.toList[i]? = some (way t.mask h e) ∧ hat i = h ∧ (∀ e' i', c ≤ e' → e' < e → t.place.toList[i']? = some (way t.mask h e') → hat i' ≠ h) ∧
      t.probe hat h (St t h c) = some (.candidate (way t.mask h e) i (St t h (e + 1)))) ∨
    ((∀ e' i', c ≤ e' → e' < K → t.place.toList[i']? = some (way t.mask h e') → hat i' ≠ h) ∧ t.probe hat h (St t h c) = some (.empty (way t.mask h K) none)) := by
  have go : ∀ q, nth t.mask (St t h c) q = St t h (c + q) := fun q => (nth_add t.mask c _ q).symm
  have goj : ∀ q, (nth t.mask (St t h c) q).j = way t.mask h (c + q) := fun q => congrArg SetTable.Probe.j (go q)
  have back : c + (K - c) = K := by omega
  rcases go_spec t T.ris T.dm hat h (10 * SetTable.turns t.mask) (K - c) (St t h c) (nth_dummy _ _ _ rfl) (by omega) (fun q hq => goj q ▸ hb _ (by omega)) (by rw [goj, back]; exact hK) with ⟨q, i, h1, h2, h3, h4, h5⟩ | ⟨h4, h5⟩
  · rw [goj] at h2
    refine .inl ⟨c + q, i, by omega, by omega, h2, h3, fun e' i' a1 a2 a3 => h4 (e' - c) i' (by omega) (by rw [goj, show c + (e' - c) = e' by omega]; exact a3), ?_⟩
    rw [goj, go, ← Nat.add_assoc] at h5
    exact h5
  · refine .inr ⟨fun e' i' a1 a2 a3 => h4 (e' - c) i' (by omega) (by rw [goj, show c + (e' - c) = e' by omega]; exact a3), ?_⟩
    rw [goj, back] at h5
    exact h5
/-- the set at a holds the tuples L -/
structure Tups (w : World) (h : Heap) (a : Addr) (L : List (Addr × List Cell)) (es : Array (Int × Value)) (ep : Nat) (t : SetTable) : Prop where
  obj : ∃ o, h.get? a = some o ∧ o.ExactSet ∧ o.data = .set es ep t
  row : es.toList = L.map fun p => (hsh w p.2, Value.ref p.1)
  tab : TabOk t (L.map fun p => hsh w p.2)
  dif : (L.map (·.2)).Nodup
  tup : ∀ p ∈ L, At h p.2 p.1
  led : w.params.followText "set-order" = true ∨ t.led = true
  gap : L.length * 5 < t.mask * 3
  few : L.length < 64
section
variable {P : Program} {w : World} {A : Around} {E : Value → Shared → Prop} {s : Shared} {a : Addr} {L : List (Addr × List Cell)} {es : Array (Int × Value)} {ep : Nat} {t : SetTable}
theorem Tups.count {h : Heap} (R : Tups w h a L es ep t) : es.size = L.length := by rw [← Array.length_toList, R.row, List.length_map]
theorem Tups.places {h : Heap} (R : Tups w h a L es ep t) : t.place.size = L.length := by rw [R.tab.sz, List.length_map]
theorem Tups.fit {h : Heap} (R : Tups w h a L es ep t) : t.fits es.size = true := by
  have h1 := R.places
  have h2 := R.count
  have h3 := R.gap
  unfold SetTable.fits SetTable.fill
  rw [R.tab.dm, Bool.and_eq_true, beq_iff_eq, decide_eq_true_eq]
  show t.place.size = es.size ∧ t.place.size + 0 ≤ t.mask
  omega
theorem Tups.cell {h : Heap} (R : Tups w h a L es ep t) {i : Nat} {p : Addr × List Cell} (hp : L[i]? = some p) : es[i]? = some (hsh w p.2, Value.ref p.1) := by
  rw [← Array.getElem?_toList, R.row, List.getElem?_map, hp]
  rfl
theorem Tups.kept {h : Heap} (R : Tups w h a L es ep t) : ¬ t.gaveWay = true := by
  unfold SetTable.gaveWay
  rw [mask_odd R.tab.mok]
  decide
theorem seek (R : Tups w s.heap a L es ep t) {x : Addr} {k : List Cell} (hx : At s.heap k x) (hu : A.units + 8 < cLine) {K : Nat} (hf : K < 10 * SetTable.turns t.mask) (hK : way t.mask (hsh w k) K ∉ t.place.toList) (hb : ∀ c, c < K → way t.mask (hsh w k) c ∈ t.place.toList)
    {Q : SetFound → Shared → Prop} (yes : k ∈ L.map (·.2) → Q (.there none) s) (no : k ∉ L.map (·.2) → Q (.free (way t.mask (hsh w k) K) false) s) :
    ∀ (f c : Nat) (stand : Option SetTable.Probe), stand.getD (t.probeStart (hsh w k)) = St t (hsh w k) c → c ≤ K → K - c < f →
      (∀ (i : Nat) p, L[i]? = some p → p.2 = k → ∃ e, c ≤ e ∧ e < K ∧ t.place.toList[i]? = some (way t.mask (hsh w k) e)) → wpAny (model P w) A (setSearchFrom a (.ref x) (hsh w k) true f stand) Q E s := by
  intro f
  induction f with
  | zero => intro c stand _ _ hlt; exact absurd hlt (Nat.not_lt_zero _)
  | succ f ih =>
    intro c stand hst hc hlt hre
    obtain ⟨o, ho, hex, hd⟩ := R.obj
    have hat : ∀ (i : Nat) p, L[i]? = some p → (fun i => (es[i]?.map (·.1)).getD 0) i = hsh w p.2 := fun i p hp => by
      show (es[i]?.map (·.1)).getD 0 = _
      rw [R.cell hp]
      rfl
    rw [setSearchFrom_succ]
    refine wpAny_bind (wpAny_setState_of ho hd R.fit ?_)
    dsimp only
    refine wp_if_neg R.kept ?_
    try refine wpAny_bind (wpAny_pure ?_)
    rw [hst]
    rcases probe_from R.tab (hsh w k) (fun i => (es[i]?.map (·.1)).getD 0) hf hK hb hc with ⟨e, i, h1, h2, h3, h4, h5, h6⟩ | ⟨h5, h6⟩
    · rw [h6]
      dsimp only
      have hi : i < L.length := by
        have := (List.getElem?_eq_some_iff.mp h3).1
        rw [Array.length_toList, R.places] at this
        exact this
      obtain ⟨p, hp⟩ : ∃ p, L[i]? = some p := ⟨_, List.getElem?_eq_getElem hi⟩
      have hm := List.mem_of_getElem? hp
      have live : t.slot (way t.mask (hsh w k) e) = .live i := slot_live R.tab.ris h3
      have on : wpAny (model P w) A (searchRest a (.ref x) (hsh w k) true f es t (way t.mask (hsh w k) e) i (St t (hsh w k) (e + 1))) Q E s := by
        unfold searchRest
        rw [R.cell hp]
        dsimp only
        refine wpAny_bind (wpAny_holding ((R.tup p hm).equal hu hx ?_))
        refine wpAny_bind (wpAny_setState_of ho hd R.fit ?_)
        dsimp only
        by_cases same : p.2 = k
        · exact wp_if_pos (by simp [same]) (wpAny_pure (yes (List.mem_map.mpr ⟨p, hm, same⟩)))
        · refine wp_if_neg (by simp [same]) ?_
          try refine wpAny_bind (wpAny_pure ?_)
          rw [sameMem]
          dsimp only
          simp only [if_true, live, R.cell hp]
          refine wpAny_bind (wpAny_isSame_ref_self (wpAny_bind (wpAny_pure ?_)))
          simp only [if_true]
          refine wp_if_neg (by simp [same]) (ih (e + 1) _ rfl (by omega) (by omega) fun i0 p0 g0 gk => ?_)
          obtain ⟨e0, a1, a2, a3⟩ := hre i0 p0 g0 gk
          refine ⟨e0, Nat.lt_of_le_of_ne (Nat.le_of_not_lt fun z => h5 e0 i0 a1 z a3 ((hat i0 p0 g0).trans (congrArg (hsh w) gk))) (fun z => ?_), a2, a3⟩
          rw [← z] at a3
          have l2 := slot_live R.tab.ris a3
          rw [live] at l2
          injection l2 with l2
          rw [← l2, hp] at g0
          exact same ((congrArg Prod.snd (Option.some.inj g0)).trans gk)
      by_cases hl : t.led = true
      · refine wp_if_neg (by simp [hl]) ?_
        try refine wpAny_bind (wpAny_pure ?_)
        exact on
      · refine wp_if_pos (by simp [hl]) (wpAny_bind (unseen hx (fun y hy => ?_) ?_))
        · obtain ⟨u, hu1, rfl⟩ := List.mem_map.mp hy
          have hu2 : u ∈ es.toList := by
            have : u ∈ es ∧ u.1 = hsh w k := by simpa using hu1
            simpa using this.1
          rw [R.row] at hu2
          obtain ⟨q, hq, rfl⟩ := List.mem_map.mp hu2
          exact ⟨q.2, q.1, rfl, R.tup q hq⟩
        · refine wp_if_neg (by decide) ?_
          try refine wpAny_bind (wpAny_pure ?_)
          exact on
    · rw [h6]
      dsimp only
      refine wpAny_pure (no fun hm => ?_)
      obtain ⟨p0, g0, gk⟩ := List.mem_map.mp hm
      obtain ⟨i0, hi0, ei⟩ := List.getElem_of_mem g0
      have g1 : L[i0]? = some p0 := by rw [List.getElem?_eq_getElem hi0, ei]
      obtain ⟨e0, a1, a2, a3⟩ := hre i0 p0 g1 gk
      exact h5 e0 i0 a1 a2 a3 ((hat i0 p0 g1).trans (congrArg (hsh w) gk))
end
end NSet
set_option Elab.async false
set_option linter.all false
set_option maxRecDepth 100000
set_option maxHeartbeats 4000000
namespace NSet
open PySem PySem.Spec PyProof.Rows L2
/-! X30: laying anew, adding -/
theorem all_of {α : Type} : ∀ L : List α, (List.range L.length).filterMap (fun i => L[i]?) = L
  | [] => rfl
  | x :: L => by
    rw [List.length_cons, List.range_succ_eq_map, List.filterMap_cons]
    show x :: _ = _
    rw [List.filterMap_map]
    exact congrArg (x :: ·) (all_of L)
theorem drawn_map {α β : Type} (L : List α) (f : α → β) (d : β) : ∀ l : List Nat, (∀ i ∈ l, i < L.length) → (l.filterMap fun i => L[i]?).map f = l.map fun i => ((L.map f)[i]?).getD d
  | [], _ => rfl
  | i :: l, h => by
    have hi := h i List.mem_cons_self
    have e : L[i]? = some L[i] := List.getElem?_eq_getElem hi
    rw [List.filterMap_cons, e]
    show f L[i] :: _ = _
    rw [List.map_cons, List.getElem?_map, e, drawn_map L f d l fun j hj => h j (List.mem_cons_of_mem _ hj)]
    rfl
theorem ordered {w : World} {L : List (Addr × List Cell)} {es : Array (Int × Value)} {order : Array Nat} (row : es.toList = L.map fun p => (hsh w p.2, Value.ref p.1)) (hp : order.toList.Perm (List.range L.length)) :
    ∃ L2 : List (Addr × List Cell), (order.filterMap (es[·]?)).toList = L2.map (fun p => (hsh w p.2, Value.ref p.1)) ∧ L2.Perm L ∧ L2.map (fun p => hsh w p.2) = order.toList.map fun i => (es.map (·.1)).getD i 0 := by
  have hb : ∀ i ∈ order.toList, i < L.length := fun i hi => List.mem_range.mp (hp.mem_iff.mp hi)
  refine ⟨order.toList.filterMap fun i => L[i]?, ?_, ?_, ?_⟩
  · rw [Array.toList_filterMap, List.map_filterMap]
    refine congrArg (fun g => List.filterMap g order.toList) (funext fun i => ?_)
    rw [← Array.getElem?_toList, row, List.getElem?_map]
  · have := hp.filterMap fun i => L[i]?
    rwa [all_of] at this
  · rw [drawn_map L (fun p => hsh w p.2) 0 _ hb]
    refine List.map_congr_left fun i hi => ?_
    have hl := hb i hi
    have e : L[i]? = some L[i] := List.getElem?_eq_getElem hl
    have e2 : (es.map (·.1))[i]? = some (hsh w L[i].2) := by
      rw [← Array.getElem?_toList, Array.toList_map, row, List.map_map, List.getElem?_map, e]
      rfl
    rw [List.getElem?_map, e, Array.getD_eq_getD_getElem?, e2]
    rfl
section
variable {P : Program} {w : World} {A : Around} {E : Value → Shared → Prop} {s : Shared} {a : Addr} {L : List (Addr × List Cell)} {es : Array (Int × Value)} {ep : Nat} {t : SetTable}
theorem relay {o : Obj} (ho : s.heap.get? a = some o) (hex : o.ExactSet) (hd : o.data = .set es ep t) (row : es.toList = L.map fun p => (hsh w p.2, Value.ref p.1)) (pl : t.place.size = es.size) (dm : t.dummies = #[]) (le : es.size ≤ t.mask)
    (dif : (L.map (·.2)).Nodup) (tup : ∀ p ∈ L, At s.heap p.2 p.1) (led : w.params.followText "set-order" = true ∨ t.led = true) (few : L.length < 64) {wanted M : Nat} (hw : SetTable.sizeAbove wanted - 1 = M) (hM : MaskOk M) (hw2 : SetTable.sizeAbove wanted ≤ 128)
    (hn : L.length * 5 < M * 3) {Q : Unit → Shared → Prop} (hQ : ∀ h' L' es' ep' t', Heap.SameBut a s.heap h' → Tups w h' a L' es' ep' t' → L'.Perm L → Q () { s with heap := h' }) : wpAny (model P w) A (setRelay a wanted) Q E s := by
  have cnt : es.size = L.length := by rw [← Array.length_toList, row, List.length_map]
  have fit : t.fits es.size = true := by
    unfold SetTable.fits SetTable.fill
    rw [dm, Bool.and_eq_true, beq_iff_eq, decide_eq_true_eq]
    show t.place.size = es.size ∧ t.place.size + 0 ≤ t.mask
    omega
  obtain ⟨t', order, re, hp, T, em, el, _, _⟩ := relaid_ok t (hs := es.map (·.1)) (wanted := wanted) hw hM (by rw [Array.size_map]; omega)
  rw [Array.size_map, cnt] at hp
  obtain ⟨L2, r1, r2, r3⟩ := ordered row hp
  rw [← r3] at T
  have cnt2 : (order.filterMap (es[·]?)).size = L.length := by rw [← Array.length_toList, r1, List.length_map, r2.length_eq]
  have sb : Heap.SameBut a s.heap (s.heap.update a (Obj.putSet (order.filterMap (es[·]?)) t')) := Heap.SameBut.update ..
  rw [setRelay_eq]
  refine wpAny_bind (wpAny_setState_of ho hd fit ?_)
  dsimp only
  refine wp_if_neg (by rw [sizeLine_eq]; omega) ?_
  try refine wpAny_bind (wpAny_pure ?_)
  rw [re]
  dsimp only
  refine wpAny_bind (wp_if_neg (by rw [cnt2, cnt]; simp) ?_)
  try refine wpAny_bind (wpAny_pure ?_)
  refine wpAny_pure ?_
  dsimp only
  refine wpAny_storeSet_of ho hd (hQ _ L2 (order.filterMap (es[·]?)) (ep + 1) t' sb ?_ r2) (by rw [cnt2, sizeLine_eq]; omega)
  exact { obj := ⟨_, store_at ho hd, ⟨hex.1, hex.2.1, hex.2.2⟩, rfl⟩, row := r1, tab := T, dif := (r2.map (·.2)).nodup_iff.mpr dif, tup := fun p hm => (tup p (r2.mem_iff.mp hm)).past ho hd sb, led := by rw [el]; exact led, gap := by rw [r2.length_eq, em]; exact hn, few := by rw [r2.length_eq]; exact few }
theorem asked {t : SetTable} {k : List Cell} {x : Addr} (hx : At s.heap k x) {F : Bool → Sem Bool} {Q : Bool → Shared → Prop} (h : ∀ b, wpAny (model P w) A (F b) Q E s) : wpAny (model P w) A (if t.plain = true then hashByValue 8 (.ref x) >>= F else pure true >>= F) Q E s := by
  by_cases hp : t.plain = true
  · exact wp_if_pos hp (wpAny_bind (hx.byVal h))
  · exact wp_if_neg hp (wpAny_bind (wpAny_pure (h true)))
theorem put_in (R : Tups w s.heap a L es ep t) {x : Addr} {k : List Cell} (hx : At s.heap k x) (hu : A.units + 8 < cLine) (more : L.length + 1 < 64) {Q : Bool → Shared → Prop}
    (hQ : ∀ b h' L' es' ep' t', Heap.SameBut a s.heap h' → Tups w h' a L' es' ep' t' → (k ∈ L.map (·.2) → L' = L) → (k ∉ L.map (·.2) → L'.Perm ((x, k) :: L)) → Q b { s with heap := h' }) :
    wpAny (model P w) A (setAddHashed a (.ref x) (hsh w k)) Q E s := by
  obtain ⟨o, ho, hex, hd⟩ := R.obj
  have cnt := R.count
  have gap := R.gap
  obtain ⟨K, hf, hK, hb⟩ := R.tab.first (by rw [List.length_map]; omega) (hsh w k)
  have big : K < 100000 := by
    have : 10 * SetTable.turns t.mask ≤ 1420 := by
      unfold SetTable.turns
      rcases R.tab.mok with e | e | e <;> omega
    omega
  have pass : ∀ (i : Nat) p, L[i]? = some p → p.2 = k → ∃ e, 0 ≤ e ∧ e < K ∧ t.place.toList[i]? = some (way t.mask (hsh w k) e) := fun i p hp hk => by
    have h1 : (L.map fun p => hsh w p.2)[i]? = some (hsh w k) := by rw [List.getElem?_map, hp, ← hk]; rfl
    have h2 : i < t.place.toList.length := by
      rw [Array.length_toList, R.places]
      exact (List.getElem?_eq_some_iff.mp hp).1
    obtain ⟨e, he, ee⟩ := R.tab.before hK h1 (List.getElem?_eq_getElem h2)
    exact ⟨e, Nat.zero_le _, he, by rw [List.getElem?_eq_getElem h2, ee]⟩
  unfold setAddHashed
  refine wpAny_holding ?_
  rw [show (100000 : Nat) = 99999 + 1 from rfl, setAddHashedIn_succ]
  refine wpAny_bind (wpAny_setState_of ho hd R.fit ?_)
  dsimp only
  refine wp_if_neg (by simp [byScan, Value.scannable]) ?_
  try refine wpAny_bind (wpAny_pure ?_)
  refine wpAny_bind ?_
  unfold setSearch
  refine seek R hx hu hf hK hb (fun hm => ?_) (fun hm => ?_) 100000 0 none rfl (Nat.zero_le _) (by omega) pass
  · dsimp only
    exact wpAny_pure (hQ false s.heap L es ep t (Heap.SameBut.refl a s.heap) R (fun _ => rfl) fun z => absurd hm z)
  dsimp only
  refine wpAny_bind (wpAny_setState_of ho hd R.fit ?_)
  dsimp only
  obtain ⟨q1, q2, q3, q4, q5, _, _, _, q9⟩ := R.tab.put hK hb
  generalize hpt : t.put (way t.mask (hsh w k) K) = pt at q1 q3 q4 q5 q9 ⊢
  obtain ⟨t1, p⟩ := pt
  dsimp only at q1 q3 q4 q5 q9 ⊢
  refine asked (t := t1) hx fun bv => ?_
  have two : (if bv = true then t1 else { t1 with plain := false }) = t1 ∨ (if bv = true then t1 else { t1 with plain := false }) = { t1 with plain := false } := by
    cases bv
    · exact .inr rfl
    · exact .inl rfl
  generalize (if bv = true then t1 else { t1 with plain := false }) = t2 at two ⊢
  have T2 : TabOk t2 ((L.map fun p => hsh w p.2).take (SetTable.below t.place (way t.mask (hsh w k) K)) ++ hsh w k :: (L.map fun p => hsh w p.2).drop (SetTable.below t.place (way t.mask (hsh w k) K))) := by
    rcases two with e | e
    · rw [e]; exact q3
    · rw [e]; exact ⟨q3.ris, q3.dm, q3.sz, q3.mok, q3.bd, q3.reach⟩
  have m2 : t2.mask = t.mask := by rcases two with e | e <;> rw [e] <;> exact q4
  have l2 : t2.led = t.led := by rcases two with e | e <;> rw [e] <;> exact q5
  have f2 : t2.fill = (L.map fun p => hsh w p.2).length + 1 := by rcases two with e | e <;> rw [e] <;> exact q9
  clear two q3 q4 q5 q9 hpt
  subst q1
  generalize SetTable.below t.place (way t.mask (hsh w k) K) = p at q2 T2 ⊢
  rw [List.length_map] at q2 f2
  have row1 : (SetTable.insertAt es p (hsh w k, Value.ref x)).toList = (L.take p ++ (x, k) :: L.drop p).map fun p => (hsh w p.2, Value.ref p.1) := by
    rw [SetTable.toList_insertAt, R.row, List.map_append, List.map_cons, List.map_take, List.map_drop]
  have eT : (L.take p ++ (x, k) :: L.drop p).map (fun p => hsh w p.2) = (L.map fun p => hsh w p.2).take p ++ hsh w k :: (L.map fun p => hsh w p.2).drop p := by
    rw [List.map_append, List.map_cons, List.map_take, List.map_drop]
  rw [← eT] at T2
  have pm : (L.take p ++ (x, k) :: L.drop p).Perm ((x, k) :: L) := put_perm L p (x, k)
  have cnt1 : (SetTable.insertAt es p (hsh w k, Value.ref x)).size = L.length + 1 := by rw [← Array.length_toList, row1, List.length_map, pm.length_eq, List.length_cons]
  generalize SetTable.insertAt es p (hsh w k, Value.ref x) = es1 at row1 cnt1 ⊢
  generalize L.take p ++ (x, k) :: L.drop p = L1 at pm T2 row1
  have len1 : L1.length = L.length + 1 := pm.length_eq
  have sb : Heap.SameBut a s.heap (s.heap.update a (Obj.putSet es1 t2)) := Heap.SameBut.update ..
  have ho1 := store_at (es' := es1) (t' := t2) ho hd
  refine wpAny_bind (wpAny_storeSet_of ho hd ?_ (by rw [cnt1, sizeLine_eq]; omega))
  generalize s.heap.update a (Obj.putSet es1 t2) = h1 at sb ho1 ⊢
  have dif1 : (L1.map (·.2)).Nodup := (pm.map (·.2)).nodup_iff.mpr (List.nodup_cons.mpr ⟨hm, R.dif⟩)
  have tup1 : ∀ q ∈ L1, At h1 q.2 q.1 := fun q hq => by
    rcases List.mem_cons.mp (pm.mem_iff.mp hq) with e | hq
    · rw [e]; exact hx.past ho hd sb
    · exact (R.tup q hq).past ho hd sb
  have led1 : w.params.followText "set-order" = true ∨ t2.led = true := by rw [l2]; exact R.led
  have pl1 : t2.place.size = es1.size := by rw [T2.sz, List.length_map, len1, cnt1]
  by_cases full : t2.tooFull = true
  · refine wp_if_pos (by simp [full]) (wpAny_bind ?_)
    have lim : (L.length + 1) * 5 ≥ t.mask * 3 := by
      unfold SetTable.tooFull at full
      rw [decide_eq_true_eq, f2, m2] at full
      exact full
    have go : ∀ M, SetTable.sizeAbove (SetTable.grown (L.length + 1)) - 1 = M → MaskOk M → SetTable.sizeAbove (SetTable.grown (L.length + 1)) ≤ 128 → (L.length + 1) * 5 < M * 3 →
        wpAny (model P w) A (setRelay a (SetTable.grown (es.size + 1))) (fun _ s' => wpAny (model P w) A (pure true) Q E s') E { s with heap := h1 } := fun M g1 g2 g3 g4 => by
      rw [cnt]
      exact relay (s := { s with heap := h1 }) ho1 ⟨hex.1, hex.2.1, hex.2.2⟩ rfl row1 pl1 T2.dm (by rw [cnt1, m2]; omega) dif1 tup1 led1 (by rw [len1]; exact more) g1 g2 g3 (by rw [len1]; exact g4)
        fun h2 L2 es2 ep2 t3 sb2 R2 pm2 => wpAny_pure (hQ true h2 L2 es2 ep2 t3 (sb.trans sb2) R2 (fun z => absurd z hm) fun _ => pm2.trans pm)
    rcases R.tab.mok with e | e | e
    · have l4 : L.length = 4 := by omega
      exact go 31 (by rw [l4, size_20]) (.inr (.inl rfl)) (by rw [l4, size_20]; decide) (by omega)
    · have l18 : L.length = 18 := by omega
      exact go 127 (by rw [l18, size_76]) (.inr (.inr rfl)) (by rw [l18, size_76]; decide) (by omega)
    · omega
  · refine wp_if_neg (by simp [full]) (wpAny_pure (hQ true h1 L1 es1 (ep + 1) t2 sb ?_ (fun z => absurd z hm) fun _ => pm))
    have lim : ¬ (L.length + 1) * 5 ≥ t.mask * 3 := fun z => full (by
      unfold SetTable.tooFull
      rw [decide_eq_true_eq, f2, m2]
      exact z)
    exact { obj := ⟨_, ho1, ⟨hex.1, hex.2.1, hex.2.2⟩, rfl⟩, row := row1, tab := T2, dif := dif1, tup := tup1, led := led1, gap := by rw [len1, m2]; omega, few := by rw [len1]; exact more }
end
end NSet
set_option Elab.async false
set_option linter.all false
set_option maxRecDepth 100000
set_option maxHeartbeats 4000000
namespace NSet
open PySem PySem.Spec PyProof.Rows L2
/-! X31: a set filled from a walk -/
/-- L is what a set has of the first i of ks -/
structure Part (ks : List (Addr × List Cell)) (i : Nat) (L : List (Addr × List Cell)) : Prop where
  inn : ∀ p ∈ L, p ∈ ks.take i
  cov : ∀ p ∈ ks.take i, p.2 ∈ L.map (·.2)
  len : L.length ≤ i
theorem Part.next {ks L L' : List (Addr × List Cell)} {i : Nat} {x : Addr × List Cell} (g : Part ks i L) (hx : ks[i]? = some x) (c1 : x.2 ∈ L.map (·.2) → L' = L) (c2 : x.2 ∉ L.map (·.2) → L'.Perm (x :: L)) : Part ks (i + 1) L' := by
  have e : ks.take (i + 1) = ks.take i ++ [x] := take_next hx
  by_cases c : x.2 ∈ L.map (·.2)
  · rw [c1 c]
    refine ⟨fun p hp => by rw [e]; exact List.mem_append_left _ (g.inn p hp), fun p hp => ?_, Nat.le_succ_of_le g.len⟩
    rw [e] at hp
    rcases List.mem_append.mp hp with z | z
    · exact g.cov p z
    · rw [List.mem_singleton.mp z]; exact c
  · have pm := c2 c
    refine ⟨fun p hp => ?_, fun p hp => ?_, by rw [pm.length_eq, List.length_cons]; exact Nat.succ_le_succ g.len⟩
    · rw [e]
      rcases List.mem_cons.mp (pm.mem_iff.mp hp) with z | z
      · rw [z]; exact List.mem_append_right _ List.mem_cons_self
      · exact List.mem_append_left _ (g.inn p z)
    · rw [(pm.map (·.2)).mem_iff, List.map_cons]
      rw [e] at hp
      rcases List.mem_append.mp hp with z | z
      · exact List.mem_cons_of_mem _ (g.cov p z)
      · rw [List.mem_singleton.mp z]; exact List.mem_cons_self
section
variable {P : Program} {w : World} {A : Around} {E : Value → Shared → Prop} {s : Shared}
theorem Tups.later {h h' : Heap} {a : Addr} {L : List (Addr × List Cell)} {es : Array (Int × Value)} {ep : Nat} {t : SetTable} (R : Tups w h a L es ep t) (ha : ∀ o, h.get? a = some o → h'.get? a = some o) (ht : ∀ p ∈ L, At h' p.2 p.1) : Tups w h' a L es ep t := by
  obtain ⟨o, ho, r⟩ := R.obj
  exact { R with obj := ⟨o, ha o ho, r⟩, tup := ht }
theorem Tups.new {h : Heap} {a : Addr} (ho : h.get? a = some { cls := .type "set", dict := none, data := .set #[] 0 (.fresh 0 0 (!w.params.followText "set-order")) }) : Tups w h a [] #[] 0 (.fresh 0 0 (!w.params.followText "set-order")) where
  obj := ⟨_, ho, ⟨rfl, rfl, rfl⟩, rfl⟩
  row := rfl
  tab := ⟨List.Pairwise.nil, rfl, rfl, .inl rfl, (fun x hx => by cases hx), fun i h j hi => by simp at hi⟩
  dif := List.nodup_nil
  tup := fun p hp => nomatch hp
  led := by
    show _ ∨ (!w.params.followText "set-order") = true
    cases w.params.followText "set-order"
    · exact .inr rfl
    · exact .inl rfl
  gap := by show 0 * 5 < 7 * 3; decide
  few := by show 0 < 64; decide
theorem fill {I : Addr} {fp wr : List Addr} {G : Array GenState → Array GenState → Prop} {n : Nat} {Pv : Nat → Value → Prop} {St : Nat → Shared → Prop} {R : Result → Shared → Prop} (W : WalksS P w A.in1 I fp wr G n Pv St) (S : Addr) (nS : S ∉ fp)
    (ks : List (Addr × List Cell)) (hn : n = ks.length) (bd : ∀ L : List (Addr × List Cell), (L.map (·.2)).Nodup → (∀ p ∈ L, p ∈ ks) → L.length < 63) (hval : ∀ i v, Pv i v → ∃ p, ks[i]? = some p ∧ v = .ref p.1) (h0 : Heap) (hk : ∀ p ∈ ks, At h0 p.2 p.1) (hS0 : h0.get? S = none) (hw0 : ∀ b ∈ wr, h0.get? b = none)
    (hu : A.in1.units + 8 < cLine) : ∀ (j i : Nat) (s : Shared), n - i = j → i ≤ n → St i s → (∀ b o, h0.get? b = some o → s.heap.get? b = some o) → (∃ L es ep t, Tups w s.heap S L es ep t ∧ Part ks i L) →
      (∀ s' L es ep t, Moved (S :: wr) G s s' → Tups w s'.heap S L es ep t → Part ks n L → (∀ b o, h0.get? b = some o → s'.heap.get? b = some o) → R (.ok (.ret .none)) s') → codeAny (model P w) A (.builtin "set.update.loop" ⟨[.ref S, .ref I], []⟩) R s := by
  have nw : S ∉ wr := fun z => nS (W.sub _ z)
  have wide : ∀ b ∈ wr, b ∈ S :: wr := fun b hb => List.mem_cons_of_mem _ hb
  have old : ∀ {s s' : Shared}, Moved wr G s s' → (∀ b o, h0.get? b = some o → s.heap.get? b = some o) → ∀ b o, h0.get? b = some o → s'.heap.get? b = some o := fun m k b o e => m.heap b o (fun z => by rw [hw0 b z] at e; cases e) (k b o e)
  have carry : ∀ {s s' : Shared} {i : Nat} {L es ep t}, Moved wr G s s' → (∀ b o, h0.get? b = some o → s'.heap.get? b = some o) → Part ks i L → Tups w s.heap S L es ep t → Tups w s'.heap S L es ep t := fun m k g R => R.later (fun o e => m.heap S o nw e) fun p hp => (hk p (List.mem_of_mem_take (g.inn p hp))).wide k
  intro j
  induction j with
  | zero =>
    intro i s hj hi hst hkp ⟨L, es, ep, t, hS, g⟩ hR
    obtain rfl : i = n := by omega
    refine codeAny_builtin F.entry_set_update_loop ?_
    rw [Around.under_plainId F.plain_set_update_loop _]
    show wpAny _ A.in1 (pyNext (.ref I) >>= _) _ _ s
    refine wpAny_bind (W.done s _ _ hst fun s' m => ?_)
    have k' := old m hkp
    show wpAny _ A.in1 (ret Value.none) _ _ s'
    exact wpAny_pure (hR s' L es ep t (m.mono wide) (carry m k' g hS) g k')
  | succ j ih =>
    intro i s hj hi hst hkp ⟨L, es, ep, t, hS, g⟩ hR
    have lt : i < n := by omega
    refine codeAny_builtin F.entry_set_update_loop ?_
    rw [Around.under_plainId F.plain_set_update_loop _]
    show wpAny _ A.in1 (pyNext (.ref I) >>= _) _ _ s
    refine wpAny_bind (W.item i s _ _ lt hst fun v s' hP hst' m => ?_)
    obtain ⟨p, hp, rfl⟩ := hval i v hP
    have k' := old m hkp
    have hx : At s'.heap p.2 p.1 := (hk p (List.mem_of_getElem? hp)).wide k'
    have hS' := carry m k' g hS
    show wpAny _ A.in1 (holding [Value.ref p.1] (setAdd S (.ref p.1)) >>= _) _ _ s'
    refine wpAny_bind (wpAny_holding ?_)
    unfold setAdd
    refine wpAny_holding (wpAny_bind (hx.hashed hu fun dn => ?_))
    refine put_in (s := { s' with toks := s'.toks + dn }) hS' hx hu (Nat.succ_lt_succ (bd L hS'.dif fun p hp => List.mem_of_mem_take (g.inn p hp))) fun b h2 L2 es2 ep2 t2 sb R2 c1 c2 => ?_
    have k2 : ∀ b o, h0.get? b = some o → h2.get? b = some o := fun b o e => (sb.2 b fun z => by rw [z, hS0] at e; cases e).trans (k' b o e)
    refine wpAny_pure ⟨plainId_quiet F.plain_set_update_loop _, ih (i + 1) _ (by omega) lt (W.frame _ s' _ _ hst' (Nat.le_add_right _ _) fun b hb o e => ?_) k2 ⟨L2, es2, ep2, t2, R2, g.next hp c1 c2⟩ fun s3 L3 es3 ep3 t3 m3 R3 g3 k3 => ?_⟩
    · rw [sb.2 b fun z : b = S => nS (z ▸ hb)]
      exact e
    · refine hR s3 L3 es3 ep3 t3 (Moved.trans W.gtrans ((m.mono wide).then_heap (Nat.le_add_right _ _) fun b o hb e => ?_) m3) R3 g3 k3
      rw [sb.2 b fun z : b = S => hb (z ▸ List.mem_cons_self)]
      exact e
end
end NSet
set_option Elab.async false
set_option linter.all false
set_option maxRecDepth 100000
set_option maxHeartbeats 4000000
namespace NSet
open PySem PySem.Spec PyProof.Rows L2
/-! X32: set(list of such tuples) -/
section
variable {P : Program} {w : World} {A : Around} {E : Value → Shared → Prop} {s : Shared}
/-- a set just made -/
abbrev blank (w : World) : Obj := { cls := .type "set", dict := none, data := .set #[] 0 (.fresh 0 0 (!w.params.followText "set-order")) }
theorem beyond {h : Heap} {b : Addr} (hb : h.objs.size ≤ b) : h.get? b = none := by
  cases e : h.get? b with
  | none => rfl
  | some o => exact absurd (Heap.lt_size e) (Nat.not_lt.mpr hb)
theorem set_of {l : Addr} {items : Array Value} (ks : List (Addr × List Cell)) {Q : Value → Shared → Prop} (hh : A.handled = none) (hl : s.heap.IsList l items) (hit : items.toList = ks.map fun p => Value.ref p.1) (hk : ∀ p ∈ ks, At s.heap p.2 p.1)
    (bd : ∀ L : List (Addr × List Cell), (L.map (·.2)).Nodup → (∀ p ∈ L, p ∈ ks) → L.length < 63) (hu : A.units + 3 + 8 < cLine)
    (out : ∀ (h' : Heap) (tk : Nat) L es ep t, Tups w h' s.heap.objs.size L es ep t → Part ks ks.length L → (∀ b o, s.heap.get? b = some o → h'.get? b = some o) → Q (.ref s.heap.objs.size) { s with heap := h', toks := tk }) :
    wpAny (model P w) A (call (.type "set") [.ref l]) Q E s := by
  have cnt : items.size = ks.length := by rw [← Array.length_toList, hit, List.length_map]
  obtain ⟨c, tl, hmro⟩ := F.called_set.mro
  have hmade := F.called_set.made
  have hsub := F.called_set.sub
  refine wpAny_call (codeAny_of_tree ?_)
  show wpAny _ _ (callAny (.type "set") _) _ _ _
  refine wpAny_pure ⟨Code.quiet_builtin _ (by decide +kernel), codeAny_builtin F.entry_type_call ?_⟩
  rw [Around.under_plain (weight_type_call_type "set" [.ref l] []) rfl]
  have h1 := F.called_set.notType
  have h2 := F.called_set.canCreate
  have hct := F.typeCall_set_1 (.ref l)
  repeat (any_goals (first | assumption | wp_step))
  refine codeAny_mono (code_set_led1 (.ref l) (E := E) (Q₁ := fun ob s₁ => ob = .ref s.heap.objs.size ∧ s₁ = { s with heap := s.heap.push (blank w) }) ⟨rfl, rfl⟩) fun r s₁ hr => ?_
  match r, hr with
  | .error e, hr => exact hr
  | .ok (.ret ob), hr =>
    obtain ⟨rfl, rfl⟩ := hr
    have hS : (s.heap.push (blank w)).get? s.heap.objs.size = some (blank w) := Heap.get?_push_size _ rfl
    have hT : Shared.TypeIs { s with heap := s.heap.push (blank w) } (.ref s.heap.objs.size) "set" := ⟨_, hS, rfl⟩
    have hli := F.called_set.init.lookup
    have hbi := F.called_set.init.bind (.ref s.heap.objs.size)
    repeat (any_goals (first | assumption | wp_step))
    refine codeAny_mono (codeAny_call_builtin (R := wants (fun r s₂ => r = .none ∧ ∃ h' tk L es ep t, s₂ = { s with heap := h', toks := tk } ∧ Tups w h' s.heap.objs.size L es ep t ∧ Part ks ks.length L ∧ (∀ b o, s.heap.get? b = some o → h'.get? b = some o)) E) F.called_set.init.plain F.entry_set_init (check_set_init_1 hT ?_)) fun r₂ s₂ hr₂ => ?_
    · obtain ⟨ol, hol, hcl, nl, hdl⟩ := hl
      obtain ⟨ocls, odict, odata, oslots⟩ := ol
      simp only at hcl hdl
      subst hcl hdl
      have hol' : (s.heap.push (blank w)).get? l = some { cls := .type "list", dict := odict, data := .seq items nl, slots := oslots } := Heap.get?_push_of_some _ hol
      have hsls := F.sub_list_set
      have hslf := F.sub_list_frozenset
      have hne : (Value.type "list" == Value.type "dict") = false := by decide
      have hl1 : (s.heap.push (blank w)).IsList l items := ⟨_, hol', rfl, nl, rfl⟩
      have ll : l < s.heap.objs.size := Heap.lt_size hol
      have hz : (s.heap.push (blank w)).objs.size = s.heap.objs.size + 1 := Heap.size_push ..
      unfold Builtin.«set.__init__» noKeywords Builtin.Frozenset.updateFrom
      generalize hPI : pyIter = PI
      wp_walk
      subst hPI
      refine wpAny_pyIter_list hl1 (wpAny_bind (wpAny_runValue ?_))
      have hh3 : A.in1.in1.in1.handled = none := by simp [hh]
      refine fill ((Walks.list hh3 _ l (by rw [hz]; exact Nat.ne_of_lt (Nat.lt_succ_of_lt ll)) items).toS) s.heap.objs.size ?f1 ks cnt bd (fun i v hv => ?f2) s.heap hk (beyond (Nat.le_refl _)) (fun b hb => ?f3) hu (items.size - 0) 0 _ rfl (Nat.zero_le _) ⟨⟨_, Heap.get?_push_size _ rfl, rfl, rfl⟩, hl1.push _⟩
        (fun b o e => Heap.get?_push_of_some _ (Heap.get?_push_of_some _ e)) ⟨[], #[], 0, _, Tups.new (Heap.get?_push_of_some _ hS), ⟨(fun p hp => by cases hp), (fun p hp => by rw [List.take_zero] at hp; cases hp), Nat.le_refl _⟩⟩ fun s' L es ep t m R g k => ?f4
      case f1 =>
        rw [hz]
        simp only [List.mem_cons, List.mem_singleton, List.not_mem_nil, or_false, not_or]
        exact ⟨Nat.ne_of_lt (Nat.lt_succ_self _), Nat.ne_of_gt ll⟩
      case f2 =>
        have q : (ks.map fun p => Value.ref p.1)[i]? = some v := by rw [← hit, Array.getElem?_toList]; exact hv
        rw [List.getElem?_map] at q
        obtain ⟨p, hp, e⟩ := Option.map_eq_some_iff.mp q
        exact ⟨p, hp, e.symm⟩
      case f3 =>
        refine beyond ?_
        rw [List.mem_singleton.mp hb, hz]
        exact Nat.le_succ _
      case f4 =>
        obtain ⟨h', g2, d', tk', os'⟩ := s'
        obtain rfl : g2 = s.gens := m.gens
        obtain rfl : d' = s.drawn := m.drawn
        obtain rfl : os' = s.os := m.os
        rw [cnt] at g
        show wpAny _ _ _ _ _ _
        refine wpAny_pure ?_
        show wpAny _ _ (ret Value.none) _ _ _
        exact wpAny_pure ⟨rfl, h', tk', L, es, ep, t, rfl, R, g, k⟩
    · match r₂, hr₂ with
      | .error e, hr₂ => exact hr₂
      | .ok (.ret r), hr₂ =>
        obtain ⟨rfl, h', tk, L, es, ep, t, rfl, R, g, k⟩ := hr₂
        repeat (any_goals (first | assumption | wp_step))
        exact out _ _ _ _ _ _ R g k
end
end NSet
set_option Elab.async false
set_option linter.all false
set_option maxRecDepth 100000
set_option maxHeartbeats 4000000
namespace NSet
open PySem PySem.Spec PyProof.Rows L2
/-! X33: sorted of a set of such tuples -/
def vc : Cell → V
  | .inl i => .int i
  | .inr x => .str x
def kc : Cell → Int ⊕ List Nat
  | .inl i => .inl i
  | .inr x => .inr x.cps.toList
/-- what kind of cell stands where -/
def Shp (sh : Nat → Bool) : Nat → List Cell → Prop
  | _, [] => True
  | i, .inl _ :: r => sh i = false ∧ Shp sh (i + 1) r
  | i, .inr _ :: r => sh i = true ∧ Shp sh (i + 1) r
/-- the tuple itself, its cells as values -/
def Tup (h : Heap) (k : List Cell) (a : Addr) : Prop := ∃ (o : Obj) (its : Array Value) (n : Nat), h.get? a = some o ∧ o.cls = .type "tuple" ∧ o.data = .seq its n ∧ Vals (k.map vc) its.toList
theorem Tup.wide {h h' : Heap} {k : List Cell} {a : Addr} (x : Tup h k a) (hk : ∀ b o, h.get? b = some o → h'.get? b = some o) : Tup h' k a := by
  obtain ⟨o, its, n, ho, z⟩ := x
  exact ⟨o, its, n, hk _ _ ho, z⟩
theorem all_of_vals {h : Heap} : ∀ {k : List Cell} {us : List Value}, Vals (k.map vc) us → NestedAll h (k.map cell) us
  | [], _, .nil => .nil
  | .inl i :: k, _, .cons r t => by
    obtain ⟨tk, rfl⟩ := r
    exact .cons (.int i tk) (all_of_vals t)
  | .inr x :: k, _, .cons r t => by
    obtain ⟨tk, rfl⟩ := r
    exact .cons (.text x tk) (all_of_vals t)
theorem Tup.at {h : Heap} {k : List Cell} {a : Addr} (x : Tup h k a) : At h k a := by
  obtain ⟨o, its, n, ho, hc, hd, r⟩ := x
  exact .tup ho hc hd (all_of_vals r)
theorem items_vals {sh : Nat → Bool} : ∀ {k : List Cell} {i : Nat} {us : List Value}, Vals (k.map vc) us → Shp sh i k → tupItems sh i us = some (k.map kc)
  | [], _, _, .nil, _ => by simp [tupItems]
  | .inl n :: k, i, _, .cons r t, h => by
    obtain ⟨tk, rfl⟩ := r
    have e := items_vals t h.2
    rw [tupItems, if_neg (by rw [h.1]; exact Bool.false_ne_true), e]
    rfl
  | .inr x :: k, i, _, .cons r t, h => by
    obtain ⟨tk, rfl⟩ := r
    have e := items_vals t h.2
    rw [tupItems, if_pos h.1, e]
    rfl
theorem Tup.key {h : Heap} {sh : Nat → Bool} {k : List Cell} {a : Addr} (x : Tup h k a) (z : Shp sh 0 k) : G.tupKeyC h sh (.ref a) = some (k.map kc) := by
  obtain ⟨o, its, n, ho, hc, hd, r⟩ := x
  unfold G.tupKeyC
  have e1 : G.isTupObj h (.ref a) = true := by simp [G.isTupObj, ho, hc]
  rw [if_pos e1]
  simp only [tupKey, ho, hd]
  exact items_vals r z
theorem Tup.first {h : Heap} {sh : Nat → Bool} {k : List Cell} {a : Addr} (x : Tup h k a) (z : Shp sh 0 k) (ne : k ≠ []) : ∃ f, TupOf h sh (.ref a) f := by
  obtain ⟨o, its, n, ho, hc, hd, r⟩ := x
  obtain ⟨c, k, rfl⟩ := List.exists_cons_of_ne_nil ne
  have f0 : ∀ {u us}, its.toList = u :: us → its[0]? = some u := fun {u us} e => by
    rw [← Array.getElem?_toList, e]
    rfl
  generalize hits : its.toList = l at r f0
  cases c with
  | inl i =>
    cases r with
    | cons r1 rs =>
      obtain ⟨tk, rfl⟩ := r1
      exact ⟨_, a, o, its, n, rfl, ho, hc, hd, f0 rfl, fun _ => ⟨i, tk, rfl⟩, fun q => absurd (z.1.symm.trans q) Bool.false_ne_true⟩
  | inr y =>
    cases r with
    | cons r1 rs =>
      obtain ⟨tk, rfl⟩ := r1
      exact ⟨_, a, o, its, n, rfl, ho, hc, hd, f0 rfl, fun q => absurd (q.symm.trans z.1) Bool.false_ne_true, fun _ => ⟨y, tk, rfl⟩⟩
theorem firsts {h : Heap} {sh : Nat → Bool} : ∀ L : List (Addr × List Cell), (∀ p ∈ L, Tup h p.2 p.1 ∧ Shp sh 0 p.2 ∧ p.2 ≠ []) → ∃ fs, TupsOf h sh (L.map fun p => Value.ref p.1) fs
  | [], _ => ⟨[], .nil⟩
  | p :: L, hp => by
    obtain ⟨fs, hf⟩ := firsts L fun q hq => hp q (List.mem_cons_of_mem _ hq)
    obtain ⟨h1, h2, h3⟩ := hp p List.mem_cons_self
    obtain ⟨f, h4⟩ := h1.first h2 h3
    exact ⟨f :: fs, .cons h4 hf⟩
theorem unmap {α β : Type} (f : α → β) {l m : List β} (h : l.Perm m) : ∀ ps : List α, m = ps.map f → ∃ qs : List α, qs.Perm ps ∧ l = qs.map f := by
  induction h with
  | nil =>
    intro ps e
    cases ps with
    | nil => exact ⟨[], .refl _, rfl⟩
    | cons p r => cases e
  | cons x _ ih =>
    intro ps e
    cases ps with
    | nil => cases e
    | cons p r =>
      obtain ⟨e1, e2⟩ := List.cons.inj e
      obtain ⟨qs, h1, h2⟩ := ih r e2
      exact ⟨p :: qs, h1.cons p, by rw [List.map_cons, ← h2, e1]⟩
  | swap x y l =>
    intro ps e
    match ps, e with
    | a :: b :: r, e =>
      obtain ⟨e1, e2⟩ := List.cons.inj e
      obtain ⟨e3, e4⟩ := List.cons.inj e2
      exact ⟨b :: a :: r, .swap _ _ _, by rw [e1, e3, e4]; rfl⟩
  | trans _ _ ih1 ih2 =>
    intro ps e
    obtain ⟨q2, p2, e2⟩ := ih2 ps e
    obtain ⟨q1, p1, e1⟩ := ih1 q2 e2
    exact ⟨q1, p1.trans p2, e1⟩
/-- in the order of their keys -/
def InOrder (L : List (Addr × List Cell)) : Prop := L.Pairwise fun q r => lexLt itemOrd (r.2.map kc) (q.2.map kc) = false
theorem placed {h : Heap} {sh : Nat → Bool} {ps : List (Addr × List Cell)} (hp : ∀ q ∈ ps, G.tupKeyC h sh (.ref q.1) = some (q.2.map kc)) {arr : Array Keyed}
    (h1 : arr.Perm (pairsOf (ps.map fun q => Value.ref q.1))) (h2 : SortedToK (G.tupKindC h sh) arr (pairsOf (ps.map fun q => Value.ref q.1)).size) :
    ∃ qs : List (Addr × List Cell), qs.Perm ps ∧ InOrder qs ∧ (arr.map (·.2)).toList = qs.map fun q => Value.ref q.1 := by
  have e := Array.perm_iff_toList_perm.mp h1
  have ez : (pairsOf (ps.map fun q => Value.ref q.1)).toList = ps.map fun q => ((Value.ref q.1, Value.ref q.1) : Keyed) := by
    rw [pairsOf_toList]
    clear hp h1 h2 e
    induction ps with
    | nil => rfl
    | cons q r ih => rw [List.map_cons, List.zip_cons_cons, ih, List.map_cons]
  rw [ez] at e
  obtain ⟨qs, p1, e1⟩ := unmap _ e ps rfl
  refine ⟨qs, p1, ?_, ?_⟩
  · unfold InOrder
    rw [List.pairwise_iff_getElem]
    intro i j hi hj hij
    have hlen : (pairsOf (ps.map fun q => Value.ref q.1)).size = qs.length := by rw [pairsOf_size, List.length_map, p1.length_eq]
    have kk : ∀ (k : Nat) (hk : k < qs.length), KK (G.tupKindC h sh) arr k = qs[k].2.map kc := fun k hk => by
      have e2 : arr[k]? = some ((Value.ref qs[k].1, Value.ref qs[k].1) : Keyed) := by
        rw [← Array.getElem?_toList, e1, List.getElem?_map, List.getElem?_eq_getElem hk]
        rfl
      unfold KK
      rw [e2]
      show (G.tupKeyC h sh (.ref qs[k].1)).getD _ = _
      rw [hp _ (p1.mem_iff.mp (List.getElem_mem hk))]
      rfl
    have := h2 i j (Nat.le_of_lt hij) (by rw [hlen]; exact hj)
    rw [kk i hi, kk j hj] at this
    exact this
  · rw [Array.toList_map, e1, List.map_map]
    rfl
section
variable {P : Program} {w : World} {A : Around} {E : Value → Shared → Prop} {s : Shared} {a : Addr} {L : List (Addr × List Cell)} {es : Array (Int × Value)} {ep : Nat} {t : SetTable}
theorem sorted_set {Q : Value → Shared → Prop} (R : Tups w s.heap a L es ep t) (hh : A.handled = none) {sh : Nat → Bool} (hs : ∀ p ∈ L, Tup s.heap p.2 p.1 ∧ Shp sh 0 p.2 ∧ p.2 ≠ [])
    (res : ∀ s' p (out : Array Value) (c : Nat) L', (∀ b o, s.heap.get? b = some o → s'.heap.get? b = some o) → s'.gens = s.gens → s'.os = s.os → s.heap.objs.size ≤ p →
      s'.heap.get? p = some (seqObj "list" out c) → out.toList = L'.map (fun q => Value.ref q.1) → L'.Perm L → InOrder L' → Q (.ref p) s') :
    wpAny (model P w) A (call (.builtin "sorted") [.ref a]) Q E s := by
  obtain ⟨o, ho, hex, hd⟩ := R.obj
  have few := R.few
  have cnt := R.count
  refine Calls.call_function_entry kind_sorted plain_sorted entry_sorted (args_sorted1 _) ?_
  unfold Builtin.«sorted»
  refine wpAny_bind (m := checkCount "sorted" 1 1 _) (wpAny_pure ?_)
  refine wpAny_bind (collect_set (A := A.in1) hh ⟨o, ho, hex.1, hd⟩ R.fit (by unfold scanBound; omega) R.tab.ris R.led fun s1 vs k1 hz g1 o1 pm => ?_)
  have hes : es.toList.map (·.2) = L.map fun q => Value.ref q.1 := by
    rw [R.row, List.map_map]
    rfl
  rw [hes] at pm
  obtain ⟨L1, p1, rfl⟩ := unmap _ pm L rfl
  have n1 : L1.length < 64 := by rw [p1.length_eq]; exact few
  refine wpAny_bind (wpAny_newList ?_ (by rw [List.length_map, sizeLine_eq]; omega))
  have hoL : (s1.heap.push (seqObj "list" (L1.map fun q => Value.ref q.1).toArray 0)).get? s1.heap.objs.size = some (seqObj "list" (L1.map fun q => Value.ref q.1).toArray 0) := Heap.get?_push_size _ rfl
  have tp : ∀ q ∈ L1, Tup (s1.heap.push (seqObj "list" (L1.map fun q => Value.ref q.1).toArray 0)) q.2 q.1 ∧ Shp sh 0 q.2 ∧ q.2 ≠ [] := fun q hq => by
    obtain ⟨h1, h2⟩ := hs q (p1.mem_iff.mp hq)
    exact ⟨h1.wide fun b u e => Heap.get?_push_of_some _ (k1 b u e), h2⟩
  obtain ⟨fs, hf⟩ := firsts L1 tp
  have keys : ∀ q ∈ L1, G.tupKeyC (s1.heap.push (seqObj "list" (L1.map fun q => Value.ref q.1).toArray 0)) sh (.ref q.1) = some (q.2.map kc) := fun q hq => (tp q hq).1.key (tp q hq).2.1
  refine wpAny_bind (wpAny_holding (wpAny_call_entry slot_list_sort ⟨_, hoL, rfl⟩ entry_list_sort (G.list_sort_tups (s := { s1 with heap := s1.heap.push (seqObj "list" (L1.map fun q => Value.ref q.1).toArray 0) }) hoL hf (fun v hv => ?_) (by rw [List.length_map, sizeLine_eq]; omega) fun st' a1 a2 a3 => ⟨_, rfl, ?_⟩) (args_list_sort _)))
  · obtain ⟨q, hq, rfl⟩ := List.mem_map.mp hv
    exact ⟨_, keys q hq⟩
  · obtain ⟨L2, q1, q2, q3⟩ := placed keys a1 a2
    obtain ⟨c, hc⟩ := sortedHeap_at (vs := L1.map fun q => Value.ref q.1) (out := (arrOf st').map (·.2)) hoL
    refine wpAny_pure ⟨_, rfl, res _ s1.heap.objs.size _ c L2 (fun b u e => ?_) g1 o1 hz hc q3 (q1.trans p1) q2⟩
    have q := k1 b u e
    have hlt := Heap.lt_size q
    show (sortedHeap (s1.heap.push (seqObj "list" (L1.map fun q => Value.ref q.1).toArray 0)) s1.heap.objs.size _ _).get? b = some u
    rw [sortedHeap_old (Nat.ne_of_lt hlt) (by rw [size_push']; exact Nat.lt_succ_of_lt hlt)]
    exact Heap.get?_push_of_some _ q
end
end NSet
set_option Elab.async false
set_option linter.all false
set_option maxRecDepth 100000
set_option maxHeartbeats 4000000
namespace NSet
open PySem PySem.Spec PyProof.Rows L2
/-! X34: such sets as tracked objects, set(list), sorted(set) -/
/-- the set at a, but for the tuples themselves -/
structure Bare (w : World) (a : Addr) (L : List (Addr × List Cell)) (h : Heap) : Prop where
  ex : ∃ (es : Array (Int × Value)) (ep : Nat) (t : SetTable), (∃ o, h.get? a = some o ∧ o.ExactSet ∧ o.data = .set es ep t) ∧ es.toList = L.map (fun p => (hsh w p.2, Value.ref p.1)) ∧ TabOk t (L.map fun p => hsh w p.2) ∧ (L.map (·.2)).Nodup ∧
    (w.params.followText "set-order" = true ∨ t.led = true) ∧ L.length * 5 < t.mask * 3 ∧ L.length < 64
def SetN (w : World) (a : Addr) (L : List (Addr × List Cell)) : HO := .ext (Bare w a L)
theorem Tups.bare {w : World} {h : Heap} {a : Addr} {L : List (Addr × List Cell)} {es : Array (Int × Value)} {ep : Nat} {t : SetTable} (R : Tups w h a L es ep t) : Bare w a L h := ⟨es, ep, t, R.obj, R.row, R.tab, R.dif, R.led, R.gap, R.few⟩
theorem Bare.full {w : World} {h : Heap} {a : Addr} {L : List (Addr × List Cell)} (R : Bare w a L h) (ht : ∀ p ∈ L, At h p.2 p.1) : ∃ es ep t, Tups w h a L es ep t := by
  obtain ⟨es, ep, t, h1, h2, h3, h4, h5, h6, h7⟩ := R.ex
  exact ⟨es, ep, t, h1, h2, h3, h4, ht, h5, h6, h7⟩
theorem setN_ok {P : Program} {w : World} {H : Hp} {h : Heap} {a : Addr} {L : List (Addr × List Cell)} (R : Bare w a L h) : ObjOk P w H h a (SetN w a L) := by
  obtain ⟨es, ep, t, ⟨o, ho, r⟩, q⟩ := id R.ex
  refine ⟨R, ⟨o, ho⟩, fun h1 h2 p k => ?_⟩
  obtain ⟨es', ep', t', ⟨o', ho', r'⟩, q'⟩ := Bare.ex p
  exact ⟨es', ep', t', ⟨o', k o' ho', r'⟩, q'⟩
theorem refs_vals : ∀ {ks : List (Addr × List Cell)} {us : List Value}, Vals (ks.map fun p => V.ref p.1) us → us = ks.map fun p => Value.ref p.1
  | [], _, .nil => rfl
  | p :: ks, _, .cons r t => by
    cases r
    rw [refs_vals t]
    rfl
theorem vals_refs : ∀ (ks : List (Addr × List Cell)), Vals (ks.map fun p => V.ref p.1) (ks.map fun p => Value.ref p.1)
  | [] => .nil
  | p :: ks => .cons rfl (vals_refs ks)
section
variable {X : Cx}
theorem tup_of {pins : List (Addr × Obj)} {σ : L2.St} {H : Hp} {s : Shared} {b : Addr} {k : List Cell} (I : Inv X pins σ H s) (h : SqT X.K H b (k.map vc)) : Tup s.heap k b := by
  obtain ⟨its, r, ⟨o, ho, hc, n, hd⟩, _⟩ := I.tuple h
  exact ⟨o, its.toArray, n, ho, hc, hd, by simpa using r⟩
/-- set(xs), xs a list of such tuples -/
def rSetN (K : PySem.W.Frag) (w : World) : List V → Hp → VK → Prop := fun xs H Q => ∃ (l : Addr) (ks : List (Addr × List Cell)), xs = [V.ref l] ∧ SqL K H l (ks.map fun p => V.ref p.1) ∧ (∀ p ∈ ks, SqT K H p.1 (p.2.map vc)) ∧ (∀ L : List (Addr × List Cell), (L.map (·.2)).Nodup → (∀ p ∈ L, p ∈ ks) → L.length < 63) ∧
  ∀ a L, H a = none → (L.map (·.2)).Nodup → (∀ p ∈ L, p ∈ ks) → (∀ p ∈ ks, p.2 ∈ L.map (·.2)) → Q (.ref a) (upd H a (SetN w a L))
theorem cr_setN (hc : X.calm = true) (hu : X.A.units + 64 < cLine) : CallR X (.type "set") (rSetN X.K X.w) := by
  intro pins s σ H xs us Q I r h
  obtain ⟨l, ks, rfl, hl, hk, hf, q⟩ := h
  rw [Vals.ref1 r]
  obtain ⟨its, rv, pl, hz⟩ := I.list hl
  have hn : H s.heap.objs.size = none := I.hok.fresh (Nat.le_refl _)
  refine set_of (P := X.prog) (w := X.w) ks (I.ok.hd hc) pl.isList (by simpa using refs_vals rv) (fun p hp => (tup_of I (hk p hp)).at) hf (by omega) fun h' tk L es ep t R g k => ?_
  refine ⟨.ref s.heap.objs.size, upd H s.heap.objs.size (SetN X.w s.heap.objs.size L), I.laid (t' := tk) k (Nat.le_refl _) (setN_ok R.bare), rfl, q _ L hn R.dif (fun p hp => List.mem_of_mem_take (g.inn p hp)) fun p hp => g.cov p (by rw [List.take_length]; exact hp)⟩
/-- sorted(set) -/
def rSortN (K : PySem.W.Frag) (w : World) : List V → Hp → VK → Prop := fun vs H Q => ∃ (a : Addr) (L : List (Addr × List Cell)) (sh : Nat → Bool), vs = [V.ref a] ∧ H a = some (SetN w a L) ∧ (∀ p ∈ L, SqT K H p.1 (p.2.map vc) ∧ Shp sh 0 p.2 ∧ p.2 ≠ []) ∧
  ∀ (L' : List (Addr × List Cell)) (p : Addr), L'.Perm L → (L'.map (·.2)).Nodup → L'.length < 64 → InOrder L' → H p = none → Q (.ref p) (upd H p (.lst (L'.map fun q => V.ref q.1)))
theorem cr_sortN (hc : X.calm = true) : CallR X (.builtin "sorted") (rSortN X.K X.w) := by
  intro pins s σ H vs us Q I r h
  obtain ⟨a, L, sh, rfl, ha, hk, q⟩ := h
  have R0 : Bare X.w a L s.heap := (I.hok a _ ha).1
  obtain ⟨es, ep, t, R⟩ := R0.full fun p hp => (tup_of I (hk p hp).1).at
  rw [Vals.ref1 r]
  refine sorted_set R (I.ok.hd hc) (fun p hp => ⟨tup_of I (hk p hp).1, (hk p hp).2⟩) fun s' p out c L' k g o hp hg hout pm pw => ?_
  have hfew : L'.length < 64 := by rw [pm.length_eq]; exact R.few
  have hlen : (L'.map fun q => V.ref q.1).length ≤ sizeLine := by rw [List.length_map, sizeLine_eq]; omega
  have hn : H p = none := I.hok.fresh hp
  have hv : Vals (L'.map fun q => V.ref q.1) out.toList := by rw [hout]; exact vals_refs L'
  have J : Inv X pins σ (upd H p (.lst (L'.map fun q => V.ref q.1))) s' :=
    I.call' (ch := []) o (Un.laid k hp hn) (I.hok.laid k hp ⟨hlen, out.toList, c, hv, hg⟩) (by rw [g]; exact I.bare) (fun _ z => nomatch z)
  exact ⟨.ref p, _, J, rfl, q L' p pm ((pm.map (·.2)).nodup_iff.mpr R.dif) hfew pw hn⟩
end
end NSet
set_option Elab.async false
set_option linter.all false
set_option maxRecDepth 100000
set_option maxHeartbeats 4000000
namespace NSet
open PySem PySem.Spec PyProof.Rows L2
/-! X35: {a tuple of numbers and texts for .. in ..} -/
/-- the tuple y put into the set at D -/
def putN (K : PySem.W.Frag) (w : World) (D : Addr) (y : V) (H : Hp) (Nx : Hp → Prop) : Prop := ∃ (x : Addr) (k : List Cell) (L : List (Addr × List Cell)), y = .ref x ∧ SqT K H x (k.map vc) ∧ H D = some (SetN w D L) ∧ (∀ p ∈ L, SqT K H p.1 (p.2.map vc)) ∧ L.length + 1 < 64 ∧
  ∀ L', (k ∈ L.map (·.2) → L' = L) → (k ∉ L.map (·.2) → L'.Perm ((x, k) :: L)) → Nx (upd H D (SetN w D L'))
section
variable {X : Cx}
theorem put_ok {pins : List (Addr × Obj)} {σ : L2.St} {H : Hp} {s : Shared} {E : Value → Shared → Prop} {D : Addr} {y : V} {z : Value} {Nx : Hp → Prop} {Q : Value → Shared → Prop} (I : Inv X pins σ H s) (hu : X.A.units + 64 < cLine) (r : RelV y z) (p : putN X.K X.w D y H Nx)
    (out : ∀ H' s', Inv X pins σ H' s' → Nx H' → Q .none s') : wpAny (model X.prog X.w) X.A (call (.builtin "set.add") [.ref D, z]) Q E s := by
  obtain ⟨x, k, L, rfl, hx, hD, hL, room, nx⟩ := p
  cases r
  obtain ⟨es, ep, t, R⟩ := (show Bare X.w D L s.heap from (I.hok D _ hD).1).full fun q hq => (tup_of I (hL q hq)).at
  have ax : At s.heap k x := (tup_of I hx).at
  obtain ⟨o, ho, hex, hd⟩ := R.obj
  refine wpAny_call_entry F.slot_set_add (show s.TypeIs (.ref D) "set" from ⟨o, ho, hex.1⟩) F.entry_set_add ?_ (F.args_set_add_2 _ _)
  unfold Builtin.«set.add» Builtin.Frozenset.oneOther
  simp only [List.isEmpty_nil, bind_assoc]
  unfold Builtin.Frozenset.addrOf setAdd
  refine wpAny_bind (wpAny_pure ?_)
  try dsimp only
  refine wpAny_bind (wpAny_pure ?_)
  try dsimp only
  refine wpAny_bind (wpAny_holding (wpAny_bind (ax.hashed (by show X.A.in1.units + 8 < cLine; have : X.A.in1.units ≤ X.A.units + 1 := Nat.le_refl _; omega) fun dn => ?_)))
  refine put_in (s := { s with toks := s.toks + dn }) R ax (by show X.A.in1.units + 8 < cLine; have : X.A.in1.units ≤ X.A.units + 1 := Nat.le_refl _; omega) room fun b h' L' es' ep' t' sb R2 c1 c2 => ?_
  show wpAny _ _ (ret Value.none) _ _ _
  have he : ∃ u, h'.get? D = some u := by
    obtain ⟨o2, ho2, _⟩ := R2.obj
    exact ⟨o2, ho2⟩
  exact wpAny_pure ⟨_, rfl, out _ _ (I.write (e := D) (t' := s.toks + dn) (by rw [hD]; trivial) (.inl rfl) (fun c u hc e => (sb.2 c hc).trans e) he (setN_ok R2.bare)) (nx L' c1 c2)⟩
/-- what the comprehension owes: D the new set -/
def tScN (K : PySem.W.Frag) (w : World) (wi : TI) (g : TG) (tt : TT) (te : TE) (vs : List Nat) : TE := fun σ H Q => wi σ H fun J H1 => ∀ D, H1 D = none → ∃ W : Nat → Nat → Hp → Prop, (∃ m, W 0 m (upd H1 D (SetN w D []))) ∧ ∀ i m H, W i m H →
  (J.stop i H ∧ Q (.ref D) H) ∨ (J.go i H ∧ ∃ Nx : Hp → Prop, (∀ H', Nx H' → ∃ m', m' < m ∧ W (i + 1) m' H') ∧ ∀ x H', J.yld i H x H' → g x (wipe σ vs) H' fun σ2 H2 => wipe σ2 vs = wipe σ vs ∧ tt σ2 H2 fun b H3 =>
    if b = true then te σ2 H3 fun y H4 => putN K w D y H4 Nx else Nx H3)
section
variable {elt tg iter : Expr} {ifs : List Expr} {scope : Scope} {own : List (PySem.Str × Nat)} {pos : Pos} {wi : TI} {g : TG} {tt : TT} {te : TE}
/-- the comprehension as a value -/
theorem pe_scN (hc : X.calm = true) (hu : X.A.units + 64 < cLine) (hN : X.N.Nodup) (hi : PI X tg iter wi) (ok : BlkOk X.N X.env.scope scope own)
    (hg : ∀ (s : Shared) (H : Hp) (C : Addr) (cl : List (PySem.Str × Addr)) (fp : List Addr), PG (X.blk s H scope (compEnvC scope cl C X.env) fp) tg g)
    (ht : ∀ (s : Shared) (H : Hp) (C : Addr) (cl : List (PySem.Str × Addr)) (fp : List Addr), PTs (X.blk s H scope (compEnvC scope cl C X.env) fp) ifs tt)
    (he : ∀ (s : Shared) (H : Hp) (C : Addr) (cl : List (PySem.Str × Addr)) (fp : List Addr), PE (X.blk s H scope (compEnvC scope cl C X.env) fp) elt te)
    (hs : ∀ x, foldedSetIterable iter X.env x = pure x := by intro _; rfl) :
    PE X (.SetComp elt [⟨tg, iter, ifs, 0⟩] scope pos) (tScN X.K X.w wi g tt te (own.map (·.2))) := by
  refine ⟨fun pins s σ H Q I h => ?_⟩
  rw [PpSet.eval_SetComp]
  have clo : ∀ y ∈ scope.names, y.2 = .free → ∃ c, X.env.cells.lookup y.1 = some c := fun y hy e => I.ok.has _ (ok.free y hy e)
  refine wpAny_comprehension_free (use := none) rfl hs (closure_ok clo) ok.kind (fun y hy e => by rw [ok.uniq y hy, e]) (thn (hi.run pins s σ H _ I h) fun xv s1 hx => thn hx fun itv s2 h2 => ?_)
  obtain ⟨it, fp, tn, J, H2, rfl, I2, T, st2, f2, q⟩ := h2
  refine PpSet.newSet_ok (newEnv_comp ?_)
  generalize hD : s2.heap.objs.size = D
  have nD : H2 D = none := I2.hok.fresh (Nat.le_of_eq hD)
  obtain ⟨W, ⟨m0, w0⟩, turn⟩ := q D nD
  -- the empty set stands
  obtain ⟨s3, e3⟩ : ∃ s3 : Shared, s3 = { s2 with heap := s2.heap.push (blank X.w) } := ⟨_, rfl⟩
  have hp3 : s3.heap = s2.heap.push (blank X.w) := by rw [e3]
  obtain ⟨H3, eH⟩ : ∃ H3 : Hp, H3 = upd H2 D (SetN X.w D []) := ⟨_, rfl⟩
  have at3 : s3.heap.get? D = some (blank X.w) := by rw [hp3, ← hD]; exact Heap.get?_push_size _ rfl
  have I3 : Inv X pins σ H3 s3 := by
    rw [eH, e3]
    exact I2.laid (t' := s2.toks) (fun b o e => Heap.get?_push_of_some _ e) (Nat.le_of_eq hD) (setN_ok (Tups.new (by rw [hp3] at at3; exact at3)).bare)
  rw [← eH] at w0
  have under : ∀ b ∈ fp, b < s2.heap.objs.size := fun b hb => by
    obtain ⟨o, e, _⟩ := T.obj _ _ st2 b hb
    exact Heap.lt_size e
  have f3 : ∀ b ∈ fp, FpOk X pins H3 b ∧ b < s3.heap.objs.size := fun b hb => by
    have lt := under b hb
    refine ⟨⟨?_, (f2 b hb).2⟩, by rw [hp3, Heap.size_push]; exact Nat.lt_succ_of_lt lt⟩
    rw [eH, upd_ne (by rw [← hD]; exact Nat.ne_of_lt lt)]
    exact (f2 b hb).1
  have st3 : tn 0 s3.heap := T.keep _ _ _ st2 fun b _ o e => by rw [hp3]; exact Heap.get?_push_of_some _ e
  have I4 := block_start I3 ok hN f3
  have pg := hg s3 H3 s3.heap.objs.size (cellsFrom (s3.heap.objs.size + 1) scope.names (cloFrom X.env.cells scope.names [])) fp
  have pt := ht s3 H3 s3.heap.objs.size (cellsFrom (s3.heap.objs.size + 1) scope.names (cloFrom X.env.cells scope.names [])) fp
  have pe := he s3 H3 s3.heap.objs.size (cellsFrom (s3.heap.objs.size + 1) scope.names (cloFrom X.env.cells scope.names [])) fp
  subst e3
  show codeAny _ _ (.compStart _ 0 (.ref it) (.ref D) (compEnvC scope (cellsFrom ((s2.heap.push (blank X.w)).objs.size + 1) scope.names (cloFrom X.env.cells scope.names [])) (s2.heap.push (blank X.w)).objs.size X.env)) (compPost (model X.prog X.w) X.A X.xe none (EP X pins σ Q) (.ref D) (s2.heap.push (blank X.w)).objs.size) { s2 with heap := pushCells ((s2.heap.push (blank X.w)).push { cls := .type "dict", data := .dict #[] }) scope.names }
  generalize e3 : ({ s2 with heap := s2.heap.push (blank X.w) } : Shared) = s3 at *
  rw [← hp3]
  have none3 : ∀ b ∈ fp, H3 b = none := fun b hb => (f3 b hb).1.1
  generalize hce : compEnvC scope (cellsFrom (s3.heap.objs.size + 1) scope.names (cloFrom X.env.cells scope.names [])) s3.heap.objs.size X.env = ce at I4 pg pt pe ⊢
  have cL : ce.locals = s3.heap.objs.size := by rw [← hce]; rfl
  have es : ({ s2 with heap := pushCells (s3.heap.push { cls := .type "dict", data := .dict #[] }) scope.names } : Shared) = { s3 with heap := pushCells (s3.heap.push { cls := .type "dict", data := .dict #[] }) scope.names } := by rw [← e3]
  rw [es]
  generalize hs4 : ({ s3 with heap := pushCells (s3.heap.push { cls := .type "dict", data := .dict #[] }) scope.names } : Shared) = s4 at I4 ⊢
  have st4 : tn 0 s4.heap := T.keep _ _ _ st3 fun b _ o e => by rw [← hs4]; exact pushCells_keeps _ _ _ _ (Heap.get?_push_of_some _ e)
  have foot : ∀ {σ' : L2.St} {H' : Hp} {s' : Shared}, Inv (X.blk s3 H3 scope ce fp) [] σ' H' s' → (∀ b ∈ fp, H' b = none) → ∀ b ∈ fp, FpOk (X.blk s3 H3 scope ce fp) [] H' b := fun {σ' H' s'} I' hn b hb =>
    ⟨hn b hb, (I'.ok.exf b hb).1, I'.ok.exfs b hb, .inl hb, fun x c e => (I'.ok.exf b hb).2 x c e, fun p hp => nomatch (show p ∈ ([] : List (Addr × Obj)) from by simpa using hp)⟩
  have loop : codeAny (model X.prog X.w) X.A (.compLoop (.SetComp elt [⟨tg, iter, ifs, 0⟩] scope pos) 0 (.ref it) (.ref D) ce) (compPost (model X.prog X.w) X.A X.xe none (EP X pins σ Q) (.ref D) s3.heap.objs.size) s4 := by
    refine PpSet.compLoopS_any (fun n s' => ∃ i H', Inv (X.blk s3 H3 scope ce fp) [] (wipe σ (own.map (·.2))) H' s' ∧ tn i s'.heap ∧ (∀ b ∈ fp, H' b = none) ∧ W i n H') ?_ m0 ⟨0, H3, I4, st4, none3, w0⟩
    rintro n s5 ⟨i, H5, I5, st5, n5, w5⟩
    rcases turn i n H5 w5 with ⟨stop, qq⟩ | ⟨go, Nx, hNx, step⟩
    · refine thnF (T.done (X.blk s3 H3 scope ce fp) rfl rfl rfl hc i [] s5 _ H5 (fun _ _ => False) I5 (foot I5 n5) st5 stop) fun r s6 ⟨hr, I6⟩ => ?_
      subst hr
      have I7 : Inv X pins σ H5 s6 := I3.call' (ch := fp) I6.os I6.base I6.hok I6.bare fun b hb => ⟨(f3 b hb).1.2.2.2.1, (f3 b hb).1.2.1, (f3 b hb).1.2.2.2.2.1, (f3 b hb).1.2.2.2.2.2⟩
      have nC : H5 s3.heap.objs.size = none := by
        have z : H5 ce.locals = none := I6.free
        rwa [cL] at z
      obtain ⟨m, hn, _⟩ := I6.loc
      have hn2 : s6.heap.Ns ce.locals m := hn
      rw [cL] at hn2
      refine ⟨m, hn2, fun h'' sb => ?_⟩
      obtain ⟨g0, g1, g2, g3, g4, g5⟩ := I3.fpOk (Nat.le_refl _) nC
      exact ⟨.ref D, H5, I7.turned (t' := s6.toks) (fun b o hb e => (sb.2 b hb).trans e) g0 g1 g3 g4 g5, rfl, qq⟩
    · refine thnF (T.item (X.blk s3 H3 scope ce fp) rfl rfl rfl hc i [] s5 _ H5 (fun _ _ => False) I5 (foot I5 n5) st5 go) fun r s6 ⟨u, hr, h6⟩ => ?_
      subst hr
      refine thnF h6 fun _ s7 ⟨x, H7, I7, r7, y7, st7, n7⟩ => ?_
      refine thnF (pg.run _ s7 _ H7 x u _ (I7.pinned (foot I7 n7) (T.obj _ _ st7)) r7 (step x H7 y7)) fun _ s8 ⟨σ8, H8, I8, hw8, q8⟩ => ?_
      refine thnF (pt.run _ s8 σ8 H8 _ I8 q8) fun b s9 ⟨H9, I9, q9⟩ => ?_
      have next : ∀ {s' : Shared} {H' : Hp}, Inv (X.blk s3 H3 scope ce fp) ([] ++ pinsAt fp s7.heap) σ8 H' s' → Nx H' → ∃ m, m < n ∧ ∃ i H', Inv (X.blk s3 H3 scope ce fp) [] (wipe σ (own.map (·.2))) H' s' ∧ tn i s'.heap ∧ (∀ b ∈ fp, H' b = none) ∧ W i m H' := fun {s' H'} I' nx => by
        obtain ⟨m', hm, w'⟩ := hNx H' nx
        have fixed : ∀ b ∈ fp, ∀ o, s7.heap.get? b = some o → s'.heap.get? b = some o ∧ H' b = none := fun b hb o e =>
          let z := I'.pin (b, o) (List.mem_append_right _ (List.mem_append_right _ (mem_pinsAt hb e)))
          ⟨z.1, z.2.1⟩
        refine ⟨m', hm, i + 1, H', (I'.unpinned (pins := [])).weak (by rw [← hw8, wipe_length]) (fun j v e => ?_), T.keep _ _ _ st7 fun b hb o e => (fixed b hb o e).1, fun b hb => ?_, w'⟩
        · rw [← hw8] at e
          exact (wipe_some e).1
        · obtain ⟨o, e, _⟩ := T.obj _ _ st7 b hb
          exact (fixed b hb o e).2
      cases b with
      | false =>
        simp only [Bool.false_eq_true, if_false] at q9 ⊢
        exact next I9 q9
      | true =>
        simp only [if_true] at q9 ⊢
        refine thnF (pe.run _ s9 σ8 H9 _ I9 q9) fun z s10 ⟨yv, H10, I10, r10, pp⟩ => ?_
        exact put_ok (X := X.blk s3 H3 scope ce fp) I10 hu r10 pp fun H11 s11 I11 nx => next I11 nx
  exact PpSet.codeAny_compStart_set loop (T.self X.A 0 _ _ _ st4 loop)
end
end
end NSet
set_option Elab.async false
set_option linter.all false
set_option maxRecDepth 100000
set_option maxHeartbeats 4000000
namespace NSet
open PySem PySem.Spec PyProof.Rows L2
/-! X36: the set comprehension over a list that stays -/
theorem scN_list {w : World} {K : PySem.W.Frag} {a : Addr} {xs : List V} {g : TG} {tt : TT} {te : TE} {vs : List Nat} {σ : L2.St} {H1 : Hp} {D : Addr} {Fin : Hp → Prop} (Pv : Nat → Hp → Prop) (first : Pv 0 (upd H1 D (SetN w D []))) (here : ∀ i H, i ≤ xs.length → Pv i H → SqL K H a xs)
    (turn : ∀ i x H, xs[i]? = some x → Pv i H → g x (wipe σ vs) H fun σ2 H2 => wipe σ2 vs = wipe σ vs ∧ tt σ2 H2 fun b H3 => if b = true then te σ2 H3 fun y H4 => putN K w D y H4 (Pv (i + 1)) else Pv (i + 1) H3) (last : ∀ H, Pv xs.length H → Fin H) :
    ∃ W : Nat → Nat → Hp → Prop, (∃ m, W 0 m (upd H1 D (SetN w D []))) ∧ ∀ i m H, W i m H →
      ((Itl K a).stop i H ∧ Fin H) ∨ ((Itl K a).go i H ∧ ∃ Nx : Hp → Prop, (∀ H', Nx H' → ∃ m', m' < m ∧ W (i + 1) m' H') ∧ ∀ x H', (Itl K a).yld i H x H' → g x (wipe σ vs) H' fun σ2 H2 => wipe σ2 vs = wipe σ vs ∧ tt σ2 H2 fun b H3 =>
        if b = true then te σ2 H3 fun y H4 => putN K w D y H4 Nx else Nx H3) := by
  refine ⟨fun i m H => m + i = xs.length ∧ Pv i H, ⟨xs.length, rfl, first⟩, fun i m H ⟨hm, p⟩ => ?_⟩
  have q := here i H (by omega) p
  rcases Nat.lt_or_ge i xs.length with lt | ge
  · refine .inr ⟨⟨xs, xs[i], q, by simp [lt]⟩, Pv (i + 1), fun H' p' => ⟨m - 1, by omega, by omega, p'⟩, fun x H' y => ?_⟩
    obtain ⟨e, y⟩ := y
    subst e
    exact turn i x _ (y xs q) p
  · obtain rfl : i = xs.length := by omega
    exact .inl ⟨⟨xs, q, Nat.le_refl _⟩, last H p⟩
end NSet
set_option Elab.async false
set_option linter.all false
set_option maxRecDepth 100000
set_option maxHeartbeats 4000000
namespace Vk
open PySem PySem.Spec PyProof.Rows L2
/-! X37: x != y by an own __eq__ alone; ~x and x op y by own methods, y of the same class -/
section
variable {M : Model} {prog : Program} {w : World} {A : Around} {E : Value → Shared → Prop} {s : Shared} {K : PySem.W.Frag} {x C g : Addr} {ox : Obj} {od : Option Obj}
theorem bound_ne {args : List Value} {Q : Option Value → Shared → Prop} (X : K.In s.heap) (I : PySem.W.InstAt s.heap x ox C od) (hs : PySem.W.findIn K (.ref C) "__ne__" = some (some (.builtin "object.__ne__")))
    (h : wpAny M A (call (.builtin "object.__ne__") (.ref x :: args)) (fun v => Q (some v)) E s) : wpAny M A (callSpecialIfBound? (.ref x) "__ne__" args) Q E s := by
  simp only [callSpecialIfBound?, bindSpecialIfBound?]
  have last : wpAny M A (call (.builtin "object.__ne__") ([.ref x] ++ args) >>= fun v => pure (some v)) Q E s := wpAny_bind (wpAny_mono h (fun v s' z => wpAny_pure z) fun _ _ z => z)
  refine wpAny_holding (wpAny_bind (wpAny_bind (wpAny_bind (I.type.here ((PySem.W.looks_findIn X hs).here ?_)))))
  refine wpAny_bind (wpAny_askSetting (wpAny_ite ?_))
  split
  · exact wpAny_bind (wpAny_of_eq (F.cmp_object.ne.bind _) (wpAny_pure (by exact last)))
  · exact wpAny_tryCatch (wpAny_bind (wpAny_of_eq (F.cmp_object.ne.bind _) (wpAny_pure (by exact last))))
theorem turned_eq {b : Value} {Q : Fin → Shared → Prop} (hu : A.units < cLine) (X : K.In s.heap) (I : PySem.W.InstAt s.heap x ox C od) (hs : PySem.W.findIn K (.ref C) "__eq__" = some (some (.ref g))) (hf : PySem.W.isFn K (.ref g) = true)
    (h : wpAny (model prog w) A (call (.ref g) [.ref x, b]) (fun v s' => ∃ c, v = .bool c ∧ Q (.done (.ret (.bool (!c)))) s') E s) : wpAny (model prog w) A (Builtin.«object.__ne__» ⟨[.ref x, b], []⟩) Q E s := by
  unfold Builtin.«object.__ne__»
  repeat (first
    | with_reducible refine wpAny_cRoomFor hu ?_
    | (refine wpAny_bind (m := callSpecialIfBound? (.ref x) (Str.ofString "__eq__") [b]) (PySem.W.ifBound_K X I hs hf (wpAny_mono h (fun r s' hr => by
        obtain ⟨c, rfl, hq⟩ := hr
        repeat (first | exact hq | exact wpAny_pure hq | exact wpAny_truthy_bool hq | (refine wpAny_bind (m := truthy (.bool _)) (wpAny_truthy_bool ?_)) | wp_step)) fun _ _ z => z)))
    | wp_step)
end
def rNeI (K : PySem.W.Frag) (C : Addr) (sp : Sp) (E : XK) : R2 := fun x y H Q => ∃ a dx fs b C' dy gs, x = .ref a ∧ y = .ref b ∧ H a = some (.ins C dx fs) ∧ H b = some (.ins C' dy gs) ∧ PySem.W.notFirst K C (.ref C') = true ∧ sp [x, y] H (fun z H' => ∃ c, z = .bl c ∧ Q (.bl (!c)) H') E
section
variable {X : Cx} {CX : CXT} {k : Nat} {g C : Addr} {sp : Sp} {E : XK}
theorem op_neI (hne : PySem.W.findIn X.K (.ref C) "__ne__" = some (some (.builtin "object.__ne__"))) (hm : PySem.W.mroIn X.K C (.type "object") = some true) (hs : PySem.W.findIn X.K (.ref C) "__eq__" = some (some (.ref g))) (hf : PySem.W.isFn X.K (.ref g) = true)
    (G : FnR X.prog X.w X.K X.mg X.base CX k g sp) (hr : Room (k + 1) X.A) (hx : Passes CX X E) : OpR X (compareOp .NotEq) (rNeI X.K C sp E) := by
  intro pins s σ H x y v u Q I rx ry h
  obtain ⟨a, dx, fs, b, C', dy, gs, rfl, rfl, ha, hbb, hn, q⟩ := h
  cases (show v = Value.ref a from rx)
  cases (show u = Value.ref b from ry)
  obtain ⟨mA, O, _⟩ := ins_get I.hok ha
  obtain ⟨od, J, _⟩ := O.look
  obtain ⟨mB, O2, _⟩ := ins_get I.hok hbb
  obtain ⟨od2, J2, _⟩ := O2.look
  have hr1 : Room k X.A.in1 := Room.in1 hr
  have one : wpAny (model X.prog X.w) X.A (tryCompare (.ref a) "__ne__" (.ref b)) (fun r s' => ∃ v, r = some v ∧ EP X pins σ Q v s') X.xe s := by
    unfold tryCompare
    refine wpAny_bind (bound_ne I.kIn J hne (wpAny_call (codeAny_call_builtin F.cmp_object.ne.plain F.cmpEntry_ne (PySem.W.check_slot F.cmpKind_ne F.cmpSplit_ne (J.type.andThen (PySem.W.looks_mroIn I.kIn hm)) (F.cmpArgs_ne _ _) (turned_eq hr1.units0 I.kIn J hs hf ?_)))))
    refine wpAny_mono (wpAny_call (SlX.run_at (us := [.ref a, .ref b]) (ws := [.ref a, .ref b]) G hr1 I.env0.in1 hx I (.cons rfl (.cons rfl .nil)) q)) (fun w s' z => ?_) fun _ _ x => x
    obtain ⟨z', H', I', rz, c, ei, qz⟩ := z
    subst ei
    cases (show w = Value.bool c from rz)
    exact ⟨c, rfl, wpAny_pure ⟨_, rfl, .bl (!c), H', I', rfl, qz⟩⟩
  show wpAny _ _ (richCompare .NotEq (.ref a) (.ref b)) _ _ s
  unfold richCompare
  simp only [oneThing_ref]
  refine wpAny_holding (wpAny_bind (wpAny_cRoomFor hr.units0 ?_))
  rw [cmpInfo_NotEq]
  dsimp only
  refine wpAny_bind (J.type.here (wpAny_bind (J2.type.here ?_)))
  split
  · rename_i z
    have e : PySem.W.subIn X.K (.ref C') (.ref C) = some false := by
      rcases Bool.or_eq_true_iff.mp hn with e | e
      · rw [beq_iff_eq.mp e] at z; simp at z
      · exact beq_iff_eq.mp e
    refine wpAny_bind ((PySem.W.looks_subIn I.kIn e).here ?_)
    simp only [Bool.false_eq_true, if_false]
    refine wpAny_bind (wpAny_mono one (fun r s' z => ?_) fun _ _ e => e)
    obtain ⟨v, rfl, hq⟩ := z
    exact wpAny_pure hq
  · refine wpAny_bind (wpAny_pure ?_)
    simp only [Bool.false_eq_true, if_false]
    refine wpAny_bind (wpAny_mono one (fun r s' z => ?_) fun _ _ e => e)
    obtain ⟨v, rfl, hq⟩ := z
    exact wpAny_pure hq
/-- ~x -/
def rInvI (C : Addr) (sp : Sp) (E : XK) : V → Hp → VK → Prop := fun x H Q => ∃ a dx fs, x = .ref a ∧ H a = some (.ins C dx fs) ∧ sp [x] H Q E
theorem un_invI (hs : PySem.W.findIn X.K (.ref C) "__invert__" = some (some (.ref g))) (hf : PySem.W.isFn X.K (.ref g) = true) (G : FnR X.prog X.w X.K X.mg X.base CX k g sp) (hr : Room k X.A) (hx : Passes CX X E) : UnR X (unaryOp .Invert) (rInvI C sp E) := by
  intro pins s σ H x v Q I rx h
  obtain ⟨a, dx, fs, rfl, ha, q⟩ := h
  cases (show v = Value.ref a from rx)
  obtain ⟨mA, O, _⟩ := ins_get I.hok ha
  obtain ⟨od, J, _⟩ := O.look
  obtain ⟨m, hF⟩ := I.fr
  exact PySem.W.ksp_inv hF I.ok.mod.kin J hs hf (wpAny_call (SlX.run_at (us := [.ref a]) (ws := [.ref a]) G hr I.env0 hx I (.cons rfl .nil) q))
end
/-- x op y, y of the same class; what it raises is wished for at the slots -/
def tBinO (C : Addr) (sp : Sp) (E : L2.St → XK) (ta tb : TE) : TE := fun σ H Q => ta σ H fun x H1 => tb σ H1 fun y H2 => ∃ a dx fs b dy gs, x = .ref a ∧ y = .ref b ∧ H2 a = some (.ins C dx fs) ∧ H2 b = some (.ins C dy gs) ∧ sp [x, y] H2 Q (E σ)
section
variable {X : Cx} {CX : CXT} {k : Nat} {g C : Addr} {fd : FuncData} {ps : List Str} {sp : Sp} {E : L2.St → XK} {pos : Pos} {e f : Expr} {ta tb : TE} {op : Operator}
theorem pe_binO (hc : PySem.W.selfFirst X.K C = true) (hs : PySem.W.findIn X.K (.ref C) (PySem.dunder op.info.2) = some (some (.ref g))) (hf : PySem.W.isFn X.K (.ref g) = true) (G : FnOk X.prog X.w X.K X.mg X.base CX k g fd ps sp) (hr : Room k X.A) (hb : Binds X.K fd ps [])
    (hx : ∀ σ, PassesAt CX X σ (E σ)) (he : PE X e ta) (hg : PE X f tb) : PE X (.BinOp e op f pos) (tBinO C sp E ta tb) := by
  refine ⟨fun pins s σ H Q I h => ?_⟩
  refine wpAny_BinOp (binT he hg (R := fun x y H2 => ∃ a dx fs b dy gs, x = .ref a ∧ y = .ref b ∧ H2 a = some (.ins C dx fs) ∧ H2 b = some (.ins C dy gs) ∧ sp [x, y] H2 Q (E σ)) I h fun v u s2 x y H2 I2 rx ry q => ?_)
  obtain ⟨a, dx, fs, b, dy, gs, rfl, rfl, ha, hbb, q⟩ := q
  cases (show v = Value.ref a from rx)
  cases (show u = Value.ref b from ry)
  obtain ⟨mA, O, _⟩ := ins_get I2.hok ha
  obtain ⟨od, J, _⟩ := O.look
  obtain ⟨mB, O2, _⟩ := ins_get I2.hok hbb
  obtain ⟨od2, J2, _⟩ := O2.look
  obtain ⟨m, hF⟩ := I2.fr
  refine PySem.W.binop_K hF I2.ok.mod.kin J J2.type hc hs hf ?_
  refine wpAny_mono (run_fnS (us := [.ref a, .ref b]) (vs := [.ref a, .ref b]) G hr hb (hx σ) I2 (.cons rfl (.cons rfl .nil)) q) (fun w s1 z => ?_) fun _ _ z => z
  obtain ⟨z1, H1, I1, rz, qz⟩ := z
  exact SlX.cmpback rz ⟨z1, H1, I1, rz, qz⟩
end
end Vk
set_option Elab.async false
set_option linter.all false
set_option maxRecDepth 100000
set_option maxHeartbeats 4000000
namespace Vk
open PySem PySem.Spec PyProof.Rows L2
/-! X39: an own error without arguments -/
theorem pmk_bare {X : Cx} {C : Addr} {bmB : List Value} {B newId initId : String} {x : Str} {p pos : Pos} (F : ExcBaseFacts B newId initId bmB) (q : PySem.W.excIn X.K C bmB newId = true) (gC : X.mg x = some (.ref C)) (kC : PySem.W.keepIn X.K (.ref C) = true) (r : Raises X (.ref C)) (hg : Gl X x)
    (hdb : (x == ("__debug__" : Str)) = false := by decide) : PMk X (.Call (.Name x p) [] [] pos) (fun _ H Q => Q (.ref C) none H) := by
  intro pins s σ H Q I h
  refine wpAny_Call_Name_kw (ld_glob I hg gC ?_ hdb)
  refine PySem.W.callWith_K0 I.kIn kC ?_
  obtain ⟨bm, N, nm, qn, bs, hdct, sn, sub, ab, col, dd, k0, k1, k2, k3, k5, mN, hC, hN, hni, T⟩ := exc_obj I.kIn q
  refine wpAny_call_exc_subT F T hC hN hni (fun h' e hm => ?_) (by show 0 ≤ sizeLine; exact Nat.zero_le _)
  exact mk_of I hm r h (I.hok.gone hm.new)
end Vk
set_option Elab.async false
set_option linter.all false
set_option maxRecDepth 100000
set_option maxHeartbeats 4000000
namespace Vk
open PySem PySem.Spec PyProof.Rows L2
/-! X44: a or b of texts, as a value -/
section
variable {X : Cx}
def tOrS (ta tb : TE) : TE := fun σ H Q => ta σ H fun x H1 => ∃ l : List Nat, x = .str (S l) ∧ l.length ≤ 4000 ∧ (l ≠ [] → Q (.str (S l)) H1) ∧ (l = [] → tb σ H1 Q)
theorem pe_orS {a b : Expr} {rest : List Expr} {ta tb : TE} {pos : Pos} (ha : PE X a ta) (hb : PE X (.BoolOp .Or (b :: rest) pos) tb) : PE X (.BoolOp .Or (a :: b :: rest) pos) (tOrS ta tb) := by
  refine ⟨fun pins s σ H Q I h => ?_⟩
  refine BoolOp_or (thn (ha.run pins s σ H _ I h) fun v s1 ⟨x, H1, I1, r1, l, e, hl, q1, q2⟩ => ?_)
  subst e
  obtain ⟨t, rfl⟩ := r1
  refine PySem.P.truthy_str (by rw [S_len]; omega) ?_
  rw [S_len]
  by_cases e : l = []
  · subst e
    exact hb.run pins _ σ H1 Q (I1.tok _) (q2 rfl)
  · have hn : ((l.length : Int) != 0) = true := by
      cases l with
      | nil => exact absurd rfl e
      | cons _ _ => simp; omega
    rw [hn]
    exact ⟨.str (S l), H1, I1.tok _, ⟨t, rfl⟩, q1 e⟩
end
end Vk
set_option Elab.async false
set_option linter.all false
set_option maxRecDepth 100000
set_option maxHeartbeats 4000000
namespace PySem.W
open PySem PyProof.Rows
section
variable {prog : Program} {w : World} {K : Frag} {A : Around} {s : Shared} {x C f : Addr} {ox od : Obj} {E : Value → Shared → Prop} {h₀ : Heap} {L : Addr} {m : Str → Option Value}
theorem kbo_end {Q : Value → Shared → Prop} {r : Value} {s' : Shared} (hr : BoolBack (fun b s' => Q (.bool b) s') r s') : BoolBack (fun b s' => wpAny (model prog w) A.in1.in1 (ret (Value.bool b)) (fun fin s' => match fin with
                | Fin.done f => wants (fun r s₁ => ∃ b, r = Value.bool b ∧ Q r s₁) E (Except.ok f) s'
                | Fin.again c' => c'.quiet = true ∧ codeAny (model prog w) A.in1 c' (wants (fun r s₁ => ∃ b, r = Value.bool b ∧ Q r s₁) E) s')
              (fun e s' => wants (fun r s₁ => ∃ b, r = Value.bool b ∧ Q r s₁) E (Except.error e) s') s') r s' := by
  cases r <;> first | exact hr.elim | exact wpAny_pure ⟨_, rfl, hr⟩
theorem kbo_call {Q : Value → Shared → Prop} (F : PyProof.Rows.Fr h₀ L s.heap m) (X : K.In h₀) (I : InstAt s.heap x ox C od) (hs : findIn K (.ref C) "__bool__" = some (some (.ref f))) (hf : isFn K (.ref f) = true)
    (h : wpAny (model prog w) A.in1.in1 (call (.ref f) [.ref x]) (BoolBack fun b s' => Q (.bool b) s') E s) : wpAny (model prog w) A (call (.type "bool") [.ref x]) Q E s := by
  refine callType_codes (T := "bool") (Bi := Builtin.«object.__init__») (Q₁ := fun r s₁ => ∃ b, r = .bool b ∧ Q r s₁) PySem.F.called_bool (PySem.F.typeCall_bool_1 _) PySem.F.entry_object_init ?_ ?_
  · refine codeAny_of_tree ?_
    show wpAny _ A.in1.in1 (do checkBuiltinCall "bool.__new__" ⟨[.type "bool", .ref x], []⟩; again (.builtin "bool.__new__" ⟨[.type "bool", .ref x], []⟩)) _ _ s
    refine wpAny_bind (wpAny_of_eq (PySem.F.newCall_bool_1 _) (wpAny_pure ⟨plainId_quiet (by decide +kernel) _, codeAny_builtin PySem.F.entry_bool_new ?_⟩))
    rw [Around.under_plainId (by decide +kernel) _]
    have f1 := PySem.F.conv_sub_bool
    unfold Builtin.«bool.__new__»
    repeat (any_goals (first | assumption | (with_reducible refine truthy_K F X I hs hf (wpAny_mono h (fun r s' hr => kbo_end hr) fun _ _ y => y)) | wp_step))
  · rintro obj s₁ ⟨b, rfl, hq⟩
    exact ⟨typeIs_bool _ _, PySem.F.args_object_init_2 _ _, object_init_meets PySem.F.called_bool.init.lookup PySem.F.called_bool.made (by decide) prog w A.in1 _ s₁ ⟨typeIs_bool _ _, rfl, hq⟩⟩
end
end PySem.W

namespace Vk
open PySem PySem.Spec PyProof.Rows L2
section
variable {X : Cx} {CX : CXT} {C : Addr} {sp : Sp}
/-- bool(o), by o's own `__bool__` -/
def rBoolI (C : Addr) (sp : Sp) (E : XK) : List V → Hp → VK → Prop := fun xs H Q => ∃ (a dx : Addr) (fs : List (Str × V)), xs = [V.ref a] ∧ H a = some (.ins C dx fs) ∧ sp [.ref a] H (fun z H' => ∃ b : Bool, z = .bl b ∧ Q z H') E
theorem call_boolI {g : Addr} {n : Nat} {E : XK} (hs : PySem.W.findIn X.K (.ref C) "__bool__" = some (some (.ref g))) (hf : PySem.W.isFn X.K (.ref g) = true) (F : FnR X.prog X.w X.K X.mg X.base CX n g sp) (hr : Room (n + 2) X.A) (hx : Passes CX X E) :
    CallR X (.type "bool") (rBoolI C sp E) := by
  intro pins s σ H xs us Q I r h
  obtain ⟨a, dx, fs, rfl, ha, q⟩ := h
  obtain ⟨u, rfl, ru⟩ := vals1 r
  cases (show u = Value.ref a from ru)
  obtain ⟨mA, O, _⟩ := ins_get I.hok ha
  obtain ⟨od, J, _⟩ := O.look
  obtain ⟨m, hF⟩ := I.fr
  have hr2 : Room n X.A.in1.in1 := Room.in1 (Room.in1 hr)
  refine PySem.W.kbo_call hF I.ok.mod.kin J hs hf (wpAny_mono (wpAny_call (SlX.run_at (us := [.ref a]) (ws := [.ref a]) F hr2 I.env0.in1.in1 hx I (.cons rfl .nil) q)) (fun w s' z => ?_) fun _ _ x => x)
  obtain ⟨z', H', I', rz, b, ez, qz⟩ := z
  subst ez
  cases (show w = Value.bool b from rz)
  exact ⟨.bl b, H', I', rfl, qz⟩
end
end Vk
set_option Elab.async false
set_option linter.all false
set_option maxRecDepth 100000
set_option maxHeartbeats 4000000
namespace Vk
open PySem PySem.Spec PyProof.Rows L2
/-! X46: e[k:].replace('x', 'y') of written texts -/
section
variable {X : Cx}
theorem pe_replSl {e : Expr} {te : TE} {k : Int} {j j1 j2 : Nat} {y z : Str} {cp p2 pos c1 c2 apos cpos : Pos} (he : PE X e te) (hyz : (y == z) = false) (hline : (apos.endLine == cpos.line) = true := by rfl) :
    PE X (.Call (.Attribute (.Subscript e (.Slice (some (.Constant (.int k) j cp)) none none p2) pos) "replace" apos) [.Constant (.str y) j1 c1, .Constant (.str z) j2 c2] [] cpos)
      (fun σ H Q => tSl rSlS te (tPart (tC (.int k))) tNoPart σ H fun v H1 => ∃ x, v = .str x ∧ x.length + (x.length + 1) * z.length ≤ 16777216 ∧ Q (.str (Txt.replace x y z)) H1) := by
  refine ⟨fun pins s σ H Q I h => ?_⟩
  refine PySem.Call_method2 rfl rfl hline (Subscript_ (thn (he.run pins s σ H _ I h) fun v s1 ⟨x, H1, I1, r1, q1⟩ => ?_))
  refine wpAny_Slice ?_
  rw [evalPart_some]
  refine wpAny_Constant_int ?_
  rw [evalPart_none]
  refine wpAny_pure (wpAny_pure ?_)
  have I4 : Inv X pins σ H1 { s1 with heap := s1.heap.push { cls := .type "slice", data := .fields #[.int k s1.toks, .none, .none] }, toks := s1.toks + 1 } := I1.kept (t' := s1.toks + 1) fun b ob q => Heap.get?_push_of_some _ q
  obtain ⟨l, el, q2⟩ := q1
  cases el
  have q2 : rSlS x (some k) none H1 (fun v H1 => ∃ x, v = .str x ∧ x.length + (x.length + 1) * z.length ≤ 16777216 ∧ Q (.str (Txt.replace x y z)) H1) := q2
  obtain ⟨T, id, hT, ht, hg⟩ := sl_str pins _ σ H1 x v (.int k s1.toks) .none (some k) none s1.heap.objs.size _ I4 r1 (Heap.IsSliceOf.new ..) (.int k s1.toks) .none q2
  refine wpAny_mono (PySem.wpAny_toks_of (n := 1) (by show 1 ≤ s1.toks + 1; omega) (tail_any (ops := [.ref s1.heap.objs.size, v]) ht hT hg (by with_unfolding_all rfl))) (fun u s3 hu => ?_) fun _ _ z => z.2
  obtain ⟨tk, v3, H3, I3, r3, x3, ex, hz, q⟩ := hu
  subst ex
  obtain ⟨t3, rfl⟩ := r3
  refine ⟨"str", _, PySem.F.plainAttrs_str, PySem.F.slot_str_replace, PySem.F.type_str_replace, typeIs_str _ _ _, (fun _ e => nomatch e), Calls.callWith_builtin rfl (Calls.evalArgs_plain (Calls.spliced_cons (Calls.Constant_str (Calls.spliced_cons (Calls.Constant_str (Calls.spliced_nil ?_))))))⟩
  refine PySem.SC.replace (Nat.ne_of_gt tk) (Nat.succ_ne_zero _) (by show s3.toks ≠ s3.toks + 1; omega) hyz hz fun t' k' => ⟨.str _, H3, I3.tok k', ⟨_, rfl⟩, q⟩
end
end Vk
set_option Elab.async false
set_option linter.all false
set_option maxRecDepth 100000
set_option maxHeartbeats 2000000
namespace Vk
open PySem PySem.Spec PyProof.Rows L2
/-! o(e, ..): an own object whose class has a `__call__`; str(o): one whose class has a `__str__` -/
theorem callwith_i {M : Model} {A : Around} {E : Value → Shared → Prop} {s : Shared} {pos : Pos} {x C : Addr} {first : List Value} {Q : Value → Shared → Prop} {args : List (Bool × Sem Value)}
    (hp : args.any (·.1) = false)
    (h : wpAny M A (evalArgs (.ref x) true args []) (fun r s1 => (∃ ox od, PySem.W.InstAt s1.heap x ox C od ∧ ox.data = .plain) ∧ wpAny M A (call (.ref x) (first ++ r.pos) r.kw) Q E s1) E s) : wpAny M A (callWith pos (.ref x) first args []) Q E s := by
  unfold callWith
  refine wpAny_bind (wpAny_holding (wpAny_mono h (fun r s1 hr => wpAny_bind (wpAny_standAt ?_)) fun _ _ z => z))
  obtain ⟨⟨ox, od, J, hd⟩, hc⟩ := hr
  have L := PySem.W.kco_keeper (M := M) J hd
  simp only [hp, List.any_nil, Bool.or_false]
  refine wpAny_bind (L.here ?_)
  have behind : ∀ {m : Sem Value}, wpAny M A m Q E s1 → wpAny M A (m >>= fun v => holding [v] point >>= fun _ => pure v) Q E s1 := fun z =>
    wpAny_bind (wpAny_mono z (fun v s2 hv => wpAny_bind (wpAny_holding (wpAny_point (wpAny_pure hv)))) fun _ _ z => z)
  exact behind (wpAny_operateT hc)
def tCallI (C : Addr) (sp : Sp) (E : L2.St → XK) (tf : TE) (t : TA) : TE := fun σ H Q => tf σ H fun x H1 => ∃ a, x = .ref a ∧ t σ H1 fun vs H2 => (∃ dx fs, H2 a = some (.ins C dx fs)) ∧ sp (.ref a :: vs) H2 Q (E σ)
section
variable {X : Cx} {CX : CXT} {k : Nat} {f C : Addr} {fd : FuncData} {ps : List Str} {sp : Sp} {E : L2.St → XK} {x : Str} {p pos : Pos} {e : Expr} {es : List Expr} {tf ta : TE} {t : TA}
theorem code_fnS {pins : List (Addr × Obj)} {σ : L2.St} {H : Hp} {s : Shared} {Q : VK} {us : List Value} {vs : List V} (F : FnOk X.prog X.w X.K X.mg X.base CX k f fd ps sp) (hr : Room k X.A) (hb : Binds X.K fd ps []) (hx : PassesAt CX X σ (E σ))
    (I : Inv X pins σ H s) (r : Vals vs us) (h : sp vs H Q (E σ)) : codeAny (model X.prog X.w) X.A (.call (.ref f) ⟨us, []⟩) (fun r s' => match r with | .ok (.ret v) => EP X pins σ Q v s' | .ok _ => False | .error e => X.xe e s') s := by
  have hl : us.length = ps.length := by rw [← r.length]; exact F.len _ _ _ _ h
  have b := hb s us I.kIn (by rw [List.append_nil]; exact hl)
  rw [List.append_nil] at b
  refine codeAny_mono (F.run X.A X.stack s H ⟨us, []⟩ us vs Q (E σ) hr I.env0 b r h) fun r s' hq => ?_
  cases r with
  | error e => exact hx pins H s e s' I hq
  | ok fl =>
    cases fl with
    | ret u => exact I.after hq
    | next => exact False.elim hq
    | brk => exact False.elim hq
    | cont => exact False.elim hq
theorem pe_callI (he : PE X (.Name x p) tf) (hm : Meth X.K C "__call__" f) (hfn : PySem.W.fnIn X.K f = true) (F : FnOk X.prog X.w X.K X.mg X.base CX k f fd ps sp) (hr : Room k X.A) (hb : Binds X.K fd ps []) (hx : ∀ σ, PassesAt CX X σ (E σ)) (ha : PA X (e :: es) t)
    (hst : starEach (e :: es) X.env = (false, eval e X.env) :: starEach es X.env := by rfl) (hpl : (backTo pos (starEach es X.env)).any (·.1) = false := by rfl) :
    PE X (.Call (.Name x p) (e :: es) [] pos) (tCallI C sp E tf t) := by
  refine ⟨fun pins s σ H Q I h => ?_⟩
  refine wpAny_Call_Name_kw (thn (he.run pins s σ H _ I h) fun u s1 hh => ?_)
  obtain ⟨v, H1, I1, rv, a, ev, q⟩ := hh
  subst ev
  obtain rfl : u = Value.ref a := rv
  have hpl2 : (backTo pos (starEach (e :: es) X.env)).any (·.1) = false := by
    rw [hst]
    exact hpl
  refine callwith_i (C := C) (first := []) hpl2 ?_
  have z : wpAny (model X.prog X.w) X.A (spliced (backTo pos (starEach (e :: es) X.env))) (fun us s2 => (∃ ox od, PySem.W.InstAt s2.heap a ox C od ∧ ox.data = .plain) ∧ wpAny (model X.prog X.w) X.A (call (.ref a) ([] ++ us)) (EP X pins σ Q) X.xe s2) X.xe s1 := by
    refine thn (ha.run pos pins s1 σ H1 _ I1 q) fun us s2 hh => ?_
    obtain ⟨vs, H2, I2, r, ⟨dx, fs, e2⟩, q2⟩ := hh
    obtain ⟨mA, O, _, _, _, _⟩ := ins_get I2.hok e2
    obtain ⟨od, J, _⟩ := O.look
    refine ⟨⟨_, _, J, rfl⟩, ?_⟩
    exact wpAny_call (PySem.W.kco_code I2.kIn J rfl hm.at_ hm.fn hfn (code_fnS (us := .ref a :: us) (vs := .ref a :: vs) F hr hb (hx σ) I2 (.cons rfl r) q2))
  rw [hst] at z ⊢
  exact Calls.evalArgs_plain z
/-- str(o), by o's own `__str__` -/
def rStrI (C : Addr) (sp : Sp) (E : XK) : List V → Hp → VK → Prop := fun xs H Q => ∃ (a dx : Addr) (fs : List (Str × V)), xs = [V.ref a] ∧ H a = some (.ins C dx fs) ∧ sp [.ref a] H (fun z H' => ∃ y : Str, z = .str y ∧ Q z H') E
theorem call_strI {g : Addr} {n : Nat} {E : XK} (hs : PySem.W.findIn X.K (.ref C) "__str__" = some (some (.ref g))) (hf : PySem.W.isFn X.K (.ref g) = true) (F : FnR X.prog X.w X.K X.mg X.base CX n g sp) (hr : Room (n + 2) X.A) (hx : Passes CX X E) :
    CallR X (.type "str") (rStrI C sp E) := by
  intro pins s σ H xs us Q I r h
  obtain ⟨a, dx, fs, rfl, ha, q⟩ := h
  obtain ⟨u, rfl, ru⟩ := vals1 r
  cases (show u = Value.ref a from ru)
  obtain ⟨mA, O, _⟩ := ins_get I.hok ha
  obtain ⟨od, J, _⟩ := O.look
  have hr2 : Room n X.A.in1.in1 := Room.in1 (Room.in1 hr)
  refine PySem.W.kso_call hr2.units0 I.kIn J hs hf (wpAny_mono (wpAny_call (SlX.run_at (us := [.ref a]) (ws := [.ref a]) F hr2 I.env0.in1.in1 hx I (.cons rfl .nil) q)) (fun w s' z => ?_) fun _ _ x => x)
  obtain ⟨z', H', I', rz, y, ez, qz⟩ := z
  subst ez
  obtain ⟨t, e⟩ := (show ∃ t, w = Value.str y t from rz)
  cases e
  exact ⟨.str y, H', I', ⟨_, rfl⟩, qz⟩
end
end Vk
set_option Elab.async false
set_option linter.all false
set_option maxRecDepth 100000
set_option maxHeartbeats 4000000
namespace Vk
open PySem PySem.Spec PyProof.Rows L2
def top (i : Nat) : Stmt := PySem.Challenge.pw_talepost_k20_tables_written.main.body.getD i (.Pass ⟨0, 0, 0, 0⟩)
abbrev sDiff : Stmt := top 11
/-- the built-in names stand for themselves -/
structure Zs (mg : Str → Option Value) : Prop where
  z_len : mg "len" = none
  z_set : mg "set" = none
  z_all : mg "all" = none
  z_abs : mg "abs" = none
  z_int : mg "int" = none
  z_range : mg "range" = none
  z_sorted : mg "sorted" = none
  z_isinstance : mg "isinstance" = none
  z_str : mg "str" = none
  z_bool : mg "bool" = none
  z_list : mg "list" = none
  z_tuple : mg "tuple" = none
  z_any : mg "any" = none
  z_enum : mg "enumerate" = none
  z_min : mg "min" = none
  z_max : mg "max" = none
  z_VE : mg "ValueError" = none
structure TxA (K : PySem.W.Frag) (mg : Str → Option Value) (aDiff : Addr) : Prop extends Zs mg where
  gDiff : mg "differ_within" = some (.ref aDiff)
theorem sz4 {n : Nat} (h : n ≤ 4000) : n ≤ sizeLine := by rw [sizeLine_eq]; omega
section
variable {P : Program} {w : World} {K : PySem.W.Frag} {mg : Str → Option Value} {base : Heap} {aDiff : Addr}
/-! differ_within -/
def Differ (t a : List Nat) : Prop := t.Nodup ∧ ∀ c ∈ t, c ∈ a
instance (t a : List Nat) : Decidable (Differ t a) := inferInstanceAs (Decidable (_ ∧ _))
def spDiff : Sp := fun vs H Q _ => ∃ t a : List Nat, vs = [.str (S t), .str (S a)] ∧ t.length ≤ 4000 ∧ ∀ H', Same H H' → Q (.bl (decide (Differ t a))) H'
theorem scDiff : FnScope ["text", "allowed", "letter"] ["text", "allowed"] (defScope sDiff) := ⟨rfl, rfl, rfl, by decide +kernel, rfl, by decide +kernel, by decide +kernel⟩
theorem ok_diff {f : Addr} {fd : FuncData} (F : Fun K "differ_within" "differ_within" sDiff f fd) (T : TxA K mg aDiff) : FnOk P w K mg base CX0 1 f fd ["text", "allowed"] spDiff := by
  refine F.ok scDiff (fun vs H Q E h => ?_) (fun cdv A outer s H vs Q E hr h => ?_)
  · obtain ⟨t, a, rfl, _⟩ := h
    rfl
  · obtain ⟨t, a, rfl, hl, k⟩ := h
    refine ⟨_, (pss_one (ps_ret (pe_and (pe_cmpR op_eq (pe_lenSetT (by rfl) T.z_len (by rfl) T.z_set (pv 0)) (pe_callB call_len_str (by rfl) T.z_len (by decide +kernel) (pa_cons (pv 0) pa_nil)) (nomark _)) (pe_one (pe_callB (cr_all rfl) (by rfl) T.z_all (by decide +kernel) (pa_cons (pe_lc (own := [("letter", 2)]) (g := gName 2) (by rfl) scDiff.nd (pi_str (pv 0)) (blkOk_by (own := [("letter", 2)]) (N := ["text", "allowed", "letter"]) (sc := defScope sDiff) (by decide +kernel)) (fun _ _ _ _ _ => pg_name (i := 2) scDiff.nd rfl (Or.inl rfl)) (fun _ _ _ _ _ => pts_nil) (fun _ _ _ _ _ => (pe_cmpR op_in_sign (pv 2) (pv 1) rfl))) pa_nil)))))), ?_⟩
    have e1 : ((metAt (S t).cps.toList (S t).cps.toList.length).length = t.length) ↔ t.Nodup := by
      rw [S_cps]
      exact metAt_end t
    refine ⟨_, rfl, _, rfl, by rw [S_len]; exact hl, _, rfl, _, rfl, sz4 (by rw [S_len]; exact hl), rfl, _, rfl, ?_⟩
    have e2 : ((V.int ((metAt (S t).cps.toList (S t).cps.toList.length).length : Nat)) = V.int ((S t).length : Nat)) ↔ t.Nodup := by
      rw [S_len, ← e1]
      constructor
      · intro h
        have h2 := V.int.inj h
        omega
      · intro h
        rw [h]
    refine ite2 (fun hn => ?_) (fun hn => ?_)
    · have hnd : t.Nodup := e2.mp (of_decide_eq_true hn)
      refine ⟨_, rfl, _, rfl, fun D hD => lc_text (fun _ => true) (fun c => V.bl (decide (c ∈ a))) hl (fun _ => rfl) (fun _ _ _ _ _ q => q) (fun c hc _ H2 Q2 _ q => ⟨_, rfl, _, rfl, c, S a, rfl, rfl, by rw [S_cps]; exact q⟩) ?_⟩
      refine ⟨D, t.map (fun c => decide (c ∈ a)), rfl, ?_, ?_⟩
      · rw [List.map_map]
        refine SqL.of ?_
        rw [upd_same, List.filter_eq_self.mpr (fun _ _ => rfl)]
        rfl
      · have e3 : (t.map fun c => decide (c ∈ a)).all id = decide (Differ t a) := by
          rw [Bool.eq_iff_iff]
          simp [Differ, hnd]
        rw [e3]
        exact k _ fun b o e => by rw [upd_ne (ne_of_none e hD)]; exact e
    · have hnd : ¬ t.Nodup := fun z => hn (decide_eq_true (e2.mpr z))
      have e3 : decide (Differ t a) = false := decide_eq_false fun z => hnd z.1
      have q := k H (Same.refl H)
      rw [e3] at q
      exact q
end
def Kp (b : Addr) (H H' : Hp) : Prop := ∀ c o, c ≠ b → H c = some o → H' c = some o
theorem Kp.refl (b : Addr) (H : Hp) : Kp b H H := fun _ _ _ h => h
theorem Kp.trans {b : Addr} {H H1 H2 : Hp} (a : Kp b H H1) (c : Kp b H1 H2) : Kp b H H2 := fun d o h e => c d o h (a d o h e)
theorem Kp.upd (b : Addr) (H : Hp) (o : HO) : Kp b H (upd H b o) := fun c u h e => by rw [upd_ne h]; exact e
def azL : List Nat := (PySem.Str.ofString "abcdefghijklmnopqrstuvwxyz").cps.toList
theorem az_S : PySem.Str.ofString "abcdefghijklmnopqrstuvwxyz" = S azL := S_of _
theorem az_len : azL.length = 26 := by decide +kernel
theorem az_nodup : azL.Nodup := by decide +kernel
theorem Differ.take {l a : List Nat} (h : Differ l a) (i : Nat) : Differ (l.take i) a := ⟨h.1.sublist (List.take_sublist i l), fun c hc => h.2 c (List.mem_of_mem_take hc)⟩
theorem differ_step {l a : List Nat} {i c : Nat} (hc : l[i]? = some c) : Differ (l.take (i + 1)) a ↔ (Differ (l.take i) a ∧ c ∈ a ∧ c ∉ l.take i) := by
  have hi : i < l.length := (List.getElem?_eq_some_iff.mp hc).1
  have e : l.take (i + 1) = l.take i ++ [c] := by
    rw [List.take_succ, hc]
    rfl
  unfold Differ
  rw [e, List.nodup_append]
  constructor
  · rintro ⟨⟨h1, _, h3⟩, h2⟩
    refine ⟨⟨h1, fun d hd => h2 d (List.mem_append_left _ hd)⟩, h2 c (List.mem_append_right _ (List.mem_singleton.mpr rfl)), fun z => h3 c z c (List.mem_singleton.mpr rfl) rfl⟩
  · rintro ⟨⟨h1, h2⟩, h3, h4⟩
    refine ⟨⟨h1, by simp, fun x hx y hy exy => ?_⟩, fun d hd => ?_⟩
    · rw [List.mem_singleton] at hy
      subst hy exy
      exact h4 hx
    · rcases List.mem_append.mp hd with h | h
      · exact h2 d h
      · rw [List.mem_singleton] at h
        subst h
        exact h3
def dueT (l v : List Nat) : Str := if l.length < 1 ∨ 4 < l.length ∨ ¬ Differ l azL then "letters" else if ¬ Differ v l then "vowels" else ""
abbrev sAlph : Stmt := top 10
abbrev sEq : Stmt := inClass (top 10) 3
def consL (l v : List Nat) : List Nat := (srtL l).filter fun c => !decide (c ∈ v)
/-- what an alphabet shows: letters, vowels, consonants, signs -/
def four (l v : List Nat) : List Str := [S (srtL l), S (srtL v), S (consL l v), S (45 :: srtL l)]
def alF (l v : List Nat) : List (Str × V) := [("letters", .str (S (srtL l))), ("vowels", .str (S (srtL v))), ("consonants", .str (S (consL l v))), ("signs", .str (S (45 :: srtL l)))]
def IsAl (C : Addr) (H : Hp) (a : Addr) (l v : List Nat) : Prop := ∃ dx, H a = some (.ins C dx (alF l v))
theorem IsAl.same {C a : Addr} {H H' : Hp} {l v : List Nat} (h : IsAl C H a l v) (s : Same H H') : IsAl C H' a l v := by
  obtain ⟨dx, e⟩ := h
  exact ⟨dx, s _ _ e⟩
structure AlF (K : PySem.W.Frag) (C : Addr) : Prop where
  cl : Cls K C
  nL : NoAttr K C "letters"
  nV : NoAttr K C "vowels"
  nC : NoAttr K C "consonants"
  nS : NoAttr K C "signs"
  ic : PySem.W.findIn K (.ref C) "__class__" = some (some (.builtin "object.__class__"))
  ig : PySem.W.specialIn K (.builtin "object.__class__") "__get__" = some (some (.builtin "getset_descriptor.__get__"))
  it : PySem.W.takesIn K (.builtin "object.__class__") = some true
  im : PySem.W.mroIn K C (.type "object") = some true
theorem joined {l : List Nat} {ys : List Str} (hl : l.length < 64) (hp : ys.Perm (signsOf (S l))) (hs : sortedS ys = true) :
    ((ys.map (·.length)).sum + ys.length * (PySem.Str.ofString "").length ≤ 16777216) ∧ Txt.join (PySem.Str.ofString "") ys = S (srtL l) := by
  rw [signs_S] at hp
  have e := sorted_signs hp hs
  subst e
  have e0 : PySem.Str.ofString "" = S [] := by decide +kernel
  rw [e0]
  refine ⟨?_, join_signs _⟩
  rw [S_len, List.length_nil, Nat.mul_zero, Nat.add_zero, List.map_map]
  have e1 : (srtL l).map ((fun x : Str => x.length) ∘ fun c => S [c]) = (srtL l).map fun _ => 1 := List.map_congr_left fun c _ => S_len [c]
  rw [e1]
  have e2 : ((srtL l).map fun _ => 1).sum = (srtL l).length := by
    induction srtL l with
    | nil => rfl
    | cons x xs ih => rw [List.map_cons, List.sum_cons, ih, List.length_cons, Nat.add_comm]
  rw [e2, srtL_len]
  omega
theorem joinedL {l : List Nat} (hl : l.length < 1000) : (((l.map fun c => S [c]).map (·.length)).sum + (l.map fun c => S [c]).length * (PySem.Str.ofString "").length ≤ 16777216) ∧ Txt.join (PySem.Str.ofString "") (l.map fun c => S [c]) = S l := by
  have e0 : PySem.Str.ofString "" = S [] := by decide +kernel
  rw [e0]
  refine ⟨?_, join_signs _⟩
  rw [S_len, List.length_nil, Nat.mul_zero, Nat.add_zero, List.map_map]
  have e1 : l.map ((fun x : Str => x.length) ∘ fun c => S [c]) = l.map fun _ => 1 := List.map_congr_left fun c _ => S_len [c]
  rw [e1]
  have e2 : (l.map fun _ => 1).sum = l.length := by
    clear hl e1
    induction l with
    | nil => rfl
    | cons x xs ih => rw [List.map_cons, List.sum_cons, ih, List.length_cons, Nat.add_comm]
  rw [e2]
  omega
theorem upd_laid {H : Hp} {p : Addr} {o : HO} (h : H p = none) : Same H (upd H p o) := fun b u e => by rw [upd_ne (ne_of_none e h)]; exact e
theorem Same.trans {A B C : Hp} (h : Same A B) (k : Same B C) : Same A C := fun b u e => k b u (h b u e)
section
variable {P : Program} {w : World} {K : PySem.W.Frag} {mg : Str → Option Value} {base : Heap} {aDiff : Addr}
end
theorem S_eq_iff {a b : List Nat} : decide ((V.str (S a)) = V.str (S b)) = decide (a = b) := by
  have e : ((V.str (S a)) = V.str (S b)) ↔ a = b := ⟨fun h => S_inj.mp (V.str.inj h), fun h => by rw [h]⟩
  rw [Bool.eq_iff_iff, decide_eq_true_iff, decide_eq_true_iff]
  exact e
def AlEq (l v l2 v2 : List Nat) : Bool := decide (srtL l = srtL l2) && decide (srtL v = srtL v2)
section
variable {P : Program} {w : World} {K : PySem.W.Frag} {mg : Str → Option Value} {base : Heap} {aDiff : Addr}
def spEq (C : Addr) : Sp := fun vs H Q _ => ∃ (a b : Addr) (l v l2 v2 : List Nat), vs = [.ref a, .ref b] ∧ IsAl C H a l v ∧ IsAl C H b l2 v2 ∧ Q (.bl (AlEq l v l2 v2)) H
theorem scEq : FnScope ["self", "other"] ["self", "other"] (defScope sEq) := ⟨rfl, rfl, rfl, by decide +kernel, rfl, by decide +kernel, by decide +kernel⟩
theorem ok_eq {f C : Addr} {fd : FuncData} (F : Fun K "__eq__" "Alphabet.__eq__" sEq f fd) (T : TxA K mg aDiff) (A : AlF K C) (hC : mg "Alphabet" = some (.ref C)) : FnOk P w K mg base CX0 1 f fd ["self", "other"] (spEq C) := by
  refine F.ok scEq (fun vs H Q E h => ?_) (fun cdv A0 outer s H vs Q E hr h => ?_)
  · obtain ⟨a, b, l, v, l2, v2, rfl, _⟩ := h
    rfl
  · obtain ⟨a, b, l, v, l2, v2, rfl, ⟨dx, ha⟩, ⟨dy, hb⟩, k⟩ := h
    refine ⟨_, pss_one (ps_ret (pe_and (pe_callB call_isi (by rfl) T.z_isinstance (by decide +kernel) (pa_cons (pv 1) (pa_cons (pe_glob (v := .ref C) (by rfl) hC rfl) pa_nil)))
      (pe_and (pe_cmpR op_eq (pe_fld (pv 0) rfl) (pe_fld (pv 1) rfl) (nomark _)) (pe_one (pe_cmpR op_eq (pe_fld (pv 0) rfl) (pe_fld (pv 1) rfl) (nomark _)))))), ?_⟩
    refine ⟨_, rfl, _, _, _, _, true, rfl, .own C, .base (.ins hb A.cl A.ic A.ig A.it A.im), ?_, true, rfl, iteT ?_⟩
    · show PySem.W.kitOne K (.ref C) (.ref C) = some true
      unfold PySem.W.kitOne
      rw [if_pos (beq_iff_eq.mpr rfl)]
    refine ⟨_, rfl, a, C, dx, _, _, rfl, ha, A.cl, A.nL, rfl, _, rfl, b, C, dy, _, _, rfl, hb, A.cl, A.nL, rfl, rfl, _, rfl, ?_⟩
    have q := k
    unfold AlEq at q
    rw [← S_eq_iff, ← S_eq_iff] at q
    refine ite2 (fun h => ?_) (fun h => ?_)
    · refine ⟨_, rfl, a, C, dx, _, _, rfl, ha, A.cl, A.nV, rfl, _, rfl, b, C, dy, _, _, rfl, hb, A.cl, A.nV, rfl, rfl, ?_⟩
      rw [h, Bool.true_and] at q
      exact q
    · rw [Bool.eq_false_iff.mpr h, Bool.false_and] at q
      exact q
end
abbrev sBA : Stmt := inClass (top 4) 0
def spBA (C : Addr) : Sp := fun vs H Q _ => ∃ (a : Addr) (z : Str), vs = [.ref a, .str z] ∧ z.length ≤ 100 ∧ H a = some (exo a C none) ∧
  ∀ dx, H dx = none → dx ≠ a → Q .non (upd (upd H dx (exd dx [("part", .str z)])) a (exo a C (some dx)))
theorem scBA : SScope ["self", "part"] (defScope sBA) := ⟨rfl, rfl, rfl, by decide +kernel, by decide +kernel, by decide +kernel, fun x h => (show ∀ y ∈ (defScope sBA).names, y.2 = .free → y.1 = "__class__" by decide +kernel) _ (PySem.mem_of_lookup h) rfl, by decide +kernel, by decide +kernel⟩
section
variable {P : Program} {w : World} {K : PySem.W.Frag} {mg : Str → Option Value} {base : Heap}
theorem ok_ba {f C cc cda : Addr} {dV kV doc pm ct oc : Value} {an od : Option Addr} {osl : Array (Option Value)} (T : SupC P K mg C cc cda) (hp : PySem.W.findIn K (.ref C) "part" = some none)
    (lk : K.lookup f = some ⟨oc, od, .func (PySem.W.ksFn "__init__" "BadAlphabet.__init__" (defArgs sBA) (defBody sBA) (defScope sBA) dV kV doc pm an (.ref cda) ct cc), osl⟩) (hcd : PySem.W.codeIn K (.ref cda) "BadAlphabet.__init__" = true) :
    FnOk P w K mg base CX0 1 f (PySem.W.ksFn "__init__" "BadAlphabet.__init__" (defArgs sBA) (defBody sBA) (defScope sBA) dV kV doc pm an (.ref cda) ct cc) ["self", "part"] (spBA C) := by
  refine fn_super (self := "self") (N' := ["part"]) T lk hcd scBA rfl rfl rfl rfl (fun _ => rfl) (fun _ => rfl) (fun vs H Q E h => ?_) (fun A outer s H vs Q E hr h => ?_)
  · obtain ⟨a, z, rfl, _⟩ := h
    rfl
  · obtain ⟨a, z, rfl, hz, ha, k⟩ := h
    refine ⟨_, _, pe_joined (.cons pe_str (.cons (pe_fmt (pv 1)) (.cons pe_str .nil))), pss_one (ps_ost (pv 0) (pv 1)), ⟨a, rfl, ha⟩, ?_⟩
    have e1 : (PySem.Str.ofString "not the ").length = 8 := by decide +kernel
    have e2 : (PySem.Str.ofString " of an alphabet").length = 15 := by decide +kernel
    have e3 : Str.empty.length = 0 := by decide +kernel
    have sl : ∀ {n : Nat}, n ≤ 1000 → n ≤ sizeLine := fun h => by rw [sizeLine_eq]; omega
    have al : ∀ a b : Str, (a ++ b).length = a.length + b.length := fun a b => by
      show (a.cps ++ b.cps).size = _
      rw [Array.size_append]
      rfl
    refine ⟨_, rfl, sl ?_, _, rfl, .inl ⟨z, rfl, sl (by omega), _, rfl, sl ?_, _, rfl, sl ?_, ⟨a, rfl, ha⟩, ?_⟩⟩
    · rw [al, e1, e3]
      decide
    · rw [al, al, e1, e3]
      omega
    · rw [al, al, al, e1, e2, e3]
      omega
    · exact ⟨_, rfl, _, rfl, a, C, rfl, T.oex, hp, .inl ⟨ha, fun dx hd hn => k dx hd hn⟩⟩
end
abbrev sAI : Stmt := inClass (top 10) 2
/-- BadAlphabet as the written part holds it -/
structure BaF (P : Program) (K : PySem.W.Frag) (mg : Str → Option Value) (B fB : Addr) : Prop where
  ox : OexC K B
  iC : PySem.W.findIn K (.ref B) "__init__" = some (some (.ref fB))
  tI : PySem.W.typeIn K (.ref fB) = some (.type "function")
  gB : mg "BadAlphabet" = some (.ref B)
/-- what else stands of Alphabet: its class values -/
structure AlV (K : PySem.W.Frag) (mg : Str → Option Value) (C : Addr) (mc : Value) (tm tj tl : Tok) : Prop where
  gC : mg "Alphabet" = some (.ref C)
  gL : mg "SMALL_LETTERS" = some (.str (S azL) tl)
  rd : ClX.CRead K C mc
  most : ClX.CVal K C mc "MOST" (.int 4) (.int 4 tm)
  joint : ClX.CVal K C mc "JOINT" (.str "-") (.str "-" tj)
def spAl (C B : Addr) : Sp := fun vs H Q E => ∃ (a dx : Addr) (l v : List Nat), vs = [.ref a, .str (S l), .str (S v)] ∧ H a = some (.ins C dx []) ∧ l.length ≤ 1000 ∧ v.length ≤ 1000 ∧
  (dueT l v = "" → ∀ H', IsAl C H' a l v → Kp a H H' → Q .non H') ∧
  (dueT l v ≠ "" → ∀ d H', H d = none → H' d = some (.xd [("part", .str (dueT l v))]) → Kp a H H' → E (.ref B) (some d) H')
theorem kp_exc {H : Hp} {b dx : Addr} {o : HO} {e0 e1 e2 : HO} (ha : H b = none) (hd : (upd H b e0) dx = none) (hn : dx ≠ b) : Same H (upd (del (upd (upd (upd H b e0) dx e1) b e2) b) dx o) := fun c u e => by
  have h1 : c ≠ b := ne_of_none e ha
  have h2 : c ≠ dx := fun z => by
    subst z
    rw [upd_ne h1, e] at hd
    cases hd
  rw [upd_ne h2, del_ne h1, upd_ne h1, upd_ne h2, upd_ne h1]
  exact e
theorem Same.kp {H H' : Hp} (h : Same H H') (a : Addr) : Kp a H H' := fun c o _ e => h c o e
theorem len_of_sub : ∀ {v l : List Nat}, v.Nodup → (∀ c ∈ v, c ∈ l) → v.length ≤ l.length
  | [], l, _, _ => Nat.zero_le _
  | c :: v, l, hn, hs => by
    obtain ⟨h1, h2⟩ := List.nodup_cons.mp hn
    have hc : c ∈ l := hs c List.mem_cons_self
    have ih := len_of_sub (v := v) (l := l.erase c) h2 fun d hd => (List.mem_erase_of_ne (fun (z : d = c) => h1 (z ▸ hd))).mpr (hs d (List.mem_cons_of_mem _ hd))
    rw [List.length_erase_of_mem hc] at ih
    have := List.length_pos_of_mem hc
    rw [List.length_cons]
    omega
theorem differ_len {v l : List Nat} (h : Differ v l) : v.length ≤ l.length := len_of_sub h.1 h.2
theorem put2 (x y : V) : putF "vowels" y [("letters", x)] = ([("letters", x), ("vowels", y)] : List (Str × V)) := by
  show (if ("letters" : Str) = "vowels" then _ else (("letters" : Str), x) :: putF "vowels" y []) = _
  rw [if_neg (by decide +kernel)]
  rfl
theorem put3 (x y z : V) : putF "consonants" z [("letters", x), ("vowels", y)] = ([("letters", x), ("vowels", y), ("consonants", z)] : List (Str × V)) := by
  show (if ("letters" : Str) = "consonants" then _ else (("letters" : Str), x) :: (if ("vowels" : Str) = "consonants" then _ else (("vowels" : Str), y) :: putF "consonants" z [])) = _
  rw [if_neg (by decide +kernel), if_neg (by decide +kernel)]
  rfl
theorem put4 (x y z t : V) : putF "signs" t [("letters", x), ("vowels", y), ("consonants", z)] = ([("letters", x), ("vowels", y), ("consonants", z), ("signs", t)] : List (Str × V)) := by
  show (if ("letters" : Str) = "signs" then _ else (("letters" : Str), x) :: (if ("vowels" : Str) = "signs" then _ else (("vowels" : Str), y) :: (if ("consonants" : Str) = "signs" then _ else (("consonants" : Str), z) :: putF "signs" t []))) = _
  rw [if_neg (by decide +kernel), if_neg (by decide +kernel), if_neg (by decide +kernel)]
  rfl
theorem scAI : FnScope ["self", "letters", "vowels", "letter"] ["self", "letters", "vowels"] (defScope sAI) := ⟨rfl, rfl, rfl, by decide +kernel, rfl, by decide +kernel, by decide +kernel⟩
section
variable {P : Program} {w : World} {K : PySem.W.Frag} {mg : Str → Option Value} {base : Heap} {aDiff : Addr}
theorem ok_alph {f C B fB : Addr} {mc : Value} {tm tj tl : Tok} {fd fdD fdB : FuncData} (F : FunD K "__init__" "Alphabet.__init__" (defArgs sAI) (defBody sAI) (defScope sAI) [.str ""] [] f fd) (T : TxA K mg aDiff) (A : AlF K C) (AV : AlV K mg C mc tm tj tl) (BA : BaF P K mg B fB)
    (FDiff : Fun K "differ_within" "differ_within" sDiff aDiff fdD) (bDiff : Binds K fdD ["text", "allowed"] []) (GB : FnOk P w K mg base CX0 1 fB fdB ["self", "part"] (spBA B)) (bB : Binds K fdB ["self", "part"] []) :
    FnOk P w K mg base (L2.CX P w) 3 f fd ["self", "letters", "vowels"] (spAl C B) := by
  have GDiff : FnOk P w K mg base CX0 1 aDiff fdD ["text", "allowed"] spDiff := ok_diff FDiff T
  refine F.ok scAI (fun vs H Q E h => ?_) (fun cdv A0 outer s H vs Q E hr h => ?_)
  · obtain ⟨a, dx, l, v, rfl, _⟩ := h
    rfl
  · obtain ⟨a, dx, l, v, rfl, ha, hl, hv, kq, ke⟩ := h
    refine ⟨_, (pss_cons (ps_if (PW.pt (pw_or (pt_not (pt_chain op_le op_le pe_int (pe_callB call_len_str (by rfl) T.z_len (by decide +kernel) (pa_cons (pv 1) pa_nil)) (ClX.pe_cval (pe_glob (v := .ref C) (by rfl) AV.gC rfl)))) (pw_or1 (pt_not (pt_val (pe_call GDiff (hr.mono (by decide)) (by rfl) T.gDiff FDiff.kp bDiff .nil pass0 (pa_cons (pv 1) (pa_cons (pe_glob (v := .str (S azL)) (by rfl) AV.gL ⟨_, rfl⟩) pa_nil)))))))) (pss_one (ps_raise rfl (takes_of rfl rfl rfl rfl) (pmk_oex BA.ox BA.iC BA.tI GB (hr.mono (by decide)) bB .nil pass0 (by rfl) BA.gB (pa_cons pe_str pa_nil)))) pss_nil)
      (pss_cons (ps_if (pt_not (pt_val (pe_call GDiff (hr.mono (by decide)) (by rfl) T.gDiff FDiff.kp bDiff .nil pass0 (pa_cons (pv 2) (pa_cons (pv 1) pa_nil))))) (pss_one (ps_raise rfl (takes_of rfl rfl rfl rfl) (pmk_oex BA.ox BA.iC BA.tI GB (hr.mono (by decide)) bB .nil pass0 (by rfl) BA.gB (pa_cons pe_str pa_nil)))) pss_nil)
      (pss_cons (ps_fld (pv 0) (pe_join pe_str (pe_callB (cr_sortT rfl) (by rfl) T.z_sorted (by decide +kernel) (pa_cons (pv 1) pa_nil))) rfl)
      (pss_cons (ps_fld (pv 0) (pe_join pe_str (pe_callB (cr_sortT rfl) (by rfl) T.z_sorted (by decide +kernel) (pa_cons (pv 2) pa_nil))) rfl)
      (pss_cons (ps_fld (pv 0) (pe_join pe_str (pe_lc (own := [("letter", 3)]) (g := gName 3) (by rfl) scAI.nd (pi_str (pe_fld (pv 0) rfl)) (blkOk_by (own := [("letter", 3)]) (N := ["self", "letters", "vowels", "letter"]) (sc := defScope sAI) (by decide +kernel)) (fun _ _ _ _ _ => pg_name (i := 3) scAI.nd rfl (Or.inl rfl)) (fun _ _ _ _ _ => (pts_one (pt_cmpR op_notIn_sign (pv 3) (pv 2) rfl))) (fun _ _ _ _ _ => (pv 3)))) rfl)
      (pss_one (ps_fld (pv 0) (pe_op op_add_str (ClX.pe_cval (pe_glob (v := .ref C) (by rfl) AV.gC rfl)) (pe_fld (pv 0) rfl)) rfl))))))), ?_⟩
    have hll : (S l).length ≤ sizeLine := sz4 (by rw [S_len]; omega)
    -- what a raise leaves
    have rz : ∀ (z : Str) (H1 : Hp), z.length ≤ 100 → z ≠ "" → dueT l v = z → Same H H1 → ∀ b, H1 b = none → spBA B [.ref b, .str z] (upd H1 b (exo b B none)) (fun v H2 => v = .non ∧ ∃ (d : Addr) (fs : List (Str × V)), H2 b = some (exo b B (some d)) ∧ H2 d = some (exd d fs) ∧ H1 d = none ∧ E (.ref B) (some d) (upd (del H2 b) d (.xd fs))) (fun _ _ _ => False) := by
      intro z H1 hz hne hdue hs b hb
      refine ⟨b, z, rfl, hz, upd_same, fun d hd hn => ⟨rfl, d, [("part", .str z)], upd_same, ?_, ?_, ?_⟩⟩
      · rw [upd_ne hn, upd_same]
      · rw [upd_ne hn] at hd
        exact hd
      · have h0 : H d = none := by
          cases e : H d with
          | none => rfl
          | some u =>
            have q := hs _ _ e
            rw [upd_ne hn, q] at hd
            cases hd
        refine ke (by rw [hdue]; exact hne) d _ h0 ?_ (Same.kp (Same.trans hs (kp_exc hb hd hn)) a)
        rw [hdue]
        exact upd_same
    have rl : dueT l v = "letters" → ∀ H1, Same H H1 → ([V.str "letters"] : List V).length ≤ 1000 ∧ ∀ b, H1 b = none → spBA B [.ref b, .str "letters"] (upd H1 b (exo b B none)) (fun v H2 => v = .non ∧ ∃ (d : Addr) (fs : List (Str × V)), H2 b = some (exo b B (some d)) ∧ H2 d = some (exd d fs) ∧ H1 d = none ∧ E (.ref B) (some d) (upd (del H2 b) d (.xd fs))) (fun _ _ _ => False) :=
      fun hd H1 hs => ⟨by show 1 ≤ 1000; decide, rz "letters" H1 (by decide +kernel) (by decide +kernel) hd hs⟩
    have rv : dueT l v = "vowels" → ∀ H1, Same H H1 → ([V.str "vowels"] : List V).length ≤ 1000 ∧ ∀ b, H1 b = none → spBA B [.ref b, .str "vowels"] (upd H1 b (exo b B none)) (fun v H2 => v = .non ∧ ∃ (d : Addr) (fs : List (Str × V)), H2 b = some (exo b B (some d)) ∧ H2 d = some (exd d fs) ∧ H1 d = none ∧ E (.ref B) (some d) (upd (del H2 b) d (.xd fs))) (fun _ _ _ => False) :=
      fun hd H1 hs => ⟨by show 1 ≤ 1000; decide, rz "vowels" H1 (by decide +kernel) (by decide +kernel) hd hs⟩
    have dl : (l.length < 1 ∨ 4 < l.length ∨ ¬ Differ l azL) → dueT l v = "letters" := fun h => if_pos h
    refine ⟨_, rfl, _, rfl, hll, _, _, rfl, rfl, _, rfl, ite2 (fun h1 => ⟨C, mc, _, _, rfl, AV.rd, AV.most, _, _, rfl, rfl, _, rfl, ?_⟩) (fun h1 => ⟨_, rfl, iteT (iteT (rl (dl (.inl ?_)) H (Same.refl H)))⟩)⟩
    rotate_left
    · have : ¬ (1 : Int) ≤ ((S l).length : Int) := fun z => h1 (decide_eq_true z)
      rw [S_len] at this
      omega
    refine ite2 (fun h2 => iteT (rl (dl (.inr (.inl ?_))) H (Same.refl H))) (fun h2 => ?_)
    · have h3 : decide (((S l).length : Int) ≤ 4) = false := by
        cases e : decide (((S l).length : Int) ≤ 4) with
        | false => rfl
        | true =>
          have h2' : (!decide (((S l).length : Int) ≤ 4)) = true := h2
          rw [e] at h2'
          cases h2'
      have := of_decide_eq_false h3
      rw [S_len] at this
      omega
    have g1 : 1 ≤ l.length := by
      have := of_decide_eq_true h1
      rw [S_len] at this
      omega
    have g2 : l.length ≤ 4 := by
      have h3 : decide (((S l).length : Int) ≤ 4) = true := by
        cases e : decide (((S l).length : Int) ≤ 4) with
        | true => rfl
        | false => exact absurd (show (!decide (((S l).length : Int) ≤ 4)) = true by rw [e]; rfl) h2
      have := of_decide_eq_true h3
      rw [S_len] at this
      omega
    refine ⟨_, rfl, l, azL, rfl, by omega, fun H1 s1 => ⟨_, rfl, ite2 (fun h3 => rl (dl (.inr (.inr ?_))) H1 s1) (fun h3 => ?_)⟩⟩
    · intro z
      rw [decide_eq_true z] at h3
      cases h3
    have hDl : Differ l azL := Classical.byContradiction fun z => h3 (by rw [decide_eq_false z]; rfl)
    have hnl : ¬ (l.length < 1 ∨ 4 < l.length ∨ ¬ Differ l azL) := fun z => z.elim (fun z => by omega) fun z => z.elim (fun z => by omega) fun z => z hDl
    refine ⟨_, rfl, _, rfl, v, l, rfl, by omega, fun H2 s2' => ⟨_, rfl, ite2 (fun h4 => rv ?_ H2 (Same.trans s1 s2')) (fun h4 => ?_)⟩⟩
    · unfold dueT
      rw [if_neg hnl, if_pos ?_]
      intro z
      rw [decide_eq_true z] at h4
      cases h4
    have hDv : Differ v l := Classical.byContradiction fun z => h4 (by rw [decide_eq_false z]; rfl)
    have hdue : dueT l v = "" := by
      unfold dueT
      rw [if_neg hnl, if_neg (fun z => z hDv)]
    have hvl := differ_len hDv
    have s2 := Same.trans s1 s2'
    have ha2 := s2 _ _ ha
    -- letters
    refine ⟨⟨_, rfl⟩, _, rfl, S l, rfl, (by rw [S_len]; omega), fun ys p1 hp hs n1 => ?_⟩
    obtain ⟨b1, e1⟩ := joined (by omega) hp hs
    refine ⟨_, p1, ys, rfl, rfl, .inl (SqL.of upd_same), b1, ?_⟩
    rw [e1]
    have k3 := Same.kp (Same.trans s2 (upd_laid (o := .lst (ys.map V.str)) n1)) a
    have ha3 : (upd H2 p1 (.lst (ys.map V.str))) a = some (.ins C dx []) := upd_laid n1 _ _ ha2
    generalize upd H2 p1 (.lst (ys.map V.str)) = H3 at k3 ha3
    refine ⟨_, rfl, a, C, dx, [], rfl, ha3, A.cl, A.nL, (by show 0 < 1000; decide), ?_⟩
    have k4 := k3.trans (Kp.upd a H3 (.ins C dx (putF "letters" (.str (S (srtL l))) [])))
    have ha4 : (upd H3 a (.ins C dx (putF "letters" (.str (S (srtL l))) []))) a = some (.ins C dx [("letters", .str (S (srtL l)))]) := upd_same
    generalize upd H3 a (.ins C dx (putF "letters" (.str (S (srtL l))) [])) = H4 at k4 ha4
    -- vowels
    refine ⟨⟨_, rfl⟩, _, rfl, S v, rfl, (by rw [S_len]; omega), fun zs p2 hp2 hs2 n2 => ?_⟩
    obtain ⟨b2, e2⟩ := joined (by omega) hp2 hs2
    refine ⟨_, p2, zs, rfl, rfl, .inl (SqL.of upd_same), b2, ?_⟩
    rw [e2]
    have k5 := k4.trans (Same.kp (upd_laid (o := .lst (zs.map V.str)) n2) a)
    have ha5 : (upd H4 p2 (.lst (zs.map V.str))) a = some (.ins C dx [("letters", .str (S (srtL l)))]) := upd_laid n2 _ _ ha4
    generalize upd H4 p2 (.lst (zs.map V.str)) = H5 at k5 ha5
    refine ⟨_, rfl, a, C, dx, _, rfl, ha5, A.cl, A.nV, (by show 1 < 1000; decide), ?_⟩
    rw [put2]
    have k6 := k5.trans (Kp.upd a H5 (.ins C dx [("letters", .str (S (srtL l))), ("vowels", .str (S (srtL v)))]))
    have ha6 : (upd H5 a (.ins C dx [("letters", .str (S (srtL l))), ("vowels", .str (S (srtL v)))])) a = some (.ins C dx [("letters", .str (S (srtL l))), ("vowels", .str (S (srtL v)))]) := upd_same
    generalize upd H5 a (.ins C dx [("letters", .str (S (srtL l))), ("vowels", .str (S (srtL v)))]) = H6 at k6 ha6
    -- consonants
    have hk4 : (srtL l).length ≤ 4000 := by rw [srtL_len]; omega
    refine ⟨⟨_, rfl⟩, _, rfl, a, C, dx, _, _, rfl, ha6, A.cl, A.nL, rfl, _, rfl, fun D hD => lc_text (fun c => !decide (c ∈ v)) (fun c => V.str (S [c])) hk4 (fun _ => rfl) (fun c hc H3 Q3 _ q => ⟨_, rfl, _, rfl, c, S v, rfl, rfl, _, rfl, by rw [S_cps]; exact q⟩) (fun c hc _ H3 Q3 _ q => ⟨_, rfl, q⟩) ?_⟩
    have hc64 : (consL l v).length < 1000 := by
      have := List.length_filter_le (fun c => !decide (c ∈ v)) (srtL l)
      rw [srtL_len] at this
      unfold consL
      omega
    obtain ⟨b3, e3⟩ := joinedL hc64
    refine ⟨_, D, (consL l v).map fun c => S [c], rfl, rfl, .inl (SqL.of (by rw [List.map_map]; exact upd_same)), b3, ?_⟩
    rw [e3]
    have k7 := k6.trans (Same.kp (upd_laid (o := .lst (((srtL l).filter fun c => !decide (c ∈ v)).map fun c => V.str (S [c]))) hD) a)
    have ha7 := upd_laid (o := .lst (((srtL l).filter fun c => !decide (c ∈ v)).map fun c => V.str (S [c]))) hD _ _ ha6
    generalize upd H6 D (.lst (((srtL l).filter fun c => !decide (c ∈ v)).map fun c => V.str (S [c]))) = H7 at k7 ha7
    refine ⟨_, rfl, a, C, dx, _, rfl, ha7, A.cl, A.nC, (by show 2 < 1000; decide), ?_⟩
    rw [put3]
    have k8 := k7.trans (Kp.upd a H7 (.ins C dx [("letters", .str (S (srtL l))), ("vowels", .str (S (srtL v))), ("consonants", .str (S (consL l v)))]))
    have ha8 : (upd H7 a (.ins C dx [("letters", .str (S (srtL l))), ("vowels", .str (S (srtL v))), ("consonants", .str (S (consL l v)))])) a = some (.ins C dx [("letters", .str (S (srtL l))), ("vowels", .str (S (srtL v))), ("consonants", .str (S (consL l v)))]) := upd_same
    generalize upd H7 a (.ins C dx [("letters", .str (S (srtL l))), ("vowels", .str (S (srtL v))), ("consonants", .str (S (consL l v)))]) = H8 at k8 ha8
    -- signs
    refine ⟨C, mc, _, _, rfl, AV.rd, AV.joint, _, rfl, a, C, dx, _, _, rfl, ha8, A.cl, A.nL, rfl, _, _, rfl, rfl, ?_, _, rfl, a, C, dx, _, rfl, ha8, A.cl, A.nS, (by show 3 < 1000; decide), ?_⟩
    · refine sz4 ?_
      rw [S_len, srtL_len]
      have : (PySem.Str.ofString "-").length = 1 := by decide +kernel
      omega
    have e4 : PySem.Str.ofString "-" ++ S (srtL l) = S (45 :: srtL l) := by
      have : PySem.Str.ofString "-" = S [45] := by decide +kernel
      rw [this, S_app]
      rfl
    rw [e4, put4]
    exact kq hdue _ ⟨dx, upd_same⟩ (k8.trans (Kp.upd a H8 _))
end
end Vk
set_option Elab.async false
set_option linter.all false
set_option maxRecDepth 100000
set_option maxHeartbeats 8000000
namespace Vk
open PySem PySem.Spec PyProof.Rows L2
/-! the walk over a reading -/
open L2 in
local macro_rules | `(tactic| walk_at "lk") => `(tactic| (refine Fr.get (by assumption) (by first | assumption | (simp only [List.mem_cons, List.not_mem_nil, or_false, not_or]; first | assumption | (refine ⟨?_, ?_⟩ <;> assumption) | (apply Ne.symm; assumption))) ?_; walk_at "lk"))
local macro_rules | `(tactic| walk_at "lk") => `(tactic| (refine Same.get (by assumption) ?_; walk_at "lk"))
local macro_rules | `(tactic| walk_at "lk") => `(tactic| (refine upd_oth (by first | assumption | (apply Ne.symm; assumption)) ?_; walk_at "lk"))
local macro_rules | `(tactic| walk_at "lk") => `(tactic| (refine upd_old (by assumption) ?_; walk_at "lk"))
local macro_rules | `(tactic| walk_at "lk") => `(tactic| exact upd_same)
local macro_rules | `(tactic| walk_at "lk") => `(tactic| assumption)
local macro_rules | `(tactic| walk_at "len") => `(tactic| (simp only [S_len, sizeLine_eq, List.length_take, List.length_drop, List.length_append, List.length_cons, List.length_nil]; omega))
local macro_rules | `(tactic| walk_at "len") => `(tactic| (simp only [S_len, sizeLine_eq]; omega))
local macro_rules | `(tactic| walk_at "len") => `(tactic| (simp only [List.length_cons, List.length_nil, sizeLine_eq]; omega))
local macro_rules | `(tactic| walk_at "num") => `(tactic| first | assumption | omega | (simp only [List.length_take, List.length_drop, List.length_append, List.length_cons, List.length_nil]; omega))
local macro_rules | `(tactic| walk_at "ix") => `(tactic| first | exact rfl | assumption | exact atI_nat (by assumption))
local macro_rules | `(tactic| walk_at "putq") => `(tactic| exact rfl)
local macro_rules | `(tactic| walk_at "sq") => `(tactic| exact .inr (SqT.of (by walk_at "lk")))
local macro_rules | `(tactic| walk_at "sq") => `(tactic| exact .inl (SqL.of (by walk_at "lk")))
local macro_rules | `(tactic| walk_at "sq") => `(tactic| exact .inl (by assumption))
local macro_rules | `(tactic| walk_at "sq") => `(tactic| exact .inr (by assumption))
local macro_rules | `(tactic| walk_at "mapq") => `(tactic| exact (rfl : _ = List.map (fun l => V.str (S l)) [_, _, _, _, _]))
local macro_rules | `(tactic| walk_at "mapq") => `(tactic| exact (rfl : _ = List.map (fun l => V.str (S l)) [_, _, _, _]))
local macro_rules | `(tactic| walk_at "mapq") => `(tactic| exact (rfl : _ = List.map (fun l => V.str (S l)) [_, _, _]))
local macro_rules | `(tactic| walk_at "mapq") => `(tactic| exact (rfl : _ = List.map (fun l => V.str (S l)) [_, _]))
local macro_rules | `(tactic| walk_at "mapq") => `(tactic| exact (rfl : _ = List.map (fun l => V.str (S l)) [_]))
local macro_rules | `(tactic| walk_at "mapq") => `(tactic| exact rfl)
local macro_rules | `(tactic| walk_at "setq") => `(tactic| ((try simp only [Int.reduceToNat, List.set_cons_succ, List.set_cons_zero]); exact rfl))
local macro_rules | `(tactic| walk_at "toN") => `(tactic| first | exact rfl | exact (Int.natCast_add _ _).symm | exact (Int.natCast_add _ 1).symm)
local macro_rules | `(tactic| walk_at "cond") => `(tactic| first | omega | (simp only [List.length_map]; omega) | (refine Or.inl ⟨?_, ?_⟩ <;> omega) | (refine Or.inr ⟨?_, ?_⟩ <;> omega) | (refine ⟨?_, ?_⟩ <;> omega))
local macro_rules | `(tactic| walk_at "side") => `(tactic| omega)
local macro_rules | `(tactic| walk_at "side") => `(tactic| (walk_at "len"))
local macro_rules | `(tactic| walk_at "side") => `(tactic| exact ⟨_, by assumption⟩)
local macro_rules | `(tactic| walk_at "side") => `(tactic| exact ⟨_, SqL.of (by walk_at "lk")⟩)
local macro_rules | `(tactic| walk_at "side") => `(tactic| exact ⟨_, rfl⟩)
local macro_rules | `(tactic| walk_at "side") => `(tactic| exact .inl ⟨rfl, _, SqL.of (by walk_at "lk")⟩)
local macro_rules | `(tactic| walk_at "side") => `(tactic| exact .inr (SqT.of (by walk_at "lk")))
local macro_rules | `(tactic| walk_at "side") => `(tactic| exact .inl (SqL.of (by walk_at "lk")))
local macro_rules | `(tactic| walk_at "side") => `(tactic| exact SqT.of (by walk_at "lk"))
local macro_rules | `(tactic| walk_at "side") => `(tactic| exact SqL.of (by walk_at "lk"))
local macro_rules | `(tactic| walk_at "side") => `(tactic| (walk_at "lk"))
local macro_rules | `(tactic| walk_at "side") => `(tactic| rfl)
local macro_rules | `(tactic| walk_at "go1") => `(tactic| ((with_reducible apply Or.inr); (with_reducible apply Exists.intro); (with_reducible apply And.intro); exact rfl))
local macro_rules | `(tactic| walk_at "go1") => `(tactic| ((with_reducible apply Or.inl); (with_reducible apply Exists.intro); (with_reducible apply And.intro); exact rfl))
local macro_rules | `(tactic| walk_at "go1") => `(tactic| ((with_reducible apply And.intro); walk_at "side"))
local macro_rules | `(tactic| walk_at "go1") => `(tactic| ((with_reducible apply And.intro); exact rfl))
local macro_rules | `(tactic| walk_at "go1") => `(tactic| (with_reducible apply Exists.intro))
local macro_rules | `(tactic| walk_at "go1") => `(tactic| (walk_at "proj"))
local macro_rules | `(tactic| walk_at "go1") => `(tactic| ((with_reducible apply eSFld); (walk_at "lk"); assumption; assumption; (simp only [List.length_cons, List.length_nil]; decide); (walk_at "putq")))
local macro_rules | `(tactic| walk_at "go1") => `(tactic| (with_reducible refine iNFF ?_))
local macro_rules | `(tactic| walk_at "go1") => `(tactic| (with_reducible refine iNTT ?_))
local macro_rules | `(tactic| walk_at "go1") => `(tactic| (with_reducible refine iFF ?_))
local macro_rules | `(tactic| walk_at "go1") => `(tactic| (with_reducible refine iTT ?_))
local macro_rules | `(tactic| walk_at "go1") => `(tactic| ((with_reducible apply iListT); (walk_at "num")))
local macro_rules | `(tactic| walk_at "go1") => `(tactic| ((with_reducible apply iTruL); (first | assumption | exact SqL.of (by walk_at "lk"))))
local macro_rules | `(tactic| walk_at "go1") => `(tactic| ((with_reducible apply iTruCons); exact SqL.of (by walk_at "lk")))
local macro_rules | `(tactic| walk_at "go1") => `(tactic| ((with_reducible apply iTruNil); exact SqL.of (by walk_at "lk")))
local macro_rules | `(tactic| walk_at "go1") => `(tactic| ((with_reducible apply iAppend); (walk_at "lk"); (walk_at "len")))
local macro_rules | `(tactic| walk_at "go1") => `(tactic| ((with_reducible apply iCat); (walk_at "lk"); (walk_at "lk"); (walk_at "len")))
local macro_rules | `(tactic| walk_at "go1") => `(tactic| ((with_reducible apply iSlL); (first | assumption | exact SqL.of (by walk_at "lk"))))
local macro_rules | `(tactic| walk_at "go1") => `(tactic| (with_reducible refine iYes ?_))
local macro_rules | `(tactic| walk_at "go1") => `(tactic| (with_reducible refine iForR2 ?_))
local macro_rules | `(tactic| walk_at "go1") => `(tactic| (with_reducible refine iForR1 ?_))
local macro_rules | `(tactic| walk_at "go1") => `(tactic| (with_reducible refine iForS ?_))
local macro_rules | `(tactic| walk_at "go1") => `(tactic| (with_reducible refine iForL ?_))
local macro_rules | `(tactic| walk_at "go1") => `(tactic| (with_reducible refine iLcR1 ?_))
local macro_rules | `(tactic| walk_at "go1") => `(tactic| (with_reducible refine iLcS ?_))
local macro_rules | `(tactic| walk_at "go1") => `(tactic| (with_reducible refine iLcL ?_))
local macro_rules | `(tactic| walk_at "go1") => `(tactic| ((with_reducible apply iNInL); (walk_at "sq"); (walk_at "mapq")))
local macro_rules | `(tactic| walk_at "go1") => `(tactic| ((with_reducible apply iInL); (walk_at "sq"); (walk_at "mapq")))
local macro_rules | `(tactic| walk_at "go1") => `(tactic| (with_reducible refine iWF ?_))
local macro_rules | `(tactic| walk_at "go1") => `(tactic| (with_reducible refine iWT ?_))
local macro_rules | `(tactic| walk_at "go1") => `(tactic| (with_reducible refine iMeth ?_))
local macro_rules | `(tactic| walk_at "go1") => `(tactic| (with_reducible refine iMeth0 ?_))
local macro_rules | `(tactic| walk_at "go1") => `(tactic| (with_reducible refine iProp ?_))
local macro_rules | `(tactic| walk_at "go1") => `(tactic| (with_reducible refine iCon ?_))
local macro_rules | `(tactic| walk_at "go1") => `(tactic| (with_reducible refine iSFld ?_))
local macro_rules | `(tactic| walk_at "go1") => `(tactic| (with_reducible refine iFld ?_))
local macro_rules | `(tactic| walk_at "go1") => `(tactic| (with_reducible refine isi_bl_str ?_))
local macro_rules | `(tactic| walk_at "go1") => `(tactic| (with_reducible refine isi_bl_int ?_))
local macro_rules | `(tactic| walk_at "go1") => `(tactic| (with_reducible refine isi_bl_bool ?_))
local macro_rules | `(tactic| walk_at "go1") => `(tactic| (with_reducible refine isi_str_bool ?_))
local macro_rules | `(tactic| walk_at "go1") => `(tactic| (with_reducible refine isi_str_int ?_))
local macro_rules | `(tactic| walk_at "go1") => `(tactic| (with_reducible refine isi_str_str ?_))
local macro_rules | `(tactic| walk_at "go1") => `(tactic| (with_reducible refine isi_int_str ?_))
local macro_rules | `(tactic| walk_at "go1") => `(tactic| (with_reducible refine isi_int_bool ?_))
local macro_rules | `(tactic| walk_at "go1") => `(tactic| (with_reducible refine isi_int_int ?_))
local macro_rules | `(tactic| walk_at "go1") => `(tactic| (with_reducible refine iLst ?_))
local macro_rules | `(tactic| walk_at "go1") => `(tactic| (with_reducible refine iTup ?_))
local macro_rules | `(tactic| walk_at "go1") => `(tactic| (with_reducible refine iPart ?_))
local macro_rules | `(tactic| walk_at "go1") => `(tactic| (with_reducible refine iNoPart ?_))
local macro_rules | `(tactic| walk_at "go1") => `(tactic| ((with_reducible apply iSetL); (walk_at "lk"); exact rfl; (walk_at "setq")))
local macro_rules | `(tactic| walk_at "go1") => `(tactic| ((with_reducible apply iPartS); walk_at "num"))
local macro_rules | `(tactic| walk_at "go1") => `(tactic| (with_reducible refine iStartS ?_))
local macro_rules | `(tactic| walk_at "go1") => `(tactic| (with_reducible refine iFindS ?_))
local macro_rules | `(tactic| walk_at "go1") => `(tactic| ((with_reducible apply iFindNo); assumption))
local macro_rules | `(tactic| walk_at "go1") => `(tactic| ((with_reducible apply iFindYes); assumption))
local macro_rules | `(tactic| walk_at "go1") => `(tactic| (with_reducible refine iNotInS ?_))
local macro_rules | `(tactic| walk_at "go1") => `(tactic| (with_reducible refine iInS ?_))
local macro_rules | `(tactic| walk_at "go1") => `(tactic| ((with_reducible apply iLenS1); walk_at "num"))
local macro_rules | `(tactic| walk_at "go1") => `(tactic| ((with_reducible apply iAddS); walk_at "num"))
local macro_rules | `(tactic| walk_at "go1") => `(tactic| ((with_reducible apply iSlS); walk_at "num"))
local macro_rules | `(tactic| walk_at "go1") => `(tactic| ((with_reducible apply iSlMid); walk_at "num"; walk_at "toN"; walk_at "toN"))
local macro_rules | `(tactic| walk_at "go1") => `(tactic| ((with_reducible apply iSlFrom); walk_at "num"; walk_at "toN"))
local macro_rules | `(tactic| walk_at "go1") => `(tactic| ((with_reducible apply iSlTo); walk_at "num"; walk_at "toN"))
local macro_rules | `(tactic| walk_at "go1") => `(tactic| ((with_reducible apply iIxS); walk_at "num"; walk_at "ix"))
local macro_rules | `(tactic| walk_at "go1") => `(tactic| ((with_reducible apply iIxT); exact SqT.of (by walk_at "lk"); walk_at "ix"))
local macro_rules | `(tactic| walk_at "go1") => `(tactic| ((with_reducible apply iIxL); exact SqL.of (by walk_at "lk"); walk_at "ix"))
local macro_rules | `(tactic| walk_at "go1") => `(tactic| (with_reducible refine iSl ?_))
local macro_rules | `(tactic| walk_at "go1") => `(tactic| (with_reducible refine iBM ?_))
local macro_rules | `(tactic| walk_at "go1") => `(tactic| (with_reducible refine iM1 ?_))
local macro_rules | `(tactic| walk_at "go1") => `(tactic| ((with_reducible apply iI); walk_at "cond"))
local macro_rules | `(tactic| walk_at "go1") => `(tactic| ((with_reducible apply iNe); exact rfl))
local macro_rules | `(tactic| walk_at "go1") => `(tactic| ((with_reducible apply iEq); exact rfl))
local macro_rules | `(tactic| walk_at "go1") => `(tactic| (with_reducible refine iNext ?_))
local macro_rules | `(tactic| walk_at "go1") => `(tactic| (with_reducible refine iDrop ?_))
local macro_rules | `(tactic| walk_at "go1") => `(tactic| (with_reducible refine iRetN ?_))
local macro_rules | `(tactic| walk_at "go1") => `(tactic| (with_reducible refine iRet ?_))
local macro_rules | `(tactic| walk_at "go1") => `(tactic| (with_reducible refine iIfE ?_))
local macro_rules | `(tactic| walk_at "go1") => `(tactic| (with_reducible refine iNotV ?_))
local macro_rules | `(tactic| walk_at "go1") => `(tactic| (with_reducible refine iOrV ?_))
local macro_rules | `(tactic| walk_at "go1") => `(tactic| (with_reducible refine iAndV ?_))
local macro_rules | `(tactic| walk_at "go1") => `(tactic| (with_reducible refine iNot ?_))
local macro_rules | `(tactic| walk_at "go1") => `(tactic| (with_reducible refine iOr ?_))
local macro_rules | `(tactic| walk_at "go1") => `(tactic| (with_reducible refine iAnd ?_))
local macro_rules | `(tactic| walk_at "go1") => `(tactic| (with_reducible refine iTest ?_))
local macro_rules | `(tactic| walk_at "go1") => `(tactic| (with_reducible refine iB ?_))
local macro_rules | `(tactic| walk_at "go1") => `(tactic| (with_reducible refine iIfS ?_))
local macro_rules | `(tactic| walk_at "go1") => `(tactic| (with_reducible refine iUn ?_))
local macro_rules | `(tactic| walk_at "go1") => `(tactic| (with_reducible refine iU ?_))
local macro_rules | `(tactic| walk_at "go1") => `(tactic| (with_reducible refine iI0 ?_))
local macro_rules | `(tactic| walk_at "go1") => `(tactic| (with_reducible refine iCall ?_))
local macro_rules | `(tactic| walk_at "go1") => `(tactic| (with_reducible refine iCall0 ?_))
local macro_rules | `(tactic| walk_at "go1") => `(tactic| (with_reducible refine iCB ?_))
local macro_rules | `(tactic| walk_at "go1") => `(tactic| (with_reducible refine iNil ?_))
local macro_rules | `(tactic| walk_at "go1") => `(tactic| (with_reducible refine iCons ?_))
local macro_rules | `(tactic| walk_at "go1") => `(tactic| (with_reducible refine iSub ?_))
local macro_rules | `(tactic| walk_at "go1") => `(tactic| (with_reducible refine iName ?_))
local macro_rules | `(tactic| walk_at "go1") => `(tactic| (with_reducible refine iAsg ?_))
local macro_rules | `(tactic| walk_at "go1") => `(tactic| (with_reducible refine iOp ?_))
local macro_rules | `(tactic| walk_at "go1") => `(tactic| (with_reducible refine iC ?_))
local macro_rules | `(tactic| walk_at "go1") => `(tactic| ((with_reducible apply iVar); exact rfl))
local macro_rules | `(tactic| walk_at "go1") => `(tactic| (with_reducible refine iSeq ?_))
local macro_rules | `(tactic| walk_at "fr") => `(tactic| (refine Fr.trans ?_ (Fr.wk (Fr.wk (by assumption))); walk_at "fr"))
local macro_rules | `(tactic| walk_at "fr") => `(tactic| (refine Fr.trans ?_ (Fr.wk1 (by assumption)); walk_at "fr"))
local macro_rules | `(tactic| walk_at "fr") => `(tactic| (refine Fr.trans ?_ (Fr.wk (by assumption)); walk_at "fr"))
local macro_rules | `(tactic| walk_at "fr") => `(tactic| (refine Fr.trans ?_ (by assumption); walk_at "fr"))
local macro_rules | `(tactic| walk_at "fr") => `(tactic| (refine Fr.trans ?_ (Fr.of_same (by assumption)); walk_at "fr"))
local macro_rules | `(tactic| walk_at "fr") => `(tactic| (refine Fr.trans ?_ (Fr.upd_new (by assumption)); walk_at "fr"))
local macro_rules | `(tactic| walk_at "fr") => `(tactic| (refine Fr.trans ?_ Fr.in2; walk_at "fr"))
local macro_rules | `(tactic| walk_at "fr") => `(tactic| (refine Fr.trans ?_ Fr.in1; walk_at "fr"))
local macro_rules | `(tactic| walk_at "fr") => `(tactic| (refine Fr.trans ?_ Fr.in0; walk_at "fr"))
local macro_rules | `(tactic| walk_at "fr") => `(tactic| assumption)
local macro_rules | `(tactic| walk_at "fr") => `(tactic| exact Fr.refl _ _)
local macro_rules | `(tactic| walk_at "proj") => `(tactic| (with_reducible refine (show (Ends.mk _ _ _ _).rt _ _ from ?_); dsimp only))
local macro_rules | `(tactic| walk_at "proj") => `(tactic| (with_reducible refine (show (Ends.mk _ _ _ _).nx _ _ from ?_); dsimp only))
local macro_rules | `(tactic| walk_at "br0") => `(tactic| (with_reducible apply iWDN))
local macro_rules | `(tactic| walk_at "br0") => `(tactic| (with_reducible apply iWD))
local macro_rules | `(tactic| walk_at "br0") => `(tactic| (with_reducible apply iBbn))
local macro_rules | `(tactic| walk_at "br0") => `(tactic| (with_reducible apply iBb))
local macro_rules | `(tactic| walk_at "br0") => `(tactic| (with_reducible apply iBnd))
local macro_rules | `(tactic| walk_at "br0") => `(tactic| (with_reducible apply iBd))
local macro_rules | `(tactic| walk_at "dead") => `(tactic| first | (exfalso; omega) | contradiction)
local macro_rules | `(tactic| walk_at "br") => `(tactic| (walk_at "br0" <;> (intro hbr; (try simp only [V.str.injEq, V.int.injEq, V.bl.injEq, Vk.S_inj, reduceCtorEq, List.cons.injEq, and_true, not_true_eq_false, not_false_eq_true, decide_eq_true_eq, decide_eq_false_iff_not, Nat.reduceEqDiff, List.length_cons, List.length_nil, and_false, false_and, eq_self] at hbr); (try walk_at "dead"))))
local macro_rules | `(tactic| walk_at "new") => `(tactic| (refine fun (p : Addr) (hp : _ = none) => ?_))
local macro_rules | `(tactic| walk_at "go") => `(tactic| repeat' (first | walk_at "go1" | walk_at "br" | walk_at "new" | (refine fun (y z : V) => ?_)))
section
set_option Elab.async false
set_option linter.all false
set_option maxRecDepth 100000
set_option maxHeartbeats 4000000
open PySem PySem.Spec PyProof.Rows L2

local macro_rules | `(tactic| walk_at "side") => `(tactic| exact .inl (by assumption))
theorem _root_.L2.PE.imp {X : Cx} {e : Expr} {t t' : TE} (h : PE X e t) (k : ∀ σ H Q, t' σ H Q → t σ H Q) : PE X e t' := ⟨fun pins s σ H Q I q => h.run pins s σ H Q I (k σ H Q q)⟩
theorem _root_.L2.PS.imp {X : Cx} {st : Stmt} {t t' : TS} (h : PS X st t) (k : ∀ D σ H, t' D σ H → t D σ H) : PS X st t' := ⟨fun pins s σ H D I q => h.run pins s σ H D I (k D σ H q)⟩
theorem _root_.L2.Room.unitu {k : Nat} {A : Around} (r : Room (k + 1) A) : A.units + 65 < cLine := by have := r.un; omega
theorem passE {X : Cx} {P : Program} {w : World} : Passes (L2.CX P w) X (fun _ _ _ => False) := fun _ _ _ _ _ _ _ h => by
  obtain ⟨_, _, _, _, _, _, _, _, _, _, _, _, z⟩ := h
  exact z.elim
/-- a field, K named: inside a comprehension -/
theorem pe_fldK {X : Cx} {K : PySem.W.Frag} {e : Expr} {f : Str} {pos : Pos} {ta : TE} (hK : X.K = K) (he : PE X e ta) (hb : attributeBase e f X.env (eval e X.env) = eval e X.env) : PE X (.Attribute e f pos) (tFld K ta f) := hK ▸ pe_fld he hb
/-- an error class and its own __init__ -/
structure EF (K : PySem.W.Frag) (mg : Str → Option Value) (N : Str) (B fB : Addr) (fd : FuncData) (ps : List Str) : Prop where
  ox : OexC K B
  iC : PySem.W.findIn K (.ref B) "__init__" = some (some (.ref fB))
  tI : PySem.W.typeIn K (.ref fB) = some (.type "function")
  gB : mg N = some (.ref B)
  bB : Binds K fd ps []
structure Ad where
  aDiff : Addr
  aAlEq : Addr
  aIsSign : Addr
  aAsc : Addr
  aPIsEntry : Addr
  aTInit : Addr
  aTId : Addr
  aTFull : Addr
  aTEmp : Addr
  aTRead : Addr
  aTTotal : Addr
  aTExact : Addr
  aTGet : Addr
  aTIn : Addr
  aTLen : Addr
  aTBool : Addr
  aTStr : Addr
  aTEq : Addr
  aTPairs : Addr
  aBag : Addr
  aTake : Addr
  aNames : Addr
  aSigns : Addr
  aInteger : Addr
  aPairs : Addr
  aOuts : Addr
  aTruth : Addr
  aWritten : Addr
  aIs : Addr
  aStrange : Addr
  aNoSign : Addr
  aNoPairs : Addr
  aBadPair : Addr
  aNamed : Addr
  aChanged : Addr
  aRight : Addr
  aIndex : Addr
  aReads : Addr
  aLaw : Addr
  cAlphabet : Addr
  cTable : Addr
  pTotal : Addr
  pExact : Addr
  pTId : Addr
  pTFull : Addr
  pTEmp : Addr
  pTRead : Addr
  cTale : Addr
  cUnk : Addr
  cBadPair : Addr
  cBadEntry : Addr
  eBadPair : Addr
  eUnk : Addr
  eBadEntry : Addr
  tJoint : Tok
structure Fd where
  dDiff : FuncData
  dAlEq : FuncData
  dIsSign : FuncData
  dAsc : FuncData
  dPIsEntry : FuncData
  dTInit : FuncData
  dTId : FuncData
  dTFull : FuncData
  dTEmp : FuncData
  dTRead : FuncData
  dTTotal : FuncData
  dTExact : FuncData
  dTGet : FuncData
  dTIn : FuncData
  dTLen : FuncData
  dTBool : FuncData
  dTStr : FuncData
  dTEq : FuncData
  dTPairs : FuncData
  dBag : FuncData
  dTake : FuncData
  dNames : FuncData
  dSigns : FuncData
  dInteger : FuncData
  dPairs : FuncData
  dOuts : FuncData
  dTruth : FuncData
  dWritten : FuncData
  dIs : FuncData
  dStrange : FuncData
  dNoSign : FuncData
  dNoPairs : FuncData
  dBadPair : FuncData
  dNamed : FuncData
  dChanged : FuncData
  dRight : FuncData
  dIndex : FuncData
  dReads : FuncData
  dLaw : FuncData
  eBadPair : FuncData
  eUnk : FuncData
  eBadEntry : FuncData
abbrev sAlEq : Stmt := inClass (top 10) 3
abbrev sIsSign : Stmt := inClass (top 10) 6
abbrev sAsc : Stmt := inClass (top 10) 5
abbrev sPIsEntry : Stmt := top 16
abbrev sTInit : Stmt := inClass (top 15) 0
abbrev sTId : Stmt := inClass (top 15) 1
abbrev sTFull : Stmt := inClass (top 15) 2
abbrev sTEmp : Stmt := inClass (top 15) 3
abbrev sTRead : Stmt := inClass (top 15) 4
abbrev sTTotal : Stmt := inClass (top 15) 5
abbrev sTExact : Stmt := inClass (top 15) 6
abbrev sTGet : Stmt := inClass (top 15) 7
abbrev sTIn : Stmt := inClass (top 15) 9
abbrev sTLen : Stmt := inClass (top 15) 10
abbrev sTBool : Stmt := inClass (top 15) 11
abbrev sTStr : Stmt := inClass (top 15) 12
abbrev sTEq : Stmt := inClass (top 15) 13
abbrev sTPairs : Stmt := inClass (top 15) 18
abbrev sBag : Stmt := top 18
abbrev sTake : Stmt := top 19
abbrev sNames : Stmt := top 20
abbrev sSigns : Stmt := top 21
abbrev sInteger : Stmt := top 22
abbrev sPairs : Stmt := top 23
abbrev sOuts : Stmt := top 24
abbrev sTruth : Stmt := top 25
abbrev sWritten : Stmt := top 26
abbrev sIs : Stmt := top 27
abbrev sStrange : Stmt := top 28
abbrev sNoSign : Stmt := top 29
abbrev sNoPairs : Stmt := top 30
abbrev sBadPair : Stmt := top 31
abbrev sNamed : Stmt := top 32
abbrev sChanged : Stmt := top 33
abbrev sRight : Stmt := top 34
abbrev sIndex : Stmt := top 35
abbrev sReads : Stmt := top 36
abbrev sLaw : Stmt := top 37
structure Fns (K : PySem.W.Frag) (mg : Str → Option Value) (a : Ad) (d : Fd) : Prop extends TxA K mg a.aDiff where
  FDiff : Fun K "differ_within" "differ_within" sDiff a.aDiff d.dDiff
  bDiff : Binds K d.dDiff ["text", "allowed"] []
  mAlEq : Meth K a.cAlphabet "__eq__" a.aAlEq
  FAlEq : Fun K "__eq__" "Alphabet.__eq__" sAlEq a.aAlEq d.dAlEq
  bAlEq : Binds K d.dAlEq ["self", "other"] []
  mIsSign : Meth K a.cAlphabet "is_sign" a.aIsSign
  FIsSign : Fun K "is_sign" "Alphabet.is_sign" sIsSign a.aIsSign d.dIsSign
  bIsSign : Binds K d.dIsSign ["self", "text"] []
  mAsc : Meth K a.cAlphabet "are_ascending" a.aAsc
  FAsc : Fun K "are_ascending" "Alphabet.are_ascending" sAsc a.aAsc d.dAsc
  bAsc : Binds K d.dAsc ["self", "text"] []
  gPIsEntry : mg "is_entry" = some (.ref a.aPIsEntry)
  FPIsEntry : Fun K "is_entry" "is_entry" sPIsEntry a.aPIsEntry d.dPIsEntry
  bPIsEntry : Binds K d.dPIsEntry ["alphabet", "sign", "entry"] []
  mTInit : Meth K a.cTable "__init__" a.aTInit
  FTInit : Fun K "__init__" "Table.__init__" sTInit a.aTInit d.dTInit
  bTInit : Binds K d.dTInit ["self", "alphabet", "pairs"] []
  FTId : Fun K "identity" "Table.identity" sTId a.aTId d.dTId
  bTId : Binds K d.dTId ["cls", "alphabet"] []
  FTFull : Fun K "full" "Table.full" sTFull a.aTFull d.dTFull
  bTFull : Binds K d.dTFull ["cls", "alphabet"] []
  FTEmp : Fun K "empty" "Table.empty" sTEmp a.aTEmp d.dTEmp
  bTEmp : Binds K d.dTEmp ["cls", "alphabet"] []
  FTRead : Fun K "read" "Table.read" sTRead a.aTRead d.dTRead
  bTRead : Binds K d.dTRead ["cls", "alphabet", "written"] []
  FTTotal : Fun K "total" "Table.total" sTTotal a.aTTotal d.dTTotal
  bTTotal : Binds K d.dTTotal ["self"] []
  FTExact : Fun K "exact" "Table.exact" sTExact a.aTExact d.dTExact
  bTExact : Binds K d.dTExact ["self"] []
  mTGet : Meth K a.cTable "__getitem__" a.aTGet
  FTGet : Fun K "__getitem__" "Table.__getitem__" sTGet a.aTGet d.dTGet
  bTGet : Binds K d.dTGet ["self", "sign"] []
  mTIn : Meth K a.cTable "__contains__" a.aTIn
  FTIn : Fun K "__contains__" "Table.__contains__" sTIn a.aTIn d.dTIn
  bTIn : Binds K d.dTIn ["self", "pair"] []
  mTLen : Meth K a.cTable "__len__" a.aTLen
  FTLen : Fun K "__len__" "Table.__len__" sTLen a.aTLen d.dTLen
  bTLen : Binds K d.dTLen ["self"] []
  mTBool : Meth K a.cTable "__bool__" a.aTBool
  FTBool : Fun K "__bool__" "Table.__bool__" sTBool a.aTBool d.dTBool
  bTBool : Binds K d.dTBool ["self"] []
  mTStr : Meth K a.cTable "__str__" a.aTStr
  FTStr : Fun K "__str__" "Table.__str__" sTStr a.aTStr d.dTStr
  bTStr : Binds K d.dTStr ["self"] []
  mTEq : Meth K a.cTable "__eq__" a.aTEq
  FTEq : Fun K "__eq__" "Table.__eq__" sTEq a.aTEq d.dTEq
  bTEq : Binds K d.dTEq ["self", "other"] []
  mTPairs : Meth K a.cTable "pairs" a.aTPairs
  FTPairs : Fun K "pairs" "Table.pairs" sTPairs a.aTPairs d.dTPairs
  bTPairs : Binds K d.dTPairs ["self"] []
  gBag : mg "_law_bag" = some (.ref a.aBag)
  FBag : Fun K "_law_bag" "_law_bag" sBag a.aBag d.dBag
  bBag : Binds K d.dBag ["_law_script"] []
  gTake : mg "_law_take" = some (.ref a.aTake)
  FTake : Fun K "_law_take" "_law_take" sTake a.aTake d.dTake
  bTake : Binds K d.dTake ["_law_bag_here", "_law_size"] []
  gNames : mg "_law_names" = some (.ref a.aNames)
  FNames : Fun K "_law_names" "_law_names" sNames a.aNames d.dNames
  bNames : Binds K d.dNames ["_law_bag_here", "_law_count"] []
  gSigns : mg "_law_signs" = some (.ref a.aSigns)
  FSigns : Fun K "_law_signs" "_law_signs" sSigns a.aSigns d.dSigns
  bSigns : Binds K d.dSigns ["_law_letters"] []
  gInteger : mg "_law_integer" = some (.ref a.aInteger)
  FInteger : Fun K "_law_integer" "_law_integer" sInteger a.aInteger d.dInteger
  bInteger : Binds K d.dInteger ["_law_told"] []
  gPairs : mg "_law_pairs" = some (.ref a.aPairs)
  FPairs : Fun K "_law_pairs" "_law_pairs" sPairs a.aPairs d.dPairs
  bPairs : Binds K d.dPairs ["_law_bag_here", "_law_signs_here", "_law_count"] []
  gOuts : mg "_law_outs" = some (.ref a.aOuts)
  FOuts : Fun K "_law_outs" "_law_outs" sOuts a.aOuts d.dOuts
  bOuts : Binds K d.dOuts ["_law_signs_here", "_law_pairs_here"] []
  gTruth : mg "_law_truth" = some (.ref a.aTruth)
  FTruth : Fun K "_law_truth" "_law_truth" sTruth a.aTruth d.dTruth
  bTruth : Binds K d.dTruth ["_law_told", "_law_due"] []
  gWritten : mg "_law_written" = some (.ref a.aWritten)
  FWritten : Fun K "_law_written" "_law_written" sWritten a.aWritten d.dWritten
  bWritten : Binds K d.dWritten ["_law_signs_here", "_law_outs_here"] []
  gIs : mg "_law_is" = some (.ref a.aIs)
  FIs : Fun K "_law_is" "_law_is" sIs a.aIs d.dIs
  bIs : Binds K d.dIs ["_law_table", "_law_signs_here", "_law_outs_here"] []
  gStrange : mg "_law_strange" = some (.ref a.aStrange)
  FStrange : Fun K "_law_strange" "_law_strange" sStrange a.aStrange d.dStrange
  bStrange : Binds K d.dStrange ["_law_bag_here", "_law_signs_here"] []
  gNoSign : mg "_law_no_sign" = some (.ref a.aNoSign)
  FNoSign : Fun K "_law_no_sign" "_law_no_sign" sNoSign a.aNoSign d.dNoSign
  bNoSign : Binds K d.dNoSign ["_law_table", "_law_strange_here"] []
  gNoPairs : mg "_law_no_pairs" = some (.ref a.aNoPairs)
  FNoPairs : Fun K "_law_no_pairs" "_law_no_pairs" sNoPairs a.aNoPairs d.dNoPairs
  bNoPairs : Binds K d.dNoPairs ["_law_table", "_law_signs_here", "_law_strange_here"] []
  gBadPair : mg "_law_bad_pair" = some (.ref a.aBadPair)
  FBadPair : Fun K "_law_bad_pair" "_law_bad_pair" sBadPair a.aBadPair d.dBadPair
  bBadPair : Binds K d.dBadPair ["_law_bag_here", "_law_alphabet", "_law_signs_here", "_law_pairs_here"] []
  gNamed : mg "_law_named" = some (.ref a.aNamed)
  FNamed : Fun K "_law_named" "_law_named" sNamed a.aNamed d.dNamed
  bNamed : Binds K d.dNamed ["_law_alphabet", "_law_signs_here"] []
  gChanged : mg "_law_changed" = some (.ref a.aChanged)
  FChanged : Fun K "_law_changed" "_law_changed" sChanged a.aChanged d.dChanged
  bChanged : Binds K d.dChanged ["_law_bag_here", "_law_change", "_law_entries", "_law_signs_here"] []
  gRight : mg "_law_right" = some (.ref a.aRight)
  FRight : Fun K "_law_right" "_law_right" sRight a.aRight d.dRight
  bRight : Binds K d.dRight ["_law_entry", "_law_sign", "_law_signs_here"] []
  gIndex : mg "_law_index" = some (.ref a.aIndex)
  FIndex : Fun K "_law_index" "_law_index" sIndex a.aIndex d.dIndex
  bIndex : Binds K d.dIndex ["_law_entries", "_law_signs_here"] []
  gReads : mg "_law_reads" = some (.ref a.aReads)
  FReads : Fun K "_law_reads" "_law_reads" sReads a.aReads d.dReads
  bReads : Binds K d.dReads ["_law_alphabet", "_law_signs_here", "_law_written_here"] []
  gLaw : mg "law" = some (.ref a.aLaw)
  FLaw : Fun K "law" "law" sLaw a.aLaw d.dLaw
  bLaw : Binds K d.dLaw ["_law_script"] []
  gcTaleError : mg "TaleError" = some (.ref a.cTale)
  gcUnknownSign : mg "UnknownSign" = some (.ref a.cUnk)
  gcBadPair : mg "BadPair" = some (.ref a.cBadPair)
  gcBadEntry : mg "BadEntry" = some (.ref a.cBadEntry)
  gcTable : mg "Table" = some (.ref a.cTable)
  xBadPair : EF K mg "BadPair" a.cBadPair a.eBadPair d.eBadPair ["self", "index"]
  xUnknownSign : EF K mg "UnknownSign" a.cUnk a.eUnk d.eUnk ["self", "sign"]
  xBadEntry : EF K mg "BadEntry" a.cBadEntry a.eBadEntry d.eBadEntry ["self", "index"]
  clA : Cls K a.cAlphabet
  clT : Cls K a.cTable
  nL : NoAttr K a.cAlphabet "letters"
  nV : NoAttr K a.cAlphabet "vowels"
  nC : NoAttr K a.cAlphabet "consonants"
  nS : NoAttr K a.cAlphabet "signs"
  nTa : NoAttr K a.cTable "alphabet"
  nTp : NoAttr K a.cTable "_pairs"
  prTotal : PropOf K a.cTable "total" a.pTotal a.aTTotal
  prExact : PropOf K a.cTable "exact" a.pExact a.aTExact
  crT : ClX.CRead K a.cTable (.type "type")
  cTId : ClX.CMet K a.cTable (.type "type") "identity" a.pTId a.aTId
  cTFull : ClX.CMet K a.cTable (.type "type") "full" a.pTFull a.aTFull
  cTRead : ClX.CMet K a.cTable (.type "type") "read" a.pTRead a.aTRead
  cTEmp : ClX.CMet K a.cTable (.type "type") "empty" a.pTEmp a.aTEmp
  mkT : PySem.W.makesIn K a.cTable = true
  kpT : PySem.W.keepIn K (.ref a.cTable) = true
  fnTGet : PySem.W.fnIn K a.aTGet = true
  eqA : PySem.W.notFirst K a.cAlphabet (.ref a.cAlphabet) = true
  eqT : PySem.W.notFirst K a.cTable (.ref a.cTable) = true
  icT : PySem.W.findIn K (.ref a.cTable) "__class__" = some (some (.builtin "object.__class__"))
  imT : PySem.W.mroIn K a.cTable (.type "object") = some true
  igO : PySem.W.specialIn K (.builtin "object.__class__") "__get__" = some (some (.builtin "getset_descriptor.__get__"))
  itO : PySem.W.takesIn K (.builtin "object.__class__") = some true
  joint : Con K a.cAlphabet "JOINT" (.str (S [45])) (.str "-" a.tJoint)
def kStrE1_0 : List Nat := [97, 98, 99, 100, 101, 102, 103, 104, 105, 106, 107, 108, 109, 110, 111, 112, 113, 114, 115, 116, 117, 118, 119, 120, 121, 122]
theorem kStrE1_0_eq : PySem.Str.ofString "abcdefghijklmnopqrstuvwxyz" = S kStrE1_0 := by decide +kernel
/-- the bag of draws -/
def BagB (H : Hp) (b g u : Addr) : Prop := ∃ (gl sl : List Int) (n r : Int), H b = some (.lst [.ref g, .ref u, .int n, .int r]) ∧ H g = some (.lst (gl.map V.int)) ∧ H u = some (.lst (sl.map V.int)) ∧ b ≠ g ∧ b ≠ u ∧ g ≠ u ∧ gl.length ≤ 63 ∧ sl.length ≤ 63
theorem BagB.fr {H H' : Hp} {b g u : Addr} {L : List Addr} (h : BagB H b g u) (f : Fr L H H') (h1 : b ∉ L) (h2 : g ∉ L) (h3 : u ∉ L) : BagB H' b g u := by
  obtain ⟨gl, sl, n, r, e1, e2, e3, z⟩ := h
  exact ⟨gl, sl, n, r, f _ _ h1 e1, f _ _ h2 e2, f _ _ h3 e3, z⟩
theorem BagB.same {H H' : Hp} {b g u : Addr} (h : BagB H b g u) (f : Same H H') : BagB H' b g u := h.fr (L := []) (Fr.of_same f) (by simp) (by simp) (by simp)
theorem BagB.ne {H : Hp} {b g u p : Addr} (h : BagB H b g u) (hp : H p = none) : p ≠ b ∧ p ≠ g ∧ p ≠ u := by
  obtain ⟨gl, sl, n, r, e1, e2, e3, z⟩ := h
  exact ⟨(ne_of_none e1 hp).symm, (ne_of_none e2 hp).symm, (ne_of_none e3 hp).symm⟩
theorem BagB.laid {H : Hp} {b g u p : Addr} {o : HO} (h : BagB H b g u) (hp : H p = none) : BagB (upd H p o) b g u := h.same (Same.upd_new hp)
theorem BagB.upd {H : Hp} {b g u p : Addr} {o : HO} (h : BagB H b g u) (h1 : p ≠ b) (h2 : p ≠ g) (h3 : p ≠ u) : BagB (L2.upd H p o) b g u := h.fr (L := [p]) Fr.in0 (by simpa using h1.symm) (by simpa using h2.symm) (by simpa using h3.symm)
theorem ix0 {n : Nat} : ixN (n + 1) 0 = some 0 := by
  unfold ixN
  rw [if_pos (Int.le_refl 0), if_pos (by omega)]
  rfl
theorem iPopAt {l : Addr} {xs : List V} {r : Nat} {y : V} {H : Hp} {Q : VK} (hH : H l = some (.lst xs)) (hy : xs[r]? = some y) (hz : xs.length ≤ 1000) (h : Q y (L2.upd H l (.lst (xs.eraseIdx r)))) : rPopAt (.ref l) [.int (r : Int)] H Q := by
  have hr : r < xs.length := (List.getElem?_eq_some_iff.mp hy).1
  refine ⟨l, xs, r, r, y, rfl, rfl, hH, by omega, by omega, ?_, hy, h⟩
  unfold seqIndex?
  simp
  omega
section
variable {P : Program} {w : World} {K : PySem.W.Frag} {mg : Str → Option Value} {base : Heap} {a : Ad} {d : Fd}
def spTake : Sp := fun vs H Q _ => ∃ (b g u : Addr) (n : Nat), vs = [.ref b, .int (n : Int)] ∧ BagB H b g u ∧ 0 < n ∧ n < 2 ^ 29 ∧ ∀ (r : Nat) (H' : Hp), r < n → BagB H' b g u → Fr [b, g] H H' → Q (.int (r : Int)) H'
theorem scTake : FnScope ["_law_bag_here", "_law_size", "_law_left", "_law_cell"] ["_law_bag_here", "_law_size"] (defScope sTake) := ⟨rfl, rfl, rfl, by decide +kernel, rfl, by decide +kernel, by decide +kernel⟩
theorem ok_take (T : Fns K mg a d) : FnOk P w K mg base CX0 1 a.aTake d.dTake ["_law_bag_here", "_law_size"] spTake := by
  refine T.FTake.ok scTake (fun vs H Q E h => ?_) (fun cdv A outer s H vs Q E hr h => ?_)
  · obtain ⟨b, g, u, n, rfl, _⟩ := h
    rfl
  · obtain ⟨b, g, u, n, rfl, ⟨gl, sl, m, r, hb, hg, hs, n1, n2, n3, l1, l2⟩, hn, hn2, k⟩ := h
    have fin : ∀ (z : Int) (H' : Hp), BagB H' b g u → Fr [b, g] H H' → Q (.int (z % (n : Int))) H' := fun z H' h1 h2 => by
      have e0 := Int.emod_nonneg z (b := (n : Int)) (by omega)
      have e1 := Int.emod_lt_of_pos z (b := (n : Int)) (by omega)
      obtain ⟨r, hr⟩ : ∃ r : Nat, z % (n : Int) = (r : Int) := ⟨(z % (n : Int)).toNat, by omega⟩
      rw [hr]
      exact k r H' (by omega) h1 h2
    clear k
    refine ⟨_, ((pss_cons (ps_asg (pe_op op_add (pe_ix (r := rIxL K) ix_list (pv 0) pe_int (fun _ _ => rfl)) pe_int) (pg_sub (pv 0) pe_int set_list))
      (pss_cons (ps_if (pt_cmpR op_gt (pe_callB call_len_seq (by rfl) T.z_len (by decide +kernel) (pa_cons (pe_ix (r := rIxL K) ix_list (pv 0) pe_int (fun _ _ => rfl)) pa_nil)) pe_int (nomark _)) (pss_cons (ps_set (i := 2) scTake.nd rfl (Or.inl rfl) (pe_callTy call_int1 (by rfl) T.z_int (by decide +kernel) (pa_cons (pe_ix (r := rIxL K) ix_list (pe_ix (r := rIxL K) ix_list (pv 0) pe_int (fun _ _ => rfl)) pe_int (fun _ _ => rfl)) pa_nil)))
      (pss_cons (ps_asg (pe_op op_fdivN (pv 2) (pv 1)) (pg_sub (pe_ix (r := rIxL K) ix_list (pv 0) pe_int (fun _ _ => rfl)) pe_int set_list))
      (pss_cons (ps_if (pt_cmpR op_eq (pe_op op_fdivN (pv 2) (pv 1)) pe_int (nomark _)) (pss_one (ps_expr (pe_bm PySem.F.plainAttrs_list PySem.F.slot_list_pop PySem.F.type_list_pop mt_popAt (pe_ix (r := rIxL K) ix_list (pv 0) pe_int (fun _ _ => rfl)) (pa_cons pe_int pa_nil)))) pss_nil)
      (pss_one (ps_ret (pe_op op_mod (pe_callTy call_int1 (by rfl) T.z_int (by decide +kernel) (pa_cons (pv 2) pa_nil)) (pv 1))))))) pss_nil)
      (pss_cons (ps_if (pt_cmpR op_eq (pe_callB call_len_seq (by rfl) T.z_len (by decide +kernel) (pa_cons (pe_ix (r := rIxL K) ix_list (pv 0) pe_int (fun _ _ => rfl)) pa_nil)) pe_int (nomark _)) (pss_one (ps_ret (pe_op op_mod (pe_callTy call_int1 (by rfl) T.z_int (by decide +kernel) (pa_cons (pe_ix (r := rIxL K) ix_list (pv 0) pe_int (fun _ _ => rfl)) pa_nil)) (pv 1)))) pss_nil)
      (pss_cons (ps_set (i := 3) scTake.nd rfl (Or.inl rfl) (pe_ix (r := rIxL K) ix_list (pe_ix (r := rIxL K) ix_list (pv 0) pe_int (fun _ _ => rfl)) (pe_op op_mod (pe_callTy call_int1 (by rfl) T.z_int (by decide +kernel) (pa_cons (pe_ix (r := rIxL K) ix_list (pv 0) pe_int (fun _ _ => rfl)) pa_nil)) (pe_callB call_len_seq (by rfl) T.z_len (by decide +kernel) (pa_cons (pe_ix (r := rIxL K) ix_list (pv 0) pe_int (fun _ _ => rfl)) pa_nil))) (fun _ _ => rfl)))
      (pss_cons (ps_asg (pe_op op_mod (pe_callTy call_int1 (by rfl) T.z_int (by decide +kernel) (pa_cons (pe_op op_add (pe_op op_add (pe_op op_mul (pe_callTy call_int1 (by rfl) T.z_int (by decide +kernel) (pa_cons (pe_ix (r := rIxL K) ix_list (pv 0) pe_int (fun _ _ => rfl)) pa_nil)) pe_int) (pv 3)) (pe_ix (r := rIxL K) ix_list (pv 0) pe_int (fun _ _ => rfl))) pa_nil)) pe_int) (pg_sub (pv 0) pe_int set_list))
      (pss_one (ps_ret (pe_op op_mod (pe_op op_fdiv (pe_op op_mod (pe_callTy call_int1 (by rfl) T.z_int (by decide +kernel) (pa_cons (pe_op op_add (pe_op op_mul (pe_callTy call_int1 (by rfl) T.z_int (by decide +kernel) (pa_cons (pe_ix (r := rIxL K) ix_list (pv 0) pe_int (fun _ _ => rfl)) pa_nil)) pe_int) (pe_op op_mul (pe_ix (r := rIxL K) ix_list (pv 0) pe_int (fun _ _ => rfl)) pe_int)) pa_nil)) pe_int) pe_int) (pv 1)))))))))), ?_⟩
    walk_at "go"
    · rename_i h
      rcases gl with _ | ⟨z, gl⟩
      · simp at h
      have hg1 : (upd H b (.lst [.ref g, .ref u, .int (m + 1), .int r])) g = some (.lst (.int z :: gl.map V.int)) := upd_oth n1.symm hg
      have hb1 : (upd H b (.lst [.ref g, .ref u, .int (m + 1), .int r])) b = some (.lst [.ref g, .ref u, .int (m + 1), .int r]) := upd_same
      have hu : (upd H b (.lst [.ref g, .ref u, .int (m + 1), .int r])) u = some (.lst (sl.map V.int)) := upd_oth n2.symm hs
      have f1 : Fr [b, g] H (upd H b (.lst [.ref g, .ref u, .int (m + 1), .int r])) := Fr.in0
      generalize upd H b (.lst [.ref g, .ref u, .int (m + 1), .int r]) = H1 at hg1 hb1 hu f1 ⊢
      refine iIxL (SqL.of hg1) (atI_nat (j := 0) rfl) ?_
      walk_at "go"
      refine iSetL (j := 0) (ys := .int (z.fdiv n) :: gl.map V.int) hg1 ix0 rfl ?_
      have hg2 : (upd H1 g (.lst (.int (z.fdiv n) :: gl.map V.int))) g = some (.lst (.int (z.fdiv n) :: gl.map V.int)) := upd_same
      have hb2 : (upd H1 g (.lst (.int (z.fdiv n) :: gl.map V.int))) b = some (.lst [.ref g, .ref u, .int (m + 1), .int r]) := upd_oth n1 hb1
      have hs2 : (upd H1 g (.lst (.int (z.fdiv n) :: gl.map V.int))) u = some (.lst (sl.map V.int)) := upd_oth n3.symm hu
      have f2 : Fr [b, g] H (upd H1 g (.lst (.int (z.fdiv n) :: gl.map V.int))) := Fr.trans f1 Fr.in1
      show _
      generalize upd H1 g (.lst (.int (z.fdiv n) :: gl.map V.int)) = H2 at hg2 hb2 hs2 f2 ⊢
      rw [List.length_cons] at l1
      walk_at "go"
      · refine iPopAt (r := 0) hg2 rfl (by rw [List.length_cons, List.length_map]; omega) ?_
        walk_at "go"
        exact fin _ _ ⟨gl, sl, _, _, upd_oth n1 hb2, upd_same, upd_oth n3.symm hs2, n1, n2, n3, by omega, l2⟩ (Fr.trans f2 Fr.in1)
      · exact fin _ _ ⟨z.fdiv n :: gl, sl, _, _, hb2, hg2, hs2, n1, n2, n3, by rw [List.length_cons]; omega, l2⟩ f2
    · exact fin _ _ ⟨gl, sl, _, _, upd_same, upd_oth n1.symm hg, upd_oth n2.symm hs, n1, n2, n3, l1, l2⟩ Fr.in0
    · rename_i h1 h2
      rw [List.length_map] at h2 ⊢
      have hlt : 0 < sl.length := by omega
      have hm := Int.emod_nonneg (m + 1) (b := (sl.length : Int)) (by omega)
      have hm2 := Int.emod_lt_of_pos (m + 1) (b := (sl.length : Int)) (by omega)
      obtain ⟨j, hj⟩ : ∃ j : Nat, (m + 1) % (sl.length : Int) = (j : Int) := ⟨((m + 1) % (sl.length : Int)).toNat, by omega⟩
      rw [hj]
      have hjl : j < sl.length := by omega
      refine iIxL (SqL.of (upd_oth n2.symm hs)) (v := .int sl[j]) (atI_nat (by rw [List.getElem?_map, List.getElem?_eq_getElem hjl]; rfl)) ?_
      walk_at "go"
      exact fin _ _ ⟨gl, sl, _, _, upd_same, upd_oth n1.symm (upd_oth n1.symm hg), upd_oth n2.symm (upd_oth n2.symm hs), n1, n2, n3, l1, l2⟩ (Fr.trans Fr.in0 Fr.in0)
/-- a list of pairs of signs -/
structure PrAt (H : Hp) (p : Addr) (qs : List (Addr × Nat × Nat)) : Prop where
  l : H p = some (.lst (qs.map fun q => V.ref q.1))
  t : ∀ q ∈ qs, H q.1 = some (.tup [.str (S [q.2.1]), .str (S [q.2.2])])
theorem PrAt.same {H H' : Hp} {p : Addr} {qs : List (Addr × Nat × Nat)} (h : PrAt H p qs) (s : Same H H') : PrAt H' p qs := ⟨s _ _ h.l, fun q hq => s _ _ (h.t q hq)⟩
theorem PrAt.fr {H H' : Hp} {p : Addr} {qs : List (Addr × Nat × Nat)} {L : List Addr} (h : PrAt H p qs) (f : Fr L H H') (hp : p ∉ L) (hq : ∀ q ∈ qs, q.1 ∉ L) : PrAt H' p qs := ⟨f _ _ hp h.l, fun q hm => f _ _ (hq q hm) (h.t q hm)⟩
structure AlOk (l v : List Nat) : Prop where
  dl : Differ l azL
  h1 : 1 ≤ l.length
  h4 : l.length ≤ 4
  vn : v.Nodup
  vl : ∀ c ∈ v, c ∈ l
theorem cut_perm {q : List Nat} {r c : Nat} (h : q[r]? = some c) : (c :: (q.take r ++ q.drop (r + 1))).Perm q := by
  have hr : r < q.length := (List.getElem?_eq_some_iff.mp h).1
  have hc : q[r] = c := (List.getElem?_eq_some_iff.mp h).2
  have e : q.take r ++ c :: q.drop (r + 1) = q := by
    rw [← hc, ← List.drop_eq_getElem_cons hr, List.take_append_drop]
  exact List.perm_middle.symm.trans (List.Perm.of_eq e)
def spNames : Sp := fun vs H Q _ => ∃ (b g u : Addr) (n : Nat), vs = [.ref b, .int (n : Int)] ∧ BagB H b g u ∧ 1 ≤ n ∧ n ≤ 4 ∧ ∀ (p : Addr) (l v : List Nat) (H' : Hp), H p = none → p ≠ b → p ≠ g → p ≠ u → H' p = some (.lst [.str (S l), .str (S v)]) → AlOk l v → l.length = n → BagB H' b g u → Fr [b, g] H H' → Q (.ref p) H'
theorem scNames : FnScope ["_law_bag_here", "_law_count", "_law_rest", "_law_letters", "_law_vowels", "_law_k", "_law_at"] ["_law_bag_here", "_law_count"] (defScope sNames) := ⟨rfl, rfl, rfl, by decide +kernel, rfl, by decide +kernel, by decide +kernel⟩
theorem ok_names (T : Fns K mg a d) : FnOk P w K mg base CX0 2 a.aNames d.dNames ["_law_bag_here", "_law_count"] spNames := by
  have GTake : FnOk P w K mg base CX0 1 a.aTake d.dTake ["_law_bag_here", "_law_size"] spTake := ok_take T
  refine T.FNames.ok scNames (fun vs H Q E h => ?_) (fun cdv A outer s H vs Q E hr h => ?_)
  · obtain ⟨b, g, u, n, rfl, _⟩ := h
    rfl
  · obtain ⟨b, g, u, n, rfl, hB, hn1, hn4, k⟩ := h
    refine ⟨_, ((pss_cons (ps_set (i := 2) scNames.nd rfl (Or.inl rfl) (pe_strS (l := kStrE1_0) kStrE1_0_eq))
      (pss_cons (ps_set (i := 3) scNames.nd rfl (Or.inl rfl) (pe_strS (l := []) (by decide +kernel)))
      (pss_cons (ps_set (i := 4) scNames.nd rfl (Or.inl rfl) (pe_strS (l := []) (by decide +kernel)))
      (pss_cons (ps_for PassesOwn.never rfl (pi_range1 (by rfl) T.z_range (pa_cons (pv 1) pa_nil)) (pg_name (i := 5) scNames.nd rfl (Or.inl rfl)) (pss_cons (ps_set (i := 6) scNames.nd rfl (Or.inl rfl) (pe_call GTake (hr.mono (by decide)) (by rfl) T.gTake T.FTake.kp T.bTake .nil pass0 (pa_cons (pv 0) (pa_cons (pe_callB call_lenS (by rfl) T.z_len (by decide +kernel) (pa_cons (pv 2) pa_nil)) pa_nil))))
      (pss_cons (ps_set (i := 3) scNames.nd rfl (Or.inl rfl) (pe_op op_addS (pv 3) (pe_ix ix_str (pv 2) (pv 6) (fun _ _ => rfl))))
      (pss_cons (ps_if (pt_cmpR op_eq (pe_call GTake (hr.mono (by decide)) (by rfl) T.gTake T.FTake.kp T.bTake .nil pass0 (pa_cons (pv 0) (pa_cons pe_int pa_nil))) pe_int (nomark _)) (pss_one (ps_set (i := 4) scNames.nd rfl (Or.inl rfl) (pe_op op_addS (pe_ix ix_str (pv 2) (pv 6) (fun _ _ => rfl)) (pv 4)))) pss_nil)
      (pss_one (ps_set (i := 2) scNames.nd rfl (Or.inl rfl) (pe_op op_addS (pe_slice sl_str (pv 2) po_none (po_some (pv 6))) (pe_slice sl_str (pv 2) (po_some (pe_op op_add (pv 6) pe_int)) po_none))))))))
      (pss_one (ps_ret (pe_lst (pa_cons (pv 3) (pa_cons (pv 4) pa_nil)))))))))), ?_⟩
    rw [show kStrE1_0 = azL from by decide +kernel]
    walk_at "go"
    refine for_R (fun i σ H' => Stop (∃ (rs l v : List Nat) (v5 v6 : Option V), σ = [some (.ref b), some (.int (n : Int)), some (.str (S rs)), some (.str (S l)), some (.str (S v)), v5, v6] ∧ l.length = i ∧ (l ++ rs).Perm azL ∧ v.Nodup ∧ (∀ c ∈ v, c ∈ l) ∧ BagB H' b g u ∧ Fr [b, g] H H'))
      ⟨azL, [], [], none, none, rfl, rfl, List.Perm.refl _, List.nodup_nil, (fun c hc => nomatch hc), hB, Fr.refl _ _⟩ ?_ ?_
    · rintro i σ H1 hi ⟨rs, l, v, v5, v6, rfl, hl, hper, hvn, hvl, hB1, f1⟩
      have hlen : l.length + rs.length = 26 := by rw [← az_len, ← hper.length_eq, List.length_append]
      have hvs := len_of_sub hvn hvl
      walk_at "go"
      refine ⟨b, g, u, rs.length, rfl, hB1, by omega, by omega, fun r H2 hr2 hB2 f2 => ?_⟩
      have hc : rs[r]? = some rs[r] := List.getElem?_eq_getElem hr2
      have hcm := List.getElem_mem hr2
      generalize rs[r] = c at hc hcm
      have hper2 : (l ++ [c] ++ (rs.take r ++ rs.drop (r + 1))).Perm azL := by
        rw [List.append_assoc]
        exact ((cut_perm hc).append_left l).trans hper
      have hcl : c ∉ l := fun m => (List.nodup_append.mp (hper.nodup_iff.mpr az_nodup)).2.2 c m c hcm rfl
      have f3 := Fr.trans f1 f2
      walk_at "go"
      refine ⟨b, g, u, 2, rfl, hB2, by decide, by decide, fun r2 H3 hr3 hB3 f4 => ?_⟩
      walk_at "go"
      · exact ⟨_, l ++ [c], [c] ++ v, _, _, rfl, by simp [hl], hper2, List.nodup_cons.mpr ⟨fun m => hcl (hvl c m), hvn⟩, (fun x hx => by
          rcases List.mem_cons.mp hx with e | e
          · rw [e]; exact List.mem_append_right _ (List.mem_singleton.mpr rfl)
          · exact List.mem_append_left _ (hvl x e)), hB3, Fr.trans f3 f4⟩
      · exact ⟨_, l ++ [c], v, _, _, rfl, by simp [hl], hper2, hvn, (fun x hx => List.mem_append_left _ (hvl x hx)), hB3, Fr.trans f3 f4⟩
    · rintro σ H1 ⟨rs, l, v, v5, v6, rfl, hl, hper, hvn, hvl, hB1, f1⟩
      walk_at "go"
      rename_i p hp
      have hnd := List.nodup_append.mp (hper.nodup_iff.mpr az_nodup)
      have np := hB1.ne hp
      exact k p l v _ (f1.none (by simp [np.1, np.2.1]) hp) np.1 np.2.1 np.2.2 upd_same ⟨⟨hnd.1, fun c hc => hper.mem_iff.mp (List.mem_append_left _ hc)⟩, by omega, by omega, hvn, hvl⟩ (by omega) (hB1.laid hp) (Fr.trans f1 (Fr.upd_new hp))
def spPairs : Sp := fun vs H Q _ => ∃ (b g u : Addr) (sg : List Nat) (n : Nat), vs = [.ref b, .str (S sg), .int (n : Int)] ∧ BagB H b g u ∧ 0 < sg.length ∧ sg.length ≤ 6 ∧ n ≤ 100 ∧
  ∀ (p : Addr) (qs : List (Addr × Nat × Nat)) (H' : Hp), H p = none → PrAt H' p qs → qs.length = n → (∀ q ∈ qs, q.2.1 ∈ sg ∧ q.2.2 ∈ sg) → p ≠ b → p ≠ g → p ≠ u → (∀ q ∈ qs, H q.1 = none) → BagB H' b g u → Fr [b, g] H H' → Q (.ref p) H'
theorem scPairs : FnScope ["_law_bag_here", "_law_signs_here", "_law_count", "_law_pairs_here", "_law_k", "_law_told"] ["_law_bag_here", "_law_signs_here", "_law_count"] (defScope sPairs) := ⟨rfl, rfl, rfl, by decide +kernel, rfl, by decide +kernel, by decide +kernel⟩
theorem ok_pairs (T : Fns K mg a d) : FnOk P w K mg base CX0 2 a.aPairs d.dPairs ["_law_bag_here", "_law_signs_here", "_law_count"] spPairs := by
  have GTake : FnOk P w K mg base CX0 1 a.aTake d.dTake ["_law_bag_here", "_law_size"] spTake := ok_take T
  refine T.FPairs.ok scPairs (fun vs H Q E h => ?_) (fun cdv A outer s H vs Q E hr h => ?_)
  · obtain ⟨b, g, u, sg, n, rfl, _⟩ := h
    rfl
  · obtain ⟨b, g, u, sg, n, rfl, hB, hs0, hu, hn, k⟩ := h
    refine ⟨_, ((pss_cons (ps_set (i := 3) scPairs.nd rfl (Or.inl rfl) (pe_lst pa_nil))
      (pss_cons (ps_for PassesOwn.never rfl (pi_range1 (by rfl) T.z_range (pa_cons (pv 2) pa_nil)) (pg_name (i := 4) scPairs.nd rfl (Or.inl rfl)) (pss_cons (ps_set (i := 5) scPairs.nd rfl (Or.inl rfl) (pe_ix ix_str (pv 1) (pe_call GTake (hr.mono (by decide)) (by rfl) T.gTake T.FTake.kp T.bTake .nil pass0 (pa_cons (pv 0) (pa_cons (pe_callB call_lenS (by rfl) T.z_len (by decide +kernel) (pa_cons (pv 1) pa_nil)) pa_nil))) (fun _ _ => rfl)))
      (pss_one (ps_expr (pe_bm PySem.F.plainAttrs_list PySem.F.slot_list_append PySem.F.type_list_append mt_append (pv 3) (pa_cons (pe_tup (pa_cons (pv 5) (pa_cons (pe_ix ix_str (pv 1) (pe_call GTake (hr.mono (by decide)) (by rfl) T.gTake T.FTake.kp T.bTake .nil pass0 (pa_cons (pv 0) (pa_cons (pe_callB call_lenS (by rfl) T.z_len (by decide +kernel) (pa_cons (pv 1) pa_nil)) pa_nil))) (fun _ _ => rfl)) pa_nil))) pa_nil))))))
      (pss_one (ps_ret (pv 3)))))), ?_⟩
    walk_at "go"
    rename_i p hp
    obtain ⟨pb, pg, pu⟩ := hB.ne hp
    refine for_R (fun i σ H' => Stop (∃ (qs : List (Addr × Nat × Nat)) (v4 v5 : Option V), σ = [some (.ref b), some (.str (S sg)), some (.int (n : Int)), some (.ref p), v4, v5] ∧ qs.length = i ∧ PrAt H' p qs ∧ (∀ q ∈ qs, q.2.1 ∈ sg ∧ q.2.2 ∈ sg) ∧ (∀ q ∈ qs, H q.1 = none ∧ q.1 ≠ p ∧ q.1 ≠ b ∧ q.1 ≠ g) ∧ BagB H' b g u ∧ Fr [b, g, p] H H'))
      ⟨[], none, none, rfl, rfl, ⟨upd_same, (fun q hq => nomatch hq)⟩, (fun q hq => nomatch hq), (fun q hq => nomatch hq), hB.laid hp, Fr.upd_new hp⟩ ?_ ?_
    · rintro i σ H1 hi ⟨qs, v4, v5, rfl, hl, hpr, hsg, hno, hB1, f1⟩
      have w2 : ∀ {A B : Hp}, Fr [b, g] A B → Fr [b, g, p] A B := fun f => f.mono fun x hx => by
        rcases List.mem_cons.mp hx with e | e
        · simp [e]
        · simp [List.mem_singleton.mp e]
      walk_at "go"
      refine ⟨b, g, u, sg.length, rfl, hB1, by omega, by omega, fun r H2 hr2 hB2 f2 => ?_⟩
      have hc : sg[r]? = some sg[r] := List.getElem?_eq_getElem hr2
      have hcm := List.getElem_mem hr2
      generalize sg[r] = c at hc hcm
      have hpr2 := hpr.fr f2 (by simp [pb, pg]) (fun q hq => by simp [(hno q hq).2.2.1, (hno q hq).2.2.2])
      have hpl := hpr2.l
      walk_at "go"
      refine ⟨b, g, u, sg.length, rfl, hB2, by omega, by omega, fun r2 H3 hr3 hB3 f3 => ?_⟩
      have hd : sg[r2]? = some sg[r2] := List.getElem?_eq_getElem hr3
      have hdm := List.getElem_mem hr3
      generalize sg[r2] = d2 at hd hdm
      have hpr3 := hpr2.fr f3 (by simp [pb, pg]) (fun q hq => by simp [(hno q hq).2.2.1, (hno q hq).2.2.2])
      walk_at "go"
      rename_i t ht
      have f4 := Fr.trans f1 (w2 (Fr.trans f2 f3))
      have tb := hB3.ne ht
      have tp : t ≠ p := (ne_of_none hpr3.l ht).symm
      have tn : H t = none := f4.none (by simp [tb.1, tb.2.1, tp]) ht
      have hpr4 := hpr3.same (Same.upd_new (o := .tup [.str (S [c]), .str (S [d2])]) ht)
      have ht4 : (upd H3 t (.tup [.str (S [c]), .str (S [d2])])) t = some (.tup [.str (S [c]), .str (S [d2])]) := upd_same
      have hB4 := hB3.laid (o := .tup [.str (S [c]), .str (S [d2])]) ht
      have f5 : Fr [b, g, p] H (upd H3 t (.tup [.str (S [c]), .str (S [d2])])) := Fr.trans f4 (Fr.upd_new ht)
      generalize upd H3 t (.tup [.str (S [c]), .str (S [d2])]) = H4 at hpr4 ht4 hB4 f5 ⊢
      refine iAppend hpr4.l (by rw [List.length_map, sizeLine_eq]; omega) ?_
      walk_at "go"
      refine ⟨qs ++ [(t, c, d2)], _, _, rfl, by simp [hl], ⟨by rw [upd_same, List.map_append]; rfl, fun q hq => ?_⟩, fun q hq => ?_, fun q hq => ?_, ?_, Fr.trans f5 Fr.in2⟩
      · rcases List.mem_append.mp hq with z | z
        · rw [upd_ne (hno q z).2.1]; exact hpr4.t q z
        · rw [List.mem_singleton.mp z, upd_ne tp]; exact ht4
      · rcases List.mem_append.mp hq with z | z
        · exact hsg q z
        · rw [List.mem_singleton.mp z]; exact ⟨hcm, hdm⟩
      · rcases List.mem_append.mp hq with z | z
        · exact hno q z
        · rw [List.mem_singleton.mp z]; exact ⟨tn, tp, tb.1, tb.2.1⟩
      · exact hB4.upd pb pg pu
    · rintro σ H1 ⟨qs, v4, v5, rfl, hl, hpr, hsg, hno, hB1, f1⟩
      walk_at "go"
      exact k p qs H1 hp hpr (by omega) hsg pb pg pu (fun q hq => (hno q hq).1) hB1 (f1.forget fun x hx => by
        simp only [List.mem_cons, List.not_mem_nil, or_false] at hx
        rcases hx with rfl | rfl | rfl
        · exact .inl (by simp)
        · exact .inl (by simp)
        · exact .inr hp)
end
end
section
set_option Elab.async false
set_option linter.all false
set_option maxRecDepth 100000
set_option maxHeartbeats 4000000
open PySem PySem.Spec PyProof.Rows L2 NSet
/-! k21: what a table is -/
def Asc (l : List Nat) : Prop := l.Pairwise (· < ·)
def plt (p q : Nat × Nat) : Prop := p.1 < q.1 ∨ (p.1 = q.1 ∧ p.2 < q.2)
theorem uniq {α : Type} {r : α → α → Prop} (irr : ∀ a, ¬ r a a) (asy : ∀ a b, r a b → ¬ r b a) : ∀ {l m : List α}, l.Pairwise r → m.Pairwise r → (∀ x, x ∈ l ↔ x ∈ m) → l = m
  | [], [], _, _, _ => rfl
  | [], b :: m, _, _, h => nomatch (h b).mpr List.mem_cons_self
  | a :: l, [], _, _, h => nomatch (h a).mp List.mem_cons_self
  | a :: l, b :: m, h1, h2, h => by
    obtain ⟨p1, q1⟩ := List.pairwise_cons.mp h1
    obtain ⟨p2, q2⟩ := List.pairwise_cons.mp h2
    have e : a = b := by
      rcases List.mem_cons.mp ((h a).mp List.mem_cons_self) with z | z
      · exact z
      rcases List.mem_cons.mp ((h b).mpr List.mem_cons_self) with z2 | z2
      · exact z2.symm
      exact absurd (p1 b z2) (asy _ _ (p2 a z))
    subst e
    rw [uniq irr asy q1 q2 fun x => ⟨fun hx => by
      rcases List.mem_cons.mp ((h x).mp (List.mem_cons_of_mem _ hx)) with z | z
      · exact absurd (z ▸ p1 x hx) (irr _)
      · exact z, fun hx => by
      rcases List.mem_cons.mp ((h x).mpr (List.mem_cons_of_mem _ hx)) with z | z
      · exact absurd (z ▸ p2 x hx) (irr _)
      · exact z⟩]
theorem plt_irr (a : Nat × Nat) : ¬ plt a a := by unfold plt; omega
theorem plt_asy (a b : Nat × Nat) : plt a b → ¬ plt b a := by unfold plt; omega
theorem uniqA {l m : List Nat} (h1 : Asc l) (h2 : Asc m) (h : ∀ x, x ∈ l ↔ x ∈ m) : l = m := uniq (r := (· < ·)) (fun a => by omega) (fun a b => by omega) h1 h2 h
abbrev Rel := Nat → Nat → Bool
def canL (sg : List Nat) (R : Rel) : List (Nat × Nat) := sg.flatMap fun s => (sg.filter (R s)).map fun t => (s, t)
def outsL (sg : List Nat) (R : Rel) : List (List Nat) := sg.map fun s => sg.filter (R s)
def relQ (l : List (Nat × Nat)) : Rel := fun s t => decide ((s, t) ∈ l)
def Agr (sg : List Nat) (A B : Rel) : Prop := ∀ s ∈ sg, ∀ t ∈ sg, A s t = B s t
theorem mem_can {sg : List Nat} {R : Rel} {p : Nat × Nat} : p ∈ canL sg R ↔ p.1 ∈ sg ∧ p.2 ∈ sg ∧ R p.1 p.2 = true := by
  unfold canL
  rw [List.mem_flatMap]
  constructor
  · rintro ⟨s, hs, h⟩
    obtain ⟨t, ht, e⟩ := List.mem_map.mp h
    obtain ⟨h1, h2⟩ := List.mem_filter.mp ht
    subst e
    exact ⟨hs, h1, h2⟩
  · rintro ⟨h1, h2, h3⟩
    exact ⟨p.1, h1, List.mem_map.mpr ⟨p.2, List.mem_filter.mpr ⟨h2, h3⟩, rfl⟩⟩
theorem can_plt {sg : List Nat} {R : Rel} (h : Asc sg) : (canL sg R).Pairwise plt := by
  unfold canL
  rw [List.pairwise_flatMap]
  refine ⟨fun s hs => List.pairwise_map.mpr ((h.sublist List.filter_sublist).imp fun q => .inr ⟨rfl, q⟩), ?_⟩
  refine h.imp fun {a b} q x hx y hy => ?_
  obtain ⟨t, _, e⟩ := List.mem_map.mp hx
  obtain ⟨u, _, e2⟩ := List.mem_map.mp hy
  rw [← e, ← e2]
  exact .inl q
theorem Asc.nd {l : List Nat} (h : Asc l) : l.Nodup := h.imp fun q => by omega
theorem flt_agr {sg : List Nat} {A B : Rel} (h : Agr sg A B) {s : Nat} (hs : s ∈ sg) : sg.filter (A s) = sg.filter (B s) := List.filter_congr fun t ht => h s hs t ht
theorem outs_agr {sg : List Nat} {A B : Rel} : outsL sg A = outsL sg B ↔ Agr sg A B := by
  constructor
  · intro h s hs t ht
    have e := List.map_inj_left.mp h s hs
    have k : t ∈ sg.filter (A s) ↔ t ∈ sg.filter (B s) := by rw [e]
    rw [List.mem_filter, List.mem_filter] at k
    rw [Bool.eq_iff_iff]
    exact ⟨fun z => (k.mp ⟨ht, z⟩).2, fun z => (k.mpr ⟨ht, z⟩).2⟩
  · intro h
    exact List.map_congr_left fun s hs => flt_agr h hs
theorem can_iff {sg : List Nat} {A B : Rel} (h : Asc sg) : canL sg A = canL sg B ↔ Agr sg A B := by
  constructor
  · intro e s hs t ht
    have k : (s, t) ∈ canL sg A ↔ (s, t) ∈ canL sg B := by rw [e]
    rw [mem_can, mem_can] at k
    rw [Bool.eq_iff_iff]
    exact ⟨fun z => (k.mp ⟨hs, ht, z⟩).2.2, fun z => (k.mpr ⟨hs, ht, z⟩).2.2⟩
  · intro e
    exact uniq plt_irr plt_asy (can_plt h) (can_plt h) fun x => by
      rw [mem_can, mem_can]
      exact ⟨fun ⟨a, b, c⟩ => ⟨a, b, by rw [← e _ a _ b]; exact c⟩, fun ⟨a, b, c⟩ => ⟨a, b, by rw [e _ a _ b]; exact c⟩⟩
/-- what set and sorted make of good pairs -/
theorem can_of {sg : List Nat} {l m : List (Nat × Nat)} (h : Asc sg) (hm : m.Pairwise plt) (e : ∀ x, x ∈ m ↔ x ∈ l) (hl : ∀ x ∈ l, x.1 ∈ sg ∧ x.2 ∈ sg) : m = canL sg (relQ l) :=
  uniq plt_irr plt_asy hm (can_plt h) fun x => by
    rw [e, mem_can]
    unfold relQ
    rw [decide_eq_true_iff]
    exact ⟨fun z => ⟨(hl x z).1, (hl x z).2, z⟩, fun z => z.2.2⟩
theorem can_row {sg : List Nat} {R : Rel} (h : Asc sg) {c : Nat} (hc : c ∈ sg) : ((canL sg R).filter fun p => decide (p.1 = c)).map (·.2) = sg.filter (R c) := by
  refine uniqA ?_ (h.sublist List.filter_sublist) fun x => ?_
  · unfold Asc
    rw [List.pairwise_map]
    refine ((can_plt h).sublist List.filter_sublist).imp_of_mem fun {a b} ha hb q => ?_
    have e1 := of_decide_eq_true (List.mem_filter.mp ha).2
    have e2 := of_decide_eq_true (List.mem_filter.mp hb).2
    unfold plt at q
    omega
  · rw [List.mem_map, List.mem_filter]
    constructor
    · rintro ⟨p, hp, rfl⟩
      obtain ⟨h1, h2⟩ := List.mem_filter.mp hp
      have e := of_decide_eq_true h2
      obtain ⟨_, b, z⟩ := mem_can.mp h1
      exact ⟨b, by rw [← e]; exact z⟩
    · rintro ⟨h1, h2⟩
      exact ⟨(c, x), List.mem_filter.mpr ⟨mem_can.mpr ⟨hc, h1, h2⟩, decide_eq_true rfl⟩, rfl⟩
theorem len_sub {α : Type} [DecidableEq α] : ∀ {v l : List α}, v.Nodup → (∀ c ∈ v, c ∈ l) → v.length ≤ l.length
  | [], _, _, _ => Nat.zero_le _
  | a :: v, l, hn, h => by
    obtain ⟨n1, n2⟩ := List.nodup_cons.mp hn
    have ha := h a List.mem_cons_self
    have ih := len_sub (v := v) (l := l.erase a) n2 fun c hc => by
      have : c ≠ a := fun e => n1 (by rw [← e]; exact hc)
      rw [List.mem_erase_of_ne this]
      exact h c (List.mem_cons_of_mem _ hc)
    have := List.length_erase_of_mem ha
    have := List.length_pos_of_mem ha
    rw [List.length_cons]
    omega
theorem can_len {sg : List Nat} {R : Rel} (h : Asc sg) : (canL sg R).length ≤ sg.length * sg.length := by
  unfold canL
  have : ∀ l : List Nat, (l.flatMap fun s => (sg.filter (R s)).map fun t => (s, t)).length ≤ l.length * sg.length := by
    intro l
    induction l with
    | nil => simp
    | cons a l ih =>
      rw [List.flatMap_cons, List.length_append, List.length_map, List.length_cons, Nat.succ_mul]
      have := List.length_filter_le (R a) sg
      omega
  exact this sg
/-- distinct pairs of few signs are few -/
theorem few_pairs {sg : List Nat} {m : List (Nat × Nat)} (hn : m.Nodup) (hm : ∀ x ∈ m, x.1 ∈ sg ∧ x.2 ∈ sg) : m.length ≤ sg.length * sg.length := by
  have h1 : ∀ x ∈ m, x ∈ canL sg (fun _ _ => true) := fun x hx => mem_can.mpr ⟨(hm x hx).1, (hm x hx).2, rfl⟩
  have h2 := len_sub hn h1
  have : ∀ l : List Nat, (l.flatMap fun s => (sg.filter (fun _ => true)).map fun t => (s, t)).length ≤ l.length * sg.length := by
    intro l
    induction l with
    | nil => simp
    | cons a l ih =>
      rw [List.flatMap_cons, List.length_append, List.length_map, List.length_cons, Nat.succ_mul]
      have := List.length_filter_le (fun _ => true) sg
      omega
  exact Nat.le_trans h2 (this sg)
def compR (sg : List Nat) (A B : Rel) : Rel := fun s u => sg.any fun m => A s m && B m u
def orR (A B : Rel) : Rel := fun s t => A s t || B s t
def andR (A B : Rel) : Rel := fun s t => A s t && B s t
def invR (A : Rel) : Rel := fun s t => A t s
def inR (sg : List Nat) (A B : Rel) : Bool := decide (∀ s ∈ sg, ∀ t ∈ sg, A s t = true → B s t = true)
/-- keys of pairs -/
def kp (q : Nat × Nat) : List Cell := [.inr (S [q.1]), .inr (S [q.2])]
theorem kp_inj {a b : Nat × Nat} (h : kp a = kp b) : a = b := by
  unfold kp at h
  injection h with h1 h2
  injection h2 with h2 h3
  injection h1 with h1
  injection h2 with h2
  have e1 := congrArg (fun s : Str => s.cps.toList) h1
  have e2 := congrArg (fun s : Str => s.cps.toList) h2
  simp only [S_cps] at e1 e2
  exact Prod.ext (List.cons.inj e1).1 (List.cons.inj e2).1
theorem plt_of_order {ms : List (Nat × Nat)} (o : ms.Pairwise fun q r => lexLt itemOrd ((kp r).map kc) ((kp q).map kc) = false) (n : ms.Nodup) : ms.Pairwise plt := by
  refine (o.and n).imp fun {a b} h => ?_
  obtain ⟨h1, h2⟩ := h
  have h3 : lexLt itemOrd ((kp b).map kc) ((kp a).map kc) = (decide (b.1 < a.1) || (!decide (a.1 < b.1) && decide (b.2 < a.2))) := by
    unfold kp
    simp only [List.map_cons, List.map_nil, kc, S_cps, PyProof.Rows.lexLt, PyProof.Rows.itemLt, PyProof.Rows.strKind]
    simp [List.cons_lt_cons_iff]
  rw [h3] at h1
  simp at h1
  unfold plt
  by_cases e : a.1 = b.1
  · refine .inr ⟨e, ?_⟩
    have := h1.2 (by omega)
    rcases Nat.lt_or_eq_of_le this with z | z
    · exact z
    · exact absurd (Prod.ext e z) h2
  · exact .inl (by omega)
structure SgOk (sg : List Nat) : Prop where
  a : Asc sg
  l : sg.length ≤ 5
  p : 0 < sg.length
  c : ∀ c ∈ sg, c < 128
/-- an alphabet, by its signs and its vowels -/
def AlG (C : Addr) (H : Hp) (al : Addr) (sg W : List Nat) : Prop := ∃ l v, IsAl C H al l v ∧ 45 :: srtL l = sg ∧ srtL v = W
theorem AlG.same {C al : Addr} {H H' : Hp} {sg W : List Nat} (h : AlG C H al sg W) (s : Same H H') : AlG C H' al sg W := by
  obtain ⟨l, v, h1, z⟩ := h
  exact ⟨l, v, h1.same s, z⟩
theorem AlG.ins {C al : Addr} {H : Hp} {sg W : List Nat} (h : AlG C H al sg W) : ∃ dx l v, H al = some (.ins C dx [("letters", .str (S (srtL l))), ("vowels", .str (S (srtL v))), ("consonants", .str (S (consL l v))), ("signs", .str (S sg))]) := by
  obtain ⟨l, v, ⟨dx, h1⟩, e, z⟩ := h
  subst e
  exact ⟨dx, l, v, h1⟩
structure TbL (a : Ad) (H : Hp) (t al : Addr) (sg W : List Nat) (R : Rel) (lp : Addr) (qs : List (Addr × Nat × Nat)) : Prop where
  t : ∃ dx, H t = some (.ins a.cTable dx [("alphabet", .ref al), ("_pairs", .ref lp)])
  al : AlG a.cAlphabet H al sg W
  p : PrAt H lp qs
  c : qs.map (·.2) = canL sg R
def Tb (a : Ad) (H : Hp) (t al : Addr) (sg W : List Nat) (R : Rel) : Prop := ∃ lp qs, TbL a H t al sg W R lp qs
theorem TbL.same {a : Ad} {H H' : Hp} {t al lp : Addr} {sg W : List Nat} {R : Rel} {qs : List (Addr × Nat × Nat)} (h : TbL a H t al sg W R lp qs) (s : Same H H') : TbL a H' t al sg W R lp qs := by
  obtain ⟨⟨dx, h1⟩, h2, h3, h4⟩ := h
  exact ⟨⟨dx, s _ _ h1⟩, h2.same s, h3.same s, h4⟩
theorem Tb.same {a : Ad} {H H' : Hp} {t al : Addr} {sg W : List Nat} {R : Rel} (h : Tb a H t al sg W R) (s : Same H H') : Tb a H' t al sg W R := by
  obtain ⟨lp, qs, h⟩ := h
  exact ⟨lp, qs, h.same s⟩
theorem Tb.agr {a : Ad} {H : Hp} {t al : Addr} {sg W : List Nat} {R R' : Rel} (h : Tb a H t al sg W R) (ha : Asc sg) (g : Agr sg R R') : Tb a H t al sg W R' := by
  obtain ⟨lp, qs, h1, h2, h3, h4⟩ := h
  exact ⟨lp, qs, h1, h2, h3, by rw [h4, (can_iff ha).mpr g]⟩
theorem TbL.mem {a : Ad} {H : Hp} {t al lp : Addr} {sg W : List Nat} {R : Rel} {qs : List (Addr × Nat × Nat)} (h : TbL a H t al sg W R lp qs) {q : Addr × Nat × Nat} (hq : q ∈ qs) : q.2.1 ∈ sg ∧ q.2.2 ∈ sg ∧ R q.2.1 q.2.2 = true :=
  mem_can.mp (by rw [← h.c]; exact List.mem_map.mpr ⟨q, hq, rfl⟩)
theorem TbL.len {a : Ad} {H : Hp} {t al lp : Addr} {sg W : List Nat} {R : Rel} {qs : List (Addr × Nat × Nat)} (h : TbL a H t al sg W R lp qs) (g : SgOk sg) : qs.length ≤ 25 := by
  have h1 := can_len (R := R) g.a
  rw [← h.c, List.length_map] at h1
  have h2 := g.l
  have := Nat.mul_le_mul h2 h2
  omega
/-- rows of outs -/
def RowAt (H : Hp) (p : Addr) (sg : List Nat) (R : Rel) : Prop := H p = some (.lst ((outsL sg R).map fun r => V.str (S r)))
theorem RowAt.same {H H' : Hp} {p : Addr} {sg : List Nat} {R : Rel} (h : RowAt H p sg R) (s : Same H H') : RowAt H' p sg R := s _ _ h
theorem iGTup {K : PySem.W.Frag} {n : Nat} {t : TGs} {x : Addr} {xs : List V} {σ : L2.St} {H : Hp} {Q : L2.St → Hp → Prop} (h : H x = some (.tup xs)) (hn : xs.length = n) (k : t xs σ H Q) : gTup K n t (.ref x) σ H Q := ⟨x, xs, rfl, SqT.of h, hn, k⟩
theorem iGCons {t : TG} {u : TGs} {v : V} {r : List V} {σ : L2.St} {H : Hp} {Q : L2.St → Hp → Prop} (k : t v σ H fun σ' H' => u r σ' H' Q) : gCons t u (v :: r) σ H Q := ⟨v, r, rfl, k⟩
theorem iGNil {σ : L2.St} {H : Hp} {Q : L2.St → Hp → Prop} (k : Q σ H) : gNil [] σ H Q := ⟨rfl, k⟩
/-- a new list of new pairs, so far -/
def NewP (H1 : Hp) (D : Addr) (l : List (Nat × Nat)) (H : Hp) : Prop := ∃ ms : List (Addr × Nat × Nat), PrAt H D ms ∧ ms.map (·.2) = l ∧ Same H1 H
theorem NewP.start {H1 : Hp} {D : Addr} (h : H1 D = none) : NewP H1 D [] (upd H1 D (.lst [])) := ⟨[], ⟨upd_same, fun q hq => nomatch hq⟩, rfl, Same.upd_new h⟩
theorem newp_put {H1 H : Hp} {D p : Addr} {l : List (Nat × Nat)} {ms : List (Addr × Nat × Nat)} (hm : PrAt H D ms) (e : ms.map (·.2) = l) (s : Same H1 H) (hD : H1 D = none) (hp : H p = none) (hl : l.length < 4000) (x y : Nat) {l' : List (Nat × Nat)} (el : l' = l ++ [(x, y)]) :
    (upd H p (.tup [.str (S [x]), .str (S [y])])) D = some (.lst (ms.map fun q => V.ref q.1)) ∧ (ms.map fun q => V.ref q.1).length < sizeLine ∧ NewP H1 D l' (upd (upd H p (.tup [.str (S [x]), .str (S [y])])) D (.lst ((ms.map fun q => V.ref q.1) ++ [.ref p]))) := by
  subst el
  have hpD : p ≠ D := (ne_of_none hm.l hp).symm
  refine ⟨?_, ?_, ms ++ [(p, x, y)], ⟨?_, fun q hq => ?_⟩, ?_, fun c o hc => ?_⟩
  · rw [upd_ne hpD.symm]; exact hm.l
  · rw [← e, List.length_map] at hl
    rw [List.length_map, sizeLine_eq]; omega
  · rw [upd_same, List.map_append]; rfl
  · have hqD : q.1 ≠ D := by
      intro z
      rcases List.mem_append.mp hq with m | m
      · have := hm.t q m
        rw [z, hm.l] at this
        cases this
      · rw [List.mem_singleton.mp m] at z
        exact hpD z
    rw [upd_ne hqD]
    rcases List.mem_append.mp hq with m | m
    · have := hm.t q m
      rw [upd_ne (ne_of_none this hp)]
      exact this
    · rw [List.mem_singleton.mp m, upd_same]
  · rw [List.map_append, e]; rfl
  · have hcD : c ≠ D := fun z => by rw [z, hD] at hc; cases hc
    have h2 := s _ _ hc
    rw [upd_ne hcD, upd_ne (ne_of_none h2 hp)]
    exact h2
theorem unmap_in {α β : Type} (f : α → β) {m : List α} : ∀ L : List β, (∀ x ∈ L, x ∈ m.map f) → ∃ ms : List α, L = ms.map f ∧ ∀ q ∈ ms, q ∈ m
  | [], _ => ⟨[], rfl, fun q hq => nomatch hq⟩
  | x :: L, h => by
    obtain ⟨ms, e, g⟩ := unmap_in f L fun y hy => h y (List.mem_cons_of_mem _ hy)
    obtain ⟨q, hq, e2⟩ := List.mem_map.mp (h x List.mem_cons_self)
    exact ⟨q :: ms, by rw [e, List.map_cons, e2], fun z hz => by
      rcases List.mem_cons.mp hz with w | w
      · rw [w]; exact hq
      · exact g z w⟩
def keyP (q : Addr × Nat × Nat) : Addr × List Cell := (q.1, kp q.2)
theorem nodup_keys {ms : List (Addr × Nat × Nat)} (h : ((ms.map keyP).map (·.2)).Nodup) : (ms.map (·.2)).Nodup := by
  have e : (ms.map keyP).map (·.2) = (ms.map (·.2)).map kp := by rw [List.map_map, List.map_map]; rfl
  rw [e] at h
  exact List.Pairwise.imp (fun q z => q (by rw [z])) (List.pairwise_map.mp h)
theorem few_keys {sg : List Nat} (hs : SgOk sg) {qs : List (Addr × Nat × Nat)} (hq : ∀ q ∈ qs, q.2.1 ∈ sg ∧ q.2.2 ∈ sg) (L : List (Addr × List Cell)) (hn : (L.map (·.2)).Nodup) (hi : ∀ x ∈ L, x ∈ qs.map keyP) : L.length < 63 := by
  obtain ⟨ms, rfl, g⟩ := unmap_in keyP L hi
  have h1 := few_pairs (sg := sg) (nodup_keys hn) fun x hx => by
    obtain ⟨q, hq2, e⟩ := List.mem_map.mp hx
    rw [← e]
    exact hq q (g q hq2)
  rw [List.length_map] at h1 ⊢
  have := Nat.mul_le_mul hs.l hs.l
  omega
theorem set_sort {sg : List Nat} (hs : SgOk sg) {qs : List (Addr × Nat × Nat)} (hq : ∀ q ∈ qs, q.2.1 ∈ sg ∧ q.2.2 ∈ sg) {L L' : List (Addr × List Cell)} (hi : ∀ x ∈ L, x ∈ qs.map keyP) (hc : ∀ x ∈ qs.map keyP, x.2 ∈ L.map (·.2))
    (pm : L'.Perm L) (nd : (L'.map (·.2)).Nodup) (od : InOrder L') : ∃ ms : List (Addr × Nat × Nat), L' = ms.map keyP ∧ (∀ q ∈ ms, q ∈ qs) ∧ ms.map (·.2) = canL sg (relQ (qs.map (·.2))) := by
  obtain ⟨ms, rfl, g⟩ := unmap_in keyP L' fun x hx => hi x (pm.mem_iff.mp hx)
  have nd2 := nodup_keys nd
  refine ⟨ms, rfl, g, can_of hs.a (plt_of_order ?_ nd2) (fun x => ⟨fun hx => ?_, fun hx => ?_⟩) fun x hx => ?_⟩
  · unfold InOrder at od
    rw [List.pairwise_map] at od ⊢
    exact od
  · obtain ⟨q, h1, e⟩ := List.mem_map.mp hx
    exact List.mem_map.mpr ⟨q, g q h1, e⟩
  · obtain ⟨q, h1, e⟩ := List.mem_map.mp hx
    have h2 := hc (keyP q) (List.mem_map.mpr ⟨q, h1, rfl⟩)
    rw [← (pm.map (·.2)).mem_iff] at h2
    obtain ⟨z, h3, e3⟩ := List.mem_map.mp h2
    obtain ⟨q2, h4, e4⟩ := List.mem_map.mp h3
    rw [← e4] at e3
    have e5 : q2.2 = q.2 := kp_inj e3
    exact List.mem_map.mpr ⟨q2, h4, by rw [e5, e]⟩
  · obtain ⟨q, h1, e⟩ := List.mem_map.mp hx
    rw [← e]
    exact hq q h1
end
section
set_option Elab.async false
set_option linter.all false
set_option maxRecDepth 100000
set_option maxHeartbeats 4000000
open PySem PySem.Spec PyProof.Rows L2 NSet

local macro_rules | `(tactic| walk_at "side") => `(tactic| exact .inl (by assumption))

section
variable {P : Program} {w : World} {K : PySem.W.Frag} {mg : Str → Option Value} {base : Heap} {a : Ad} {d : Fd}
def spIsSign (a : Ad) : Sp := fun vs H Q _ => ∃ (al : Addr) (c : Nat) (sg W : List Nat), vs = [.ref al, .str (S [c])] ∧ AlG a.cAlphabet H al sg W ∧ sg.length ≤ 5 ∧ Q (.bl (decide (c ∈ sg))) H
theorem scIsSign : FnScope ["self", "text"] ["self", "text"] (defScope sIsSign) := ⟨rfl, rfl, rfl, by decide +kernel, rfl, by decide +kernel, by decide +kernel⟩
theorem ok_isSign (T : Fns K mg a d) : FnOk P w K mg base CX0 1 a.aIsSign d.dIsSign ["self", "text"] (spIsSign a) := by
  refine T.FIsSign.ok scIsSign (fun vs H Q E h => ?_) (fun cdv A outer s H vs Q E hr h => ?_)
  · obtain ⟨al, c, sg, W, rfl, _⟩ := h
    rfl
  · obtain ⟨al, c, sg, W, rfl, ⟨l, v, ⟨dx, hal⟩, e1, e2⟩, hl, k⟩ := h
    subst e1
    refine ⟨_, ((pss_one (ps_ret (pe_and (pe_cmpR op_eq (pe_callB call_lenS (by rfl) T.z_len (by decide +kernel) (pa_cons (pv 1) pa_nil)) pe_int (nomark _)) (pe_one (pe_cmpR op_inS (pv 1) (pe_fld (pv 0) rfl) rfl)))))), ?_⟩
    have nS := T.nS
    have hcl := T.clA
    unfold alF at hal
    walk_at "go"
    exact k
/-- all alphabets alike or Mixed -/
def Alike (sg W sg2 W2 : List Nat) : Prop := sg = sg2 ∧ W = W2
instance (sg W sg2 W2 : List Nat) : Decidable (Alike sg W sg2 W2) := by unfold Alike; infer_instance
theorem alike_eq {l2 v2 l v : List Nat} : decide (Alike (45 :: srtL l2) (srtL v2) (45 :: srtL l) (srtL v)) = AlEq l2 v2 l v := by
  rw [Bool.eq_iff_iff, decide_eq_true_iff]
  unfold Alike AlEq
  simp
end
end
section
set_option Elab.async false
set_option linter.all false
set_option maxRecDepth 100000
set_option maxHeartbeats 4000000
open PySem PySem.Spec PyProof.Rows L2 NSet

local macro_rules | `(tactic| walk_at "side") => `(tactic| exact .inl (by assumption))
local macro_rules | `(tactic| walk_at "go1") => `(tactic| (with_reducible refine iGTup (by assumption) rfl ?_))
local macro_rules | `(tactic| walk_at "go1") => `(tactic| (with_reducible refine iGCons ?_))
local macro_rules | `(tactic| walk_at "go1") => `(tactic| (with_reducible refine iGNil ?_))

section
variable {P : Program} {w : World} {K : PySem.W.Frag} {mg : Str → Option Value} {base : Heap} {a : Ad} {d : Fd}
def relP (qs : List (Addr × Nat × Nat)) : Rel := relQ (qs.map (·.2))
def spInit (a : Ad) : Sp := fun vs H Q _ => ∃ (t al p dx : Addr) (sg W : List Nat) (qs : List (Addr × Nat × Nat)), vs = [.ref t, .ref al, .ref p] ∧ H t = some (.ins a.cTable dx []) ∧ AlG a.cAlphabet H al sg W ∧ SgOk sg ∧ PrAt H p qs ∧ qs.length ≤ 4000 ∧ (∀ q ∈ qs, q.2.1 ∈ sg ∧ q.2.2 ∈ sg) ∧
  ∀ lp ms H', H lp = none → Kp t H H' → (TbL a H' t al sg W (relP qs) lp ms) → Q .non H'
theorem scTInit : FnScope ["self", "alphabet", "pairs", "index", "told", "out"] ["self", "alphabet", "pairs"] (defScope sTInit) := ⟨rfl, rfl, rfl, by decide +kernel, rfl, by decide +kernel, by decide +kernel⟩
theorem ok_init (T : Fns K mg a d) : FnOk P w K mg base (L2.CX P w) 3 a.aTInit d.dTInit ["self", "alphabet", "pairs"] (spInit a) := by
  have GIsSign : FnOk P w K mg base CX0 1 a.aIsSign d.dIsSign ["self", "text"] (spIsSign a) := ok_isSign T
  have GBadPair : FnOk P w K mg base CX0 1 a.eBadPair d.eBadPair ["self", "index"] (fun _ _ _ _ => False) := ⟨fun _ _ _ _ h => h.elim, fun _ _ _ _ _ _ _ _ _ _ _ _ _ h => h.elim⟩
  refine T.FTInit.okX scTInit (fun vs H Q E h => ?_) (fun cdv A outer s H vs Q E hr h => ?_)
  · obtain ⟨t, al, p, dx, sg, W, qs, rfl, _⟩ := h
    rfl
  · obtain ⟨t, al, p, dx, sg, W, qs, rfl, ht, hal, hsg, hp, hl, hm, k⟩ := h
    refine ⟨_, ((pss_cons (ps_for (passes_of rfl) rfl (pi_enum (by rfl) T.z_enum (pa_cons (pv 2) pa_nil)) (pg_tup rfl (pgs_cons (pg_name (i := 3) scTInit.nd rfl (Or.inl rfl)) (pgs_cons (pg_tup rfl (pgs_cons (pg_name (i := 4) scTInit.nd rfl (Or.inl rfl)) (pgs_cons (pg_name (i := 5) scTInit.nd rfl (Or.inl rfl)) pgs_nil))) pgs_nil))) (pss_one (ps_if (pt_not (PW.pt (pw_and (pt_val (pe_meth (pv 1) T.clA T.mIsSign GIsSign (hr.mono (by decide)) T.bIsSign .nil pass0 (pa_cons (pv 4) pa_nil))) (pw_and1 (pt_val (pe_meth (pv 1) T.clA T.mIsSign GIsSign (hr.mono (by decide)) T.bIsSign .nil pass0 (pa_cons (pv 5) pa_nil))))))) (pss_one (ps_raise rfl (takes_of rfl rfl rfl rfl) (pmk_oex T.xBadPair.ox T.xBadPair.iC T.xBadPair.tI GBadPair (hr.mono (by decide)) T.xBadPair.bB .nil pass0 (by rfl) T.xBadPair.gB (pa_cons (pv 3) pa_nil)))) pss_nil)))
      (pss_cons (ps_fld (pv 0) (pv 1) rfl)
      (pss_one (ps_fld (pv 0) (pe_callB (cr_sortN rfl) (by rfl) T.z_sorted (by decide +kernel) (pa_cons (pe_callTy (cr_setN rfl (Nat.lt_of_succ_lt hr.unitu)) (by rfl) T.z_set (by decide +kernel) (pa_cons (pe_lc (own := [("told", 4), ("out", 5)]) (g := (gTup K 2 (gCons (gName 4) (gCons (gName 5) gNil)))) (by rfl) scTInit.nd (pi_list (pv 2)) (blkOk_by (own := [("told", 4), ("out", 5)]) (N := ["self", "alphabet", "pairs", "index", "told", "out"]) (sc := defScope sTInit) (by decide +kernel)) (fun _ _ _ _ _ => (pg_tup rfl (pgs_cons (pg_name (i := 4) scTInit.nd rfl (Or.inl rfl)) (pgs_cons (pg_name (i := 5) scTInit.nd rfl (Or.inl rfl)) pgs_nil)))) (fun _ _ _ _ _ => pts_nil) (fun _ _ _ _ _ => (pe_tup (pa_cons (pv 4) (pa_cons (pv 5) pa_nil))))) pa_nil)) pa_nil)) rfl))))), ?_⟩
    have clA := T.clA
    have hpl := hp.l
    refine ⟨_, rfl, p, _, rfl, SqL.of hpl, for_it (walk_enum (K := K) (a := p) (xs := qs.map fun q => V.ref q.1)) (fun i σ H' => Stop (∃ (v3 v4 v5 : Option V), σ = [some (.ref t), some (.ref al), some (.ref p), v3, v4, v5] ∧ Same H H')) ⟨none, none, none, rfl, fun _ _ h => h⟩ (fun i σ H' _ hP => ?_) ?_ ?_⟩
    · obtain ⟨v3, v4, v5, rfl, s⟩ := hP
      exact SqL.of (s _ _ hpl)
    · rintro i x σ H4 H5 hi ⟨v3, v4, v5, rfl, s⟩ ⟨Tp, x1, y1, rfl, hTp, rfl, hx1, hy1⟩
      cases hx1
      have hy1 : (qs.map fun q => V.ref q.1)[i]? = some y1 := hy1
      rw [List.getElem?_map] at hy1
      obtain ⟨q, hq, rfl⟩ := Option.map_eq_some_iff.mp hy1
      have hqm := List.mem_of_getElem? hq
      have s5 := Vk.Same.trans s (Same.upd_new (o := .tup [.int (i : Nat), .ref q.1]) hTp)
      have hT5 : (upd H4 Tp (.tup [.int (i : Nat), .ref q.1])) Tp = some (.tup [.int (i : Nat), .ref q.1]) := upd_same
      generalize upd H4 Tp (.tup [.int (i : Nat), .ref q.1]) = H5 at s5 hT5 ⊢
      have hqt := s5 _ _ (hp.t q hqm)
      have hal5 := hal.same s5
      obtain ⟨dxa, ll, vv, hi5⟩ := hal5.ins
      have hl5 := hsg.l
      have hm5 := hm q hqm
      walk_at "go"
      refine ⟨al, q.2.1, sg, W, rfl, hal5, hl5, ?_⟩
      rw [decide_eq_true hm5.1]
      walk_at "go"
      refine ⟨al, q.2.2, sg, W, rfl, hal5, hl5, ?_⟩
      rw [decide_eq_true hm5.2]
      walk_at "go"
      exact ⟨_, _, _, rfl, s5⟩
    · rintro σ H4 ⟨v3, v4, v5, rfl, s⟩
      have ht4 := s _ _ ht
      have hcT := T.clT
      have hnTa := T.nTa
      have hnTp := T.nTp
      have hp4 := hp.same s
      have hal4 := hal.same s
      have np4 : p ≠ t := fun z => by
        have := hp4.l
        rw [z, ht4] at this
        cases this
      have nal : al ≠ t := fun z => by
        obtain ⟨dxa, ll, vv, e⟩ := hal4.ins
        rw [z, ht4] at e
        injection (Option.some.inj e) with _ _ e3
        cases e3
      walk_at "go"
      rename_i D hD
      have n1 : putF "alphabet" (V.ref al) [] = ([("alphabet", V.ref al)] : List (Str × V)) := rfl
      rw [n1] at hD ⊢
      generalize hH1 : upd H4 t (.ins a.cTable dx [("alphabet", .ref al)]) = H1 at hD ⊢
      have kp1 : Kp t H H1 := fun c o hc e => by rw [← hH1, upd_ne hc]; exact s _ _ e
      have ht1 : H1 t = some (.ins a.cTable dx [("alphabet", .ref al)]) := by rw [← hH1]; exact upd_same
      have hp1 : PrAt H1 p qs := ⟨kp1 _ _ np4 hp.l, fun q hq => kp1 _ _ (fun z => by
        have := hp.t q hq
        rw [z, ht] at this
        cases this) (hp.t q hq)⟩
      have hal1 : AlG a.cAlphabet H1 al sg W := by
        obtain ⟨l, v, ⟨dxa, e⟩, z⟩ := hal
        exact ⟨l, v, ⟨dxa, kp1 _ _ nal e⟩, z⟩
      refine lc_list (K := K) (a := p) (xs := qs.map fun q => V.ref q.1) (fun i H' => NewP H1 D ((qs.map (·.2)).take i) H') (NewP.start hD) (fun i H' _ h => SqL.of (by obtain ⟨_, _, _, s⟩ := h; exact s _ _ hp1.l)) ?_ ?_
      · rintro i x H5 hi hP
        rw [List.getElem?_map] at hi
        obtain ⟨q, hq, rfl⟩ := Option.map_eq_some_iff.mp hi
        have hqm := List.mem_of_getElem? hq
        have hil := (List.getElem?_eq_some_iff.mp hq).1
        obtain ⟨ms, hms, ems, s5⟩ := id hP
        have hqt := s5 _ _ (hp1.t q hqm)
        walk_at "go"
        rename_i pp hpp
        exact newp_put (l' := (qs.map (·.2)).take (i + 1)) hms ems s5 hD hpp (by rw [List.length_take]; omega) q.2.1 q.2.2 (by
          rw [List.take_add_one, List.getElem?_map, hq]
          rfl)
      · rintro H5 ⟨ms, hms, ems, s5⟩
        rw [List.length_map, List.take_of_length_le (by rw [List.length_map]; exact Nat.le_refl _)] at ems
        have hmq : ∀ q ∈ ms, q.2.1 ∈ sg ∧ q.2.2 ∈ sg := fun q hq => by
          have : q.2 ∈ qs.map (·.2) := by rw [← ems]; exact List.mem_map.mpr ⟨q, hq, rfl⟩
          obtain ⟨z, hz, e⟩ := List.mem_map.mp this
          rw [← e]
          exact hm z hz
        refine ⟨D, ms.map keyP, rfl, SqL.of (by rw [List.map_map]; exact hms.l), fun x hx => ?_, few_keys hsg hmq, fun st L hst hnd hin hcov => ?_⟩
        · obtain ⟨q, hq, rfl⟩ := List.mem_map.mp hx
          exact SqT.of (hms.t q hq)
        walk_at "go"
        show rSortN K w [V.ref st] (upd H5 st (NSet.SetN w st L)) _
        have s6 : Same H5 (upd H5 st (NSet.SetN w st L)) := Same.upd_new hst
        have hst6 : (upd H5 st (NSet.SetN w st L)) st = some (NSet.SetN w st L) := upd_same
        generalize upd H5 st (NSet.SetN w st L) = H6 at s6 hst6 ⊢
        refine ⟨st, L, fun _ => true, rfl, hst6, fun x hx => ?_, fun L' lp pm nd lt od hlp => ?_⟩
        · obtain ⟨q, hq, rfl⟩ := List.mem_map.mp (hin x hx)
          exact ⟨SqT.of (s6 _ _ (hms.t q hq)), ⟨rfl, rfl, trivial⟩, by unfold keyP kp; simp⟩
        obtain ⟨ns, eL, gns, ens⟩ := set_sort hsg hmq hin hcov pm nd od
        rw [ems] at ens
        subst eL
        have s7 : Same H6 (upd H6 lp (.lst ((ns.map keyP).map fun q => V.ref q.1))) := Same.upd_new hlp
        have hlp7 : (upd H6 lp (.lst ((ns.map keyP).map fun q => V.ref q.1))) lp = some (.lst (ns.map fun q => V.ref q.1)) := by rw [upd_same, List.map_map]; rfl
        generalize upd H6 lp (.lst ((ns.map keyP).map fun q => V.ref q.1)) = H7 at s7 hlp7 ⊢
        have s57 := Vk.Same.trans s5 (Vk.Same.trans s6 s7)
        have ht7 := s57 _ _ ht1
        have hal7 := hal1.same s57
        walk_at "go"
        have n2 : putF "_pairs" (V.ref lp) [("alphabet", V.ref al)] = ([("alphabet", V.ref al), ("_pairs", V.ref lp)] : List (Str × V)) := by
          show (if ("alphabet" : Str) = "_pairs" then _ else (("alphabet" : Str), V.ref al) :: putF "_pairs" (V.ref lp) []) = _
          rw [if_neg (by decide +kernel)]
          rfl
        rw [n2]
        have h16 := Vk.Same.trans s5 s6
        have nlt : lp ≠ t := fun z => by
          rw [z, h16 _ _ ht1] at hlp
          cases hlp
        have nqt : ∀ q ∈ ns, q.1 ≠ t := fun q hq z => by
          have := s57 
          have h8 := Vk.Same.trans s6 s7 _ _ (hms.t q (gns q hq))
          rw [z, ht7] at h8
          cases h8
        refine k lp ns _ ?_ (Kp.trans (Kp.trans kp1 (Vk.Same.kp s57 t)) (Kp.upd t H7 _)) ⟨⟨dx, upd_same⟩, ?_, ⟨by rw [upd_ne nlt]; exact hlp7, fun q hq => by rw [upd_ne (nqt q hq)]; exact Vk.Same.trans s6 s7 _ _ (hms.t q (gns q hq))⟩, ens⟩
        · cases hh : H lp with
          | none => rfl
          | some o =>
            rw [h16 _ _ (kp1 _ _ nlt hh)] at hlp
            cases hlp
        · obtain ⟨l, v, ⟨dxa, e⟩, z⟩ := hal7
          exact ⟨l, v, ⟨dxa, by rw [upd_ne nal]; exact e⟩, z⟩
end
end
section
set_option Elab.async false
set_option linter.all false
set_option maxRecDepth 100000
set_option maxHeartbeats 4000000
open PySem PySem.Spec PyProof.Rows L2 NSet

local macro_rules | `(tactic| walk_at "side") => `(tactic| exact .inl (by assumption))
local macro_rules | `(tactic| walk_at "go1") => `(tactic| (with_reducible refine iGTup (by assumption) rfl ?_))
local macro_rules | `(tactic| walk_at "go1") => `(tactic| (with_reducible refine iGCons ?_))
local macro_rules | `(tactic| walk_at "go1") => `(tactic| (with_reducible refine iGNil ?_))
local macro_rules | `(tactic| walk_at "go1") => `(tactic| (with_reducible refine iMakeV ?_))
local macro_rules | `(tactic| walk_at "go1") => `(tactic| (with_reducible refine iMakeD ?_))
local macro_rules | `(tactic| walk_at "go1") => `(tactic| (with_reducible refine iLc2S ?_))
local macro_rules | `(tactic| walk_at "go1") => `(tactic| (with_reducible refine iLc2L ?_))
local macro_rules | `(tactic| walk_at "go1") => `(tactic| (with_reducible refine iIStr ?_))

section
variable {P : Program} {w : World} {K : PySem.W.Frag} {mg : Str → Option Value} {base : Heap} {a : Ad} {d : Fd}
/-- what Table(..) asks: one place for all makers -/
theorem iMk {a : Ad} {t al p dx : Addr} {H0 : Hp} {sg W : List Nat} {qs : List (Addr × Nat × Nat)} {Q : VK} {E : XK} (ht : H0 t = none) (hd : H0 dx = none) (hn : dx ≠ t) (hal : AlG a.cAlphabet H0 al sg W) (hs : SgOk sg) (hp : PrAt H0 p qs) (hl : qs.length ≤ 4000) (hm : ∀ q ∈ qs, q.2.1 ∈ sg ∧ q.2.2 ∈ sg)
    (k : ∀ lp ms H', H0 lp = none → Same H0 H' → TbL a H' t al sg W (relP qs) lp ms → Q (.ref t) H') : spInit a [.ref t, .ref al, .ref p] (upd (upd H0 dx (.own t)) t (.ins a.cTable dx [])) (fun v H2 => v = .non ∧ Q (.ref t) H2) E := by
  have s1 : Same H0 (upd (upd H0 dx (.own t)) t (.ins a.cTable dx [])) := fun c o hc => by
    rw [upd_ne (fun z => by rw [z, ht] at hc; cases hc), upd_ne (fun z => by rw [z, hd] at hc; cases hc)]
    exact hc
  refine ⟨t, al, p, dx, sg, W, qs, rfl, upd_same, hal.same s1, hs, hp.same s1, hl, hm, fun lp ms H' h1 h2 h3 => ⟨rfl, k lp ms H' (Same.free s1 h1) (fun c o hc => ?_) h3⟩⟩
  exact h2 c o (fun z => by rw [z, ht] at hc; cases hc) (s1 c o hc)
theorem fm_len (sg : List Nat) : ∀ l : List Nat, (l.flatMap fun s => sg.map fun t => (s, t)).length ≤ l.length * sg.length
  | [] => by simp
  | a :: l => by
    rw [List.flatMap_cons, List.length_append, List.length_map, List.length_cons, Nat.succ_mul]
    have := fm_len sg l
    omega
theorem mem_ms {ms : List (Addr × Nat × Nat)} {l : List (Nat × Nat)} (e : ms.map (·.2) = l) {q : Addr × Nat × Nat} (hq : q ∈ ms) : q.2 ∈ l := by
  rw [← e]
  exact List.mem_map.mpr ⟨q, hq, rfl⟩
def spTId (a : Ad) : Sp := fun vs H Q _ => ∃ (al : Addr) (sg W : List Nat), vs = [.ref a.cTable, .ref al] ∧ AlG a.cAlphabet H al sg W ∧ SgOk sg ∧ ∀ t H', Same H H' → Tb a H' t al sg W (fun s t => decide (s = t)) → Q (.ref t) H'
def spTEmp (a : Ad) : Sp := fun vs H Q _ => ∃ (al : Addr) (sg W : List Nat), vs = [.ref a.cTable, .ref al] ∧ AlG a.cAlphabet H al sg W ∧ SgOk sg ∧ ∀ t H', Same H H' → Tb a H' t al sg W (fun _ _ => false) → Q (.ref t) H'
def spTFull (a : Ad) : Sp := fun vs H Q _ => ∃ (al : Addr) (sg W : List Nat), vs = [.ref a.cTable, .ref al] ∧ AlG a.cAlphabet H al sg W ∧ SgOk sg ∧ ∀ t H', Same H H' → Tb a H' t al sg W (fun _ _ => true) → Q (.ref t) H'
def MkT (K : PySem.W.Frag) (a : Ad) : Prop := Mk K a.cTable a.aTInit
theorem scTEmp : FnScope ["cls", "alphabet"] ["cls", "alphabet"] (defScope sTEmp) := ⟨rfl, rfl, rfl, by decide +kernel, rfl, by decide +kernel, by decide +kernel⟩
theorem ok_emp (T : Fns K mg a d) (MT : Mk K a.cTable a.aTInit) (bTInit : Binds K d.dTInit ["self", "alphabet", "pairs"] []) : FnOk P w K mg base (L2.CX P w) 5 a.aTEmp d.dTEmp ["cls", "alphabet"] (spTEmp a) := by
  have GTInit := ok_init (P := P) (w := w) (base := base) T
  refine T.FTEmp.okX scTEmp (fun vs H Q E h => ?_) (fun cdv A outer s H vs Q E hr h => ?_)
  · obtain ⟨al, sg, W, rfl, _⟩ := h
    rfl
  · obtain ⟨al, sg, W, rfl, hal, hsg, k⟩ := h
    refine ⟨_, ((pss_one (ps_ret (pe_makeV (pv 0) MT GTInit (hr.mono (by decide)) bTInit .nil (passes_call (takes_of rfl rfl rfl rfl) (fun _ _ _ _ h => h)) (pa_cons (pv 1) (pa_cons (pe_lst pa_nil) pa_nil)))))), ?_⟩
    walk_at "go"
    rename_i p hp
    intro x dx hx hd hn
    have s1 : Same H (upd H p (.lst [])) := Same.upd_new hp
    exact iMk (qs := []) hx hd hn (hal.same s1) hsg ⟨upd_same, fun q hq => nomatch hq⟩ (by simp) (fun q hq => nomatch hq) fun lp ms H' h1 h2 h3 => k _ _ (Vk.Same.trans s1 h2) (Tb.agr ⟨lp, ms, h3⟩ hsg.a fun s _ t _ => by simp [relP, relQ])
theorem scTId : FnScope ["cls", "alphabet", "sign"] ["cls", "alphabet"] (defScope sTId) := ⟨rfl, rfl, rfl, by decide +kernel, rfl, by decide +kernel, by decide +kernel⟩
theorem ok_id (T : Fns K mg a d) (MT : Mk K a.cTable a.aTInit) (bTInit : Binds K d.dTInit ["self", "alphabet", "pairs"] []) : FnOk P w K mg base (L2.CX P w) 5 a.aTId d.dTId ["cls", "alphabet"] (spTId a) := by
  have GTInit := ok_init (P := P) (w := w) (base := base) T
  refine T.FTId.okX scTId (fun vs H Q E h => ?_) (fun cdv A outer s H vs Q E hr h => ?_)
  · obtain ⟨al, sg, W, rfl, _⟩ := h
    rfl
  · obtain ⟨al, sg, W, rfl, hal, hsg, k⟩ := h
    have clA := T.clA
    have nS := T.nS
    obtain ⟨dxa, ll, vv, hi⟩ := hal.ins
    refine ⟨_, ((pss_one (ps_ret (pe_makeV (pv 0) MT GTInit (hr.mono (by decide)) bTInit .nil (passes_call (takes_of rfl rfl rfl rfl) (fun _ _ _ _ h => h)) (pa_cons (pv 1) (pa_cons (pe_lc (own := [("sign", 2)]) (g := gName 2) (by rfl) scTId.nd (pi_str (pe_fld (pv 1) rfl)) (blkOk_by (own := [("sign", 2)]) (N := ["cls", "alphabet", "sign"]) (sc := defScope sTId) (by decide +kernel)) (fun _ _ _ _ _ => pg_name (i := 2) scTId.nd rfl (Or.inl rfl)) (fun _ _ _ _ _ => pts_nil) (fun _ _ _ _ _ => (pe_tup (pa_cons (pv 2) (pa_cons (pv 2) pa_nil))))) pa_nil)))))), ?_⟩
    walk_at "go"
    rename_i D hD
    refine lcg_S (fun i H' => NewP H D ((sg.take i).map fun s => (s, s)) H') (NewP.start hD) (fun _ => rfl) (fun i c H' hc hP => ?_) (fun H' hP => ?_)
    · obtain ⟨ms, hms, ems, s5⟩ := id hP
      have := hsg.l
      walk_at "go"
      rename_i pp hpp
      exact newp_put (l' := ((sg.take (i + 1)).map fun s => (s, s))) hms ems s5 hD hpp (by rw [List.length_map, List.length_take]; omega) c c (by
        rw [List.take_add_one, hc, List.map_append]
        rfl)
    · obtain ⟨ms, hms, ems, s5⟩ := hP
      rw [List.take_length] at ems
      have hl5 := hsg.l
      walk_at "go"
      intro x dx hx hd hn
      refine iMk (qs := ms) hx hd hn (hal.same s5) hsg hms ?_ (fun q hq => ?_) fun lp ns H' h1 h2 h3 => k _ _ (Vk.Same.trans s5 h2) (Tb.agr ⟨lp, ns, h3⟩ hsg.a fun s hs t ht => ?_)
      · rw [← List.length_map (f := (·.2)), ems, List.length_map]
        omega
      · obtain ⟨s, hs, e⟩ := List.mem_map.mp (mem_ms ems hq)
        rw [← e]
        exact ⟨hs, hs⟩
      · unfold relP relQ
        rw [ems, Bool.eq_iff_iff, decide_eq_true_iff, decide_eq_true_iff, List.mem_map]
        exact ⟨fun ⟨u, _, e⟩ => by cases e; rfl, fun e => ⟨s, hs, by rw [e]⟩⟩
theorem scTFull : FnScope ["cls", "alphabet", "told", "out"] ["cls", "alphabet"] (defScope sTFull) := ⟨rfl, rfl, rfl, by decide +kernel, rfl, by decide +kernel, by decide +kernel⟩
theorem ok_full (T : Fns K mg a d) (MT : Mk K a.cTable a.aTInit) (bTInit : Binds K d.dTInit ["self", "alphabet", "pairs"] []) : FnOk P w K mg base (L2.CX P w) 5 a.aTFull d.dTFull ["cls", "alphabet"] (spTFull a) := by
  have GTInit := ok_init (P := P) (w := w) (base := base) T
  refine T.FTFull.okX scTFull (fun vs H Q E h => ?_) (fun cdv A outer s H vs Q E hr h => ?_)
  · obtain ⟨al, sg, W, rfl, _⟩ := h
    rfl
  · obtain ⟨al, sg, W, rfl, hal, hsg, k⟩ := h
    have clA := T.clA
    have nS := T.nS
    obtain ⟨dxa, ll, vv, hi⟩ := hal.ins
    refine ⟨_, ((pss_one (ps_ret (pe_makeV (pv 0) MT GTInit (hr.mono (by decide)) bTInit .nil (passes_call (takes_of rfl rfl rfl rfl) (fun _ _ _ _ h => h)) (pa_cons (pv 1) (pa_cons (pe_lc2 (own := [("told", 2), ("out", 3)]) (vs1 := [3]) (g := (gName 2)) (g1 := (gName 3)) (by rfl) scTFull.nd (pi_str (pe_fld (pv 1) rfl)) (blkOk_by (own := [("told", 2), ("out", 3)]) (N := ["cls", "alphabet", "told", "out"]) (sc := defScope sTFull) (by decide +kernel)) (by decide) (fun _ _ _ _ _ => (pg_name (i := 2) scTFull.nd rfl (Or.inl rfl))) (fun _ _ _ _ _ => pts_nil) (fun _ _ _ _ _ => (pi_str (pe_fldK (K := K) (by rfl) (pv 1) (by rfl)))) (fun _ _ _ _ _ => (pg_name (i := 3) scTFull.nd rfl (Or.inl rfl))) (fun _ _ _ _ _ => pts_nil) (fun _ _ _ _ _ => (pe_tup (pa_cons (pv 2) (pa_cons (pv 3) pa_nil))))) pa_nil)))))), ?_⟩
    walk_at "go"
    rename_i D hD
    have hl5 := hsg.l
    refine lc2_it walk_S (fun i H' => NewP H D ((sg.take i).flatMap fun s => sg.map fun t => (s, t)) H') (NewP.start hD) (fun _ _ _ _ => trivial) ?_ (fun H' hP => ?_)
    · rintro i x H5 H6 hii hP ⟨rfl, c, hc, rfl⟩
      obtain ⟨ms0, hms0, ems0, s50⟩ := id hP
      have hi5 := s50 _ _ hi
      walk_at "go"
      refine inner_it walk_S (fun j H' => NewP H D (((sg.take i).flatMap fun s => sg.map fun t => (s, t)) ++ (sg.take j).map fun t => (c, t)) H') (by rw [List.take_zero, List.map_nil, List.append_nil]; exact hP) (fun _ _ _ _ => trivial) ?_ (fun H' hP2 => ?_)
      · rintro j x H7 H8 hj hP2 ⟨rfl, c2, hc2, rfl⟩
        obtain ⟨ms, hms, ems, s5⟩ := id hP2
        walk_at "go"
        rename_i pp hpp
        exact newp_put (l' := (((sg.take i).flatMap fun s => sg.map fun t => (s, t)) ++ (sg.take (j + 1)).map fun t => (c, t))) hms ems s5 hD hpp (by
          have h1 := fm_len sg (sg.take i)
          rw [List.length_take] at h1
          have h2 := Nat.mul_le_mul (show min i sg.length ≤ 5 by omega) hl5
          rw [List.length_append, List.length_map, List.length_take]
          omega) c c2 (by
          rw [List.take_add_one, hc2, List.map_append, ← List.append_assoc]
          rfl)
      · rw [List.take_length] at hP2
        rw [List.take_add_one, hc, List.flatMap_append]
        simpa using hP2
    · obtain ⟨ms, hms, ems, s5⟩ := hP
      rw [List.take_length] at ems
      walk_at "go"
      intro x dx hx hd hn
      refine iMk (qs := ms) hx hd hn (hal.same s5) hsg hms ?_ (fun q hq => ?_) fun lp ns H' h1 h2 h3 => k _ _ (Vk.Same.trans s5 h2) (Tb.agr ⟨lp, ns, h3⟩ hsg.a fun s hs t ht => ?_)
      · rw [← List.length_map (f := (·.2)), ems]
        have h1 := fm_len sg sg
        have h2 := Nat.mul_le_mul hl5 hl5
        omega
      · obtain ⟨s, hs, h⟩ := List.mem_flatMap.mp (mem_ms ems hq)
        obtain ⟨t, ht, e⟩ := List.mem_map.mp h
        rw [← e]
        exact ⟨hs, ht⟩
      · unfold relP relQ
        rw [ems, decide_eq_true_iff]
        exact List.mem_flatMap.mpr ⟨s, hs, List.mem_map.mpr ⟨t, ht, rfl⟩⟩
end
end
section
set_option Elab.async false
set_option linter.all false
set_option maxRecDepth 100000
set_option maxHeartbeats 4000000
open PySem PySem.Spec PyProof.Rows L2 NSet

local macro_rules | `(tactic| walk_at "side") => `(tactic| exact .inl (by assumption))
local macro_rules | `(tactic| walk_at "go1") => `(tactic| (with_reducible refine iGTup (by assumption) rfl ?_))
local macro_rules | `(tactic| walk_at "go1") => `(tactic| (with_reducible refine iGCons ?_))
local macro_rules | `(tactic| walk_at "go1") => `(tactic| (with_reducible refine iGNil ?_))
local macro_rules | `(tactic| walk_at "go1") => `(tactic| (with_reducible refine iMakeV ?_))
local macro_rules | `(tactic| walk_at "go1") => `(tactic| (with_reducible refine iMakeD ?_))
local macro_rules | `(tactic| walk_at "go1") => `(tactic| (with_reducible refine iLc2S ?_))
local macro_rules | `(tactic| walk_at "go1") => `(tactic| (with_reducible refine iLc2L ?_))
local macro_rules | `(tactic| walk_at "go1") => `(tactic| (with_reducible refine iIStr ?_))

/-! pairs and rows as data -/
theorem okS1 {c : Nat} (h : c < 0x110000) : PyData.strOk (S [c]) = true := by
  show [c].toArray.all (fun c => decide (c < 0x110000)) = true
  simp
  exact h
def dq (q : Nat × Nat) : PyData := .tuple [.str (S [q.1]), .str (S [q.2])]
theorem dp_tup {K : PySem.W.Frag} {H : Hp} {x : Addr} {q : Nat × Nat} (h : H x = some (.tup [.str (S [q.1]), .str (S [q.2])])) : Dp K H (.ref x) (dq q) := .tup (SqT.of h) (.cons (.str _) (.cons (.str _) .nil))
theorem dp_allp {K : PySem.W.Frag} {H : Hp} : ∀ qs : List (Addr × Nat × Nat), (∀ q ∈ qs, H q.1 = some (.tup [.str (S [q.2.1]), .str (S [q.2.2])])) → DpAll K H (qs.map fun q => V.ref q.1) ((qs.map (·.2)).map dq)
  | [], _ => .nil
  | q :: qs, h => .cons (dp_tup (h q List.mem_cons_self)) (dp_allp qs fun z hz => h z (List.mem_cons_of_mem _ hz))
theorem PrAt.dp {K : PySem.W.Frag} {H : Hp} {p : Addr} {qs : List (Addr × Nat × Nat)} (h : PrAt H p qs) : Dp K H (.ref p) (.list ((qs.map (·.2)).map dq)) := .lst (SqL.of h.l) (dp_allp qs h.t)
theorem can_dq {q : Nat × Nat} (h : q.1 < 128 ∧ q.2 < 128) : PyData.canLay0 (dq q) = true := by
  simp [dq, PyData.canLay0, PyData.canLayAll0, okS1 (show q.1 < 0x110000 by omega), okS1 (show q.2 < 0x110000 by omega)]
theorem dep_dq {q : Nat × Nat} : PyData.depth (dq q) = 1 := by
  simp [dq, PyData.depth, PyData.depthAll]
theorem shaped_dq {q : Nat × Nat} (h : q.1 < 128 ∧ q.2 < 128) : SeqAt.shaped (dq q) = true := by
  simp [SeqAt.shaped, can_dq h, dep_dq]
theorem can_dqs : ∀ l : List (Nat × Nat), (∀ q ∈ l, q.1 < 128 ∧ q.2 < 128) → PyData.canLayAll0 (l.map dq) = true
  | [], _ => by simp [PyData.canLayAll0]
  | q :: l, h => by simp [PyData.canLayAll0, can_dq (h q List.mem_cons_self), can_dqs l fun z hz => h z (List.mem_cons_of_mem _ hz)]
theorem dep_dqs : ∀ l : List (Nat × Nat), PyData.depthAll (l.map dq) ≤ 1
  | [] => by simp [PyData.depthAll]
  | q :: l => by
    have := dep_dqs l
    simp [PyData.depthAll, dep_dq]
    omega
theorem shaped_dqs {l : List (Nat × Nat)} (h : ∀ q ∈ l, q.1 < 128 ∧ q.2 < 128) : SeqAt.shaped (.list (l.map dq)) = true := by
  have := dep_dqs l
  simp [SeqAt.shaped, PyData.canLay0, PyData.depth, can_dqs l h]
  omega
theorem S1_eq (a b : Nat) : (S [a] == S [b]) = decide (a = b) := by
  rw [Bool.eq_iff_iff, beq_iff_eq, decide_eq_true_iff, S_inj]
  simp
theorem eqv_dq (a b : Nat × Nat) : PyData.eqv (dq a) (dq b) = decide (a = b) := by
  obtain ⟨a1, a2⟩ := a
  obtain ⟨b1, b2⟩ := b
  simp [dq, PyData.eqv, PyData.eqvAll, S1_eq]
theorem eqv_dqs : ∀ l m : List (Nat × Nat), PyData.eqvAll (l.map dq) (m.map dq) = decide (l = m)
  | [], [] => by simp [PyData.eqvAll]
  | [], _ :: _ => by simp [PyData.eqvAll]
  | _ :: _, [] => by simp [PyData.eqvAll]
  | a :: l, b :: m => by simp [PyData.eqvAll, eqv_dq, eqv_dqs l m]
theorem eqv_dql (l m : List (Nat × Nat)) : PyData.eqv (.list (l.map dq)) (.list (m.map dq)) = decide (l = m) := by
  show PyData.eqvAll _ _ = _
  exact eqv_dqs l m
theorem any_dq (l : List (Nat × Nat)) (q : Nat × Nat) : ((l.map dq).any fun z => PyData.eqv z (dq q)) = decide (q ∈ l) := by
  rw [List.any_map, Bool.eq_iff_iff, List.any_eq_true, decide_eq_true_iff]
  constructor
  · rintro ⟨x, hx, e⟩
    have e2 : PyData.eqv (dq x) (dq q) = true := e
    rw [eqv_dq, decide_eq_true_iff] at e2
    rw [← e2]
    exact hx
  · intro h
    exact ⟨q, h, show PyData.eqv (dq q) (dq q) = true by rw [eqv_dq, decide_eq_true_iff]⟩
theorem TbL.low {a : Ad} {H : Hp} {t al lp : Addr} {sg W : List Nat} {R : Rel} {qs : List (Addr × Nat × Nat)} (h : TbL a H t al sg W R lp qs) (g : SgOk sg) : ∀ q ∈ qs.map (·.2), q.1 < 128 ∧ q.2 < 128 := fun q hq => by
  rw [h.c] at hq
  obtain ⟨h1, h2, _⟩ := mem_can.mp hq
  exact ⟨g.c _ h1, g.c _ h2⟩
section
variable {P : Program} {w : World} {K : PySem.W.Frag} {mg : Str → Option Value} {base : Heap} {a : Ad} {d : Fd}
theorem isi_T (T : Fns K mg a d) {x dx : Addr} {fs : List (Str × V)} {H : Hp} {Q : VK} (h : H x = some (.ins a.cTable dx fs)) (k : Q (.bl true) H) : rIsi K [.ref x, .ref a.cTable] H Q := by
  refine ⟨_, _, _, _, true, rfl, .own _, .base (.ins h T.clT T.icT T.igO T.itO T.imT), ?_, k⟩
  show PySem.W.kitOne K (.ref a.cTable) (.ref a.cTable) = some true
  unfold PySem.W.kitOne
  rw [if_pos (beq_iff_eq.mpr rfl)]
theorem eq_al {H : Hp} {al2 al : Addr} {sg2 W2 sg W : List Nat} {Q : VK} (eqA : PySem.W.notFirst K a.cAlphabet (.ref a.cAlphabet) = true) (h1 : AlG a.cAlphabet H al2 sg2 W2) (h2 : AlG a.cAlphabet H al sg W) (k : Q (.bl (decide (Alike sg2 W2 sg W))) H) :
    rOwnI K a.cAlphabet (spEq a.cAlphabet) E0 (.ref al2) (.ref al) H Q := by
  obtain ⟨l2, v2, hal2, e1, e2⟩ := h1
  obtain ⟨l, v, hal, e3, e4⟩ := h2
  obtain ⟨dy, z2⟩ := id hal2
  obtain ⟨dz, z3⟩ := id hal
  refine ⟨al2, dy, _, al, a.cAlphabet, dz, _, rfl, rfl, z2, z3, eqA, al2, al, l2, v2, l, v, rfl, hal2, hal, ?_⟩
  rw [← alike_eq, e1, e2, e3, e4]
  exact k
def spGet (a : Ad) : Sp := fun vs H Q _ => ∃ (t al : Addr) (c : Nat) (sg W : List Nat) (R : Rel), vs = [.ref t, .str (S [c])] ∧ Tb a H t al sg W R ∧ SgOk sg ∧ c ∈ sg ∧ ∀ H', Same H H' → Q (.str (S (sg.filter (R c)))) H'
theorem scTGet : FnScope ["self", "sign", "told", "out"] ["self", "sign"] (defScope sTGet) := ⟨rfl, rfl, rfl, by decide +kernel, rfl, by decide +kernel, by decide +kernel⟩
theorem ok_get (T : Fns K mg a d) : FnOk P w K mg base (L2.CX P w) 3 a.aTGet d.dTGet ["self", "sign"] (spGet a) := by
  have GIsSign : FnOk P w K mg base CX0 1 a.aIsSign d.dIsSign ["self", "text"] (spIsSign a) := ok_isSign T
  have GUnknownSign : FnOk P w K mg base CX0 1 a.eUnk d.eUnk ["self", "sign"] (fun _ _ _ _ => False) := ⟨fun _ _ _ _ h => h.elim, fun _ _ _ _ _ _ _ _ _ _ _ _ _ h => h.elim⟩
  refine T.FTGet.okX scTGet (fun vs H Q E h => ?_) (fun cdv A outer s H vs Q E hr h => ?_)
  · obtain ⟨t, al, c, sg, W, R, rfl, _⟩ := h
    rfl
  · obtain ⟨t, al, c, sg, W, R, rfl, ⟨lp, qs, hT⟩, hsg, hc, k⟩ := h
    obtain ⟨⟨dx, ht⟩, hal, hp, ec⟩ := id hT
    obtain ⟨dxa, ll, vv, hi⟩ := hal.ins
    have clA := T.clA
    have clT := T.clT
    have nTa := T.nTa
    have nTp := T.nTp
    have hl5 := hsg.l
    refine ⟨_, ((pss_cons (ps_if (pt_not (pt_val (pe_meth (pe_fld (pv 0) rfl) T.clA T.mIsSign GIsSign (hr.mono (by decide)) T.bIsSign .nil pass0 (pa_cons (pv 1) pa_nil)))) (pss_one (ps_raise rfl (takes_of rfl rfl rfl rfl) (pmk_oex T.xUnknownSign.ox T.xUnknownSign.iC T.xUnknownSign.tI GUnknownSign (hr.mono (by decide)) T.xUnknownSign.bB .nil pass0 (by rfl) T.xUnknownSign.gB (pa_cons (pv 1) pa_nil)))) pss_nil)
      (pss_one (ps_ret (pe_join (pe_strS (l := []) (by decide +kernel)) (pe_lc (own := [("told", 2), ("out", 3)]) (g := (gTup K 2 (gCons (gName 2) (gCons (gName 3) gNil)))) (by rfl) scTGet.nd (pi_list (pe_fld (pv 0) rfl)) (blkOk_by (own := [("told", 2), ("out", 3)]) (N := ["self", "sign", "told", "out"]) (sc := defScope sTGet) (by decide +kernel)) (fun _ _ _ _ _ => (pg_tup rfl (pgs_cons (pg_name (i := 2) scTGet.nd rfl (Or.inl rfl)) (pgs_cons (pg_name (i := 3) scTGet.nd rfl (Or.inl rfl)) pgs_nil)))) (fun _ _ _ _ _ => (pts_one (pt_cmpR op_eq (pv 2) (pv 1) (nomark _)))) (fun _ _ _ _ _ => (pv 3)))))))), ?_⟩
    walk_at "go"
    refine ⟨al, c, sg, W, rfl, hal, hl5, ?_⟩
    rw [decide_eq_true hc]
    have hpl := hp.l
    walk_at "go"
    rename_i D hD
    refine lc_list (K := K) (a := lp) (xs := qs.map fun q => V.ref q.1) (fun i H' => H' D = some (.lst ((((qs.take i).map (·.2)).filter fun q => decide (q.1 = c)).map fun q => V.str (S [q.2]))) ∧ Same H H') ⟨upd_same, Same.upd_new hD⟩ (fun i H' _ h => SqL.of (h.2 _ _ hpl)) ?_ ?_
    · rintro i x H5 hi ⟨hD5, s5⟩
      rw [List.getElem?_map] at hi
      obtain ⟨q, hq, rfl⟩ := Option.map_eq_some_iff.mp hi
      have hqm := List.mem_of_getElem? hq
      have hil := (List.getElem?_eq_some_iff.mp hq).1
      have hqt := s5 _ _ (hp.t q hqm)
      have hq25 := hT.len hsg
      have e1 : ((qs.take (i + 1)).map (·.2)).filter (fun q => decide (q.1 = c)) = ((qs.take i).map (·.2)).filter (fun q => decide (q.1 = c)) ++ if decide (q.2.1 = c) = true then [q.2] else [] := by
        rw [List.take_add_one, hq, List.map_append, List.filter_append]
        show _ ++ List.filter _ [q.2] = _
        rw [List.filter_cons, List.filter_nil]
      have hlen : (((qs.take i).map (·.2)).filter fun q => decide (q.1 = c)).length ≤ 25 := by
        have h1 := List.length_filter_le (fun q : Nat × Nat => decide (q.1 = c)) ((qs.take i).map (·.2))
        rw [List.length_map, List.length_take] at h1
        omega
      walk_at "go"
      · rename_i e
        rw [if_pos (decide_eq_true e)] at e1
        refine ⟨by rw [List.length_map, sizeLine_eq]; omega, ?_, fun b o hb => ?_⟩
        · rw [upd_same, e1, List.map_append]
          rfl
        · rw [upd_ne (fun z => by rw [z, hD] at hb; cases hb)]
          exact s5 _ _ hb
      · rename_i e
        rw [if_neg (by simpa using e), List.append_nil] at e1
        rw [e1]
        exact ⟨hD5, s5⟩
    · rintro H5 ⟨hD5, s5⟩
      have e3 : ((canL sg R).filter fun q => decide (q.1 = c)).map (fun q => V.str (S [q.2])) = (sg.filter (R c)).map fun x => V.str (S [x]) := by
        rw [← can_row hsg.a hc, List.map_map]
        rfl
      rw [List.length_map, List.take_of_length_le (Nat.le_refl _), ec, e3] at hD5
      have hj := join_S (l := sg.filter (R c)) (by have := List.length_filter_le (R c) sg; omega)
      refine ⟨S [], D, (sg.filter (R c)).map fun x => S [x], rfl, rfl, .inl (SqL.of (by rw [hD5, List.map_map]; rfl)), hj.1, ?_⟩
      rw [hj.2]
      exact k H5 s5
def spLen (a : Ad) : Sp := fun vs H Q _ => ∃ (t al : Addr) (sg W : List Nat) (R : Rel), vs = [.ref t] ∧ Tb a H t al sg W R ∧ SgOk sg ∧ Q (.int ((canL sg R).length : Int)) H
theorem scTLen : FnScope ["self"] ["self"] (defScope sTLen) := ⟨rfl, rfl, rfl, by decide +kernel, rfl, by decide +kernel, by decide +kernel⟩
theorem ok_len (T : Fns K mg a d) : FnOk P w K mg base CX0 1 a.aTLen d.dTLen ["self"] (spLen a) := by
  refine T.FTLen.ok scTLen (fun vs H Q E h => ?_) (fun cdv A outer s H vs Q E hr h => ?_)
  · obtain ⟨t, al, sg, W, R, rfl, _⟩ := h
    rfl
  · obtain ⟨t, al, sg, W, R, rfl, ⟨lp, qs, hT⟩, hsg, k⟩ := h
    obtain ⟨⟨dx, ht⟩, hal, hp, ec⟩ := id hT
    have clT := T.clT
    have nTp := T.nTp
    have hpl := hp.l
    refine ⟨_, ((pss_one (ps_ret (pe_callB call_len_seq (by rfl) T.z_len (by decide +kernel) (pa_cons (pe_fld (pv 0) rfl) pa_nil))))), ?_⟩
    walk_at "go"
    have e : (canL sg R).length = qs.length := by rw [← ec, List.length_map]
    rw [List.length_map, ← e]
    exact k
def spPairsM (a : Ad) : Sp := fun vs H Q _ => ∃ (t al : Addr) (sg W : List Nat) (R : Rel), vs = [.ref t] ∧ Tb a H t al sg W R ∧ SgOk sg ∧ ∀ p ms H', PrAt H' p ms → ms.map (·.2) = canL sg R → Same H H' → Q (.ref p) H'
theorem scTPairs : FnScope ["self"] ["self"] (defScope sTPairs) := ⟨rfl, rfl, rfl, by decide +kernel, rfl, by decide +kernel, by decide +kernel⟩
theorem ok_pairsM (T : Fns K mg a d) : FnOk P w K mg base CX0 1 a.aTPairs d.dTPairs ["self"] (spPairsM a) := by
  refine T.FTPairs.ok scTPairs (fun vs H Q E h => ?_) (fun cdv A outer s H vs Q E hr h => ?_)
  · obtain ⟨t, al, sg, W, R, rfl, _⟩ := h
    rfl
  · obtain ⟨t, al, sg, W, R, rfl, ⟨lp, qs, hT⟩, hsg, k⟩ := h
    obtain ⟨⟨dx, ht⟩, hal, hp, ec⟩ := id hT
    have clT := T.clT
    have nTp := T.nTp
    have hpl := hp.l
    refine ⟨_, ((pss_one (ps_ret (pe_callTy call_list_of (by rfl) T.z_list (by decide +kernel) (pa_cons (pe_fld (pv 0) rfl) pa_nil))))), ?_⟩
    walk_at "go"
    rename_i p hpn
    have s1 : Same H (upd H p (.lst (qs.map fun q => V.ref q.1))) := Same.upd_new hpn
    exact k p qs _ ⟨upd_same, fun q hq => s1 _ _ (hp.t q hq)⟩ ec s1
def spInM (a : Ad) : Sp := fun vs H Q _ => ∃ (t al x : Addr) (q : Nat × Nat) (sg W : List Nat) (R : Rel), vs = [.ref t, .ref x] ∧ Tb a H t al sg W R ∧ SgOk sg ∧ H x = some (.tup [.str (S [q.1]), .str (S [q.2])]) ∧ q.1 < 128 ∧ q.2 < 128 ∧ Q (.bl (decide (q ∈ canL sg R))) H
theorem scTIn : FnScope ["self", "pair"] ["self", "pair"] (defScope sTIn) := ⟨rfl, rfl, rfl, by decide +kernel, rfl, by decide +kernel, by decide +kernel⟩
theorem ok_inM (T : Fns K mg a d) : FnOk P w K mg base CX0 2 a.aTIn d.dTIn ["self", "pair"] (spInM a) := by
  refine T.FTIn.ok scTIn (fun vs H Q E h => ?_) (fun cdv A outer s H vs Q E hr h => ?_)
  · obtain ⟨t, al, x, q, sg, W, R, rfl, _⟩ := h
    rfl
  · obtain ⟨t, al, x, q, sg, W, R, rfl, ⟨lp, qs, hT⟩, hsg, hx, q1, q2, k⟩ := h
    obtain ⟨⟨dx, ht⟩, hal, hp, ec⟩ := id hT
    have clT := T.clT
    have nTp := T.nTp
    have hpl := hp.l
    refine ⟨_, ((pss_one (ps_ret (pe_cmpR (op_inD hr.unitu) (pv 1) (pe_fld (pv 0) rfl) rfl)))), ?_⟩
    have hd := hp.dp (K := K)
    rw [ec] at hd
    walk_at "go"
    refine ⟨dq q, (canL sg R).map dq, dp_tup hx, hd, shaped_dq ⟨q1, q2⟩, shaped_dqs (by rw [← ec]; exact hT.low hsg), ?_⟩
    rw [any_dq]
    exact k
def spEqM (a : Ad) : Sp := fun vs H Q _ => ∃ (t al t2 al2 : Addr) (sg W sg2 W2 : List Nat) (A B : Rel), vs = [.ref t, .ref t2] ∧ Tb a H t al sg W A ∧ Tb a H t2 al2 sg2 W2 B ∧ SgOk sg ∧ SgOk sg2 ∧ Q (.bl (decide (Alike sg W sg2 W2) && decide (canL sg A = canL sg2 B))) H
theorem scTEq : FnScope ["self", "other"] ["self", "other"] (defScope sTEq) := ⟨rfl, rfl, rfl, by decide +kernel, rfl, by decide +kernel, by decide +kernel⟩
theorem ok_eqM (T : Fns K mg a d) (GAlEq : FnOk P w K mg base CX0 1 a.aAlEq d.dAlEq ["self", "other"] (spEq a.cAlphabet)) : FnOk P w K mg base CX0 2 a.aTEq d.dTEq ["self", "other"] (spEqM a) := by
  refine T.FTEq.ok scTEq (fun vs H Q E h => ?_) (fun cdv A outer s H vs Q E hr h => ?_)
  · obtain ⟨t, al, t2, al2, sg, W, sg2, W2, R, R2, rfl, _⟩ := h
    rfl
  · obtain ⟨t, al, t2, al2, sg, W, sg2, W2, R, R2, rfl, ⟨lp, qs, hT⟩, ⟨lp2, qs2, hT2⟩, hsg, hsg2, k⟩ := h
    obtain ⟨⟨dx, ht⟩, hal, hp, ec⟩ := id hT
    obtain ⟨⟨dx2, ht2⟩, hal2, hp2, ec2⟩ := id hT2
    have clT := T.clT
    have nTp := T.nTp
    have nTa := T.nTa
    refine ⟨_, ((pss_one (ps_ret (pe_and (pe_callB call_isi (by rfl) T.z_isinstance (by decide +kernel) (pa_cons (pv 1) (pa_cons (pe_glob (v := .ref a.cTable) (by rfl) T.gcTable rfl) pa_nil))) (pe_and (pe_cmpR (op_ownI (fun _ _ => rfl) T.mAlEq.at_ T.mAlEq.fn GAlEq (hr.mono (by decide)) T.bAlEq pass0) (pe_fld (pv 0) rfl) (pe_fld (pv 1) rfl) (nomark _)) (pe_one (pe_cmpR (op_eqD hr.units) (pe_fld (pv 0) rfl) (pe_fld (pv 1) rfl) (nomark _)))))))), ?_⟩
    walk_at "go"
    refine isi_T T ht2 ?_
    walk_at "go"
    refine eq_al T.eqA hal hal2 ⟨_, rfl, ?_⟩
    by_cases e : Alike sg W sg2 W2
    · rw [decide_eq_true e] at k ⊢
      rw [Bool.true_and] at k
      walk_at "go"
      have hd1 := hp.dp (K := K)
      have hd2 := hp2.dp (K := K)
      refine ⟨_, _, hd1, hd2, shaped_dqs (hT.low hsg), shaped_dqs (hT2.low hsg2), ?_⟩
      rw [eqv_dql, ec, ec2]
      exact k
    · rw [decide_eq_false e] at k ⊢
      rw [Bool.false_and] at k
      walk_at "go"
      exact k
end
end
section
set_option Elab.async false
set_option linter.all false
set_option maxRecDepth 100000
set_option maxHeartbeats 4000000
open PySem PySem.Spec PyProof.Rows L2 NSet

local macro_rules | `(tactic| walk_at "side") => `(tactic| exact .inl (by assumption))
local macro_rules | `(tactic| walk_at "go1") => `(tactic| (with_reducible refine iGTup (by assumption) rfl ?_))
local macro_rules | `(tactic| walk_at "go1") => `(tactic| (with_reducible refine iGCons ?_))
local macro_rules | `(tactic| walk_at "go1") => `(tactic| (with_reducible refine iGNil ?_))
local macro_rules | `(tactic| walk_at "go1") => `(tactic| (with_reducible refine iMakeV ?_))
local macro_rules | `(tactic| walk_at "go1") => `(tactic| (with_reducible refine iMakeD ?_))
local macro_rules | `(tactic| walk_at "go1") => `(tactic| (with_reducible refine iLc2S ?_))
local macro_rules | `(tactic| walk_at "go1") => `(tactic| (with_reducible refine iLc2L ?_))
local macro_rules | `(tactic| walk_at "go1") => `(tactic| (with_reducible refine iIStr ?_))

theorem iIxI {C : Addr} {sp : Sp} {E : L2.St → XK} {ta tb : TE} {σ : L2.St} {H : Hp} {Q : VK} (h : ta σ H fun x H1 => tb σ H1 fun y H2 => ∃ a dx fs, x = .ref a ∧ H2 a = some (.ins C dx fs) ∧ sp [x, y] H2 Q (E σ)) : tIxI C sp E ta tb σ H Q := h
local macro_rules | `(tactic| walk_at "go1") => `(tactic| (with_reducible refine iIxI ?_))
section
variable {P : Program} {w : World} {K : PySem.W.Frag} {mg : Str → Option Value} {base : Heap} {a : Ad} {d : Fd}
theorem NewP.same {H1 H H' : Hp} {D : Addr} {l : List (Nat × Nat)} (h : NewP H1 D l H) (s : Same H H') : NewP H1 D l H' := by
  obtain ⟨ms, h1, h2, h3⟩ := h
  exact ⟨ms, h1.same s, h2, Vk.Same.trans h3 s⟩
theorem rel_of {sg : List Nat} {R : Rel} {l : List (Nat × Nat)} (hc : l = canL sg R) {s t : Nat} (hs : s ∈ sg) (ht : t ∈ sg) : (s, t) ∈ l ↔ R s t = true := by
  rw [hc, mem_can]
  exact ⟨fun h => h.2.2, fun h => ⟨hs, ht, h⟩⟩
def mulL (sg : List Nat) (B : Rel) (l : List (Nat × Nat)) : List (Nat × Nat) := l.flatMap fun q => (sg.filter (B q.2)).map fun o => (q.1, o)
theorem mul_len (sg : List Nat) (B : Rel) : ∀ l : List (Nat × Nat), (mulL sg B l).length ≤ l.length * sg.length
  | [] => by simp [mulL]
  | q :: l => by
    have := mul_len sg B l
    have h2 := List.length_filter_le (B q.2) sg
    unfold mulL at this ⊢
    rw [List.flatMap_cons, List.length_append, List.length_map, List.length_cons, Nat.succ_mul]
    omega
theorem mem_mul {sg : List Nat} {B : Rel} {l : List (Nat × Nat)} {s u : Nat} : (s, u) ∈ mulL sg B l ↔ ∃ m, (s, m) ∈ l ∧ u ∈ sg ∧ B m u = true := by
  unfold mulL
  rw [List.mem_flatMap]
  constructor
  · rintro ⟨q, hq, h⟩
    obtain ⟨o, ho, e⟩ := List.mem_map.mp h
    cases e
    obtain ⟨h1, h2⟩ := List.mem_filter.mp ho
    exact ⟨q.2, hq, h1, h2⟩
  · rintro ⟨m, h1, h2, h3⟩
    exact ⟨(s, m), h1, List.mem_map.mpr ⟨u, List.mem_filter.mpr ⟨h2, h3⟩, rfl⟩⟩
end
end
section
set_option Elab.async false
set_option linter.all false
set_option maxRecDepth 100000
set_option maxHeartbeats 4000000
open PySem PySem.Spec PyProof.Rows L2 NSet

local macro_rules | `(tactic| walk_at "side") => `(tactic| exact .inl (by assumption))
local macro_rules | `(tactic| walk_at "go1") => `(tactic| (with_reducible refine iGTup (by assumption) rfl ?_))
local macro_rules | `(tactic| walk_at "go1") => `(tactic| (with_reducible refine iGCons ?_))
local macro_rules | `(tactic| walk_at "go1") => `(tactic| (with_reducible refine iGNil ?_))
local macro_rules | `(tactic| walk_at "go1") => `(tactic| (with_reducible refine iMakeV ?_))
local macro_rules | `(tactic| walk_at "go1") => `(tactic| (with_reducible refine iMakeD ?_))
local macro_rules | `(tactic| walk_at "go1") => `(tactic| (with_reducible refine iLc2S ?_))
local macro_rules | `(tactic| walk_at "go1") => `(tactic| (with_reducible refine iLc2L ?_))
local macro_rules | `(tactic| walk_at "go1") => `(tactic| (with_reducible refine iIStr ?_))
local macro_rules | `(tactic| walk_at "go1") => `(tactic| (with_reducible refine iIxI ?_))

section
variable {P : Program} {w : World} {K : PySem.W.Frag} {mg : Str → Option Value} {base : Heap} {a : Ad} {d : Fd}
theorem cut63 (xs : List Int) : ∃ ys : List Int, cutV (xs.map V.int) none (some 63) = ys.map V.int ∧ ys.length ≤ 63 := by
  unfold cutV
  rw [← List.map_drop, ← List.map_take]
  refine ⟨_, rfl, ?_⟩
  rw [List.length_take]
  have : HT.sIx (xs.map V.int).length (xs.map V.int).length (some 63) ≤ 63 := by
    unfold HT.sIx
    simp
    omega
  omega
def spBag (K : PySem.W.Frag) : Sp := fun vs H Q _ => ∃ (s : Addr) (xs : List Int), vs = [.ref s] ∧ SqL K H s (xs.map V.int) ∧ xs.length ≤ 3000 ∧ ∀ (b g u : Addr) (H' : Hp), H b = none → H g = none → H u = none → BagB H' b g u → Same H H' → Q (.ref b) H'
theorem scBag : FnScope ["_law_script", "_law_great", "_law_cell", "_law_small"] ["_law_script"] (defScope sBag) := ⟨rfl, rfl, rfl, by decide +kernel, rfl, by decide +kernel, by decide +kernel⟩
theorem ok_bag (T : Fns K mg a d) : FnOk P w K mg base CX0 1 a.aBag d.dBag ["_law_script"] (spBag K) := by
  refine T.FBag.ok scBag (fun vs H Q E h => ?_) (fun cdv A outer s H vs Q E hr h => ?_)
  · obtain ⟨s, xs, rfl, _⟩ := h
    rfl
  · obtain ⟨sc, xs, rfl, hs, hl, k⟩ := h
    refine ⟨_, ((pss_cons (ps_setLc (i := 1) (own := [("_law_cell", 2)]) (g := gName 2) (by rfl) scBag.nd rfl rfl (by rfl) (pi_list (pe_slice sl_list (pv 0) po_none (po_some pe_int))) (blkOk_by (own := [("_law_cell", 2)]) (N := ["_law_script", "_law_great", "_law_cell", "_law_small"]) (sc := defScope sBag) (by decide +kernel)) (fun _ _ _ _ _ => pg_name (i := 2) scBag.nd rfl (Or.inl rfl)) (fun _ _ _ _ _ => (pts_one (pt_cmpR op_gt (pv 2) (pe_op op_pow pe_int pe_int) (nomark _)))) (fun _ _ _ _ _ => (pe_op op_sub (pe_callTy call_int1 (by rfl) T.z_int (by decide +kernel) (pa_cons (pv 2) pa_nil)) (pe_op op_pow pe_int pe_int))))
      (pss_cons (ps_setLc (i := 3) (own := [("_law_cell", 2)]) (g := gName 2) (by rfl) scBag.nd rfl rfl (by rfl) (pi_list (pe_slice sl_list (pv 0) po_none (po_some pe_int))) (blkOk_by (own := [("_law_cell", 2)]) (N := ["_law_script", "_law_great", "_law_cell", "_law_small"]) (sc := defScope sBag) (by decide +kernel)) (fun _ _ _ _ _ => pg_name (i := 2) scBag.nd rfl (Or.inl rfl)) (fun _ _ _ _ _ => (pts_one (pt_cmpR op_le (pv 2) (pe_op op_pow pe_int pe_int) (nomark _)))) (fun _ _ _ _ _ => (pe_op op_mod (pe_callTy call_int1 (by rfl) T.z_int (by decide +kernel) (pa_cons (pv 2) pa_nil)) pe_int)))
      (pss_one (ps_ret (pe_lst (pa_cons (pv 1) (pa_cons (pv 3) (pa_cons pe_int (pa_cons pe_int pa_nil)))))))))), ?_⟩
    walk_at "go"
    rename_i ps hps D hD
    obtain ⟨ys, hc, hy⟩ := cut63 xs
    rw [hc] at hD ⊢
    have s1 : Same H (upd H ps (.lst (ys.map V.int))) := Same.upd_new hps
    have h1 : (upd H ps (.lst (ys.map V.int))) ps = some (.lst (ys.map V.int)) := upd_same
    generalize upd H ps (.lst (ys.map V.int)) = H1 at s1 h1 hD ⊢
    refine lc_list (K := K) (a := ps) (xs := ys.map V.int) (fun i H' => ∃ gl : List Int, H' D = some (.lst (gl.map V.int)) ∧ gl.length ≤ i ∧ Same H1 H') ⟨[], upd_same, Nat.le_refl _, Same.upd_new hD⟩ (fun i H' _ h => SqL.of (by obtain ⟨_, _, _, s⟩ := h; exact s _ _ h1)) ?_ ?_
    · rintro i x H5 hi ⟨gl, hgl, hll, s5⟩
      rw [List.getElem?_map] at hi
      obtain ⟨z, hz, rfl⟩ := Option.map_eq_some_iff.mp hi
      have hil := (List.getElem?_eq_some_iff.mp hz).1
      walk_at "go"
      · refine ⟨by rw [List.length_map, sizeLine_eq]; omega, gl ++ [z - 10 ^ Int.toNat 18], by rw [upd_same, List.map_append]; rfl, by rw [List.length_append]; simpa using hll, fun b o hb => ?_⟩
        rw [upd_ne (fun e => by rw [e, hD] at hb; cases hb)]
        exact s5 _ _ hb
      · exact s5
    · rintro H5 ⟨gl, hgl, hll, s5⟩
      rw [List.length_map] at hll
      have hs5 := SqL.same hs (Vk.Same.trans s1 s5)
      walk_at "go"
      rename_i ps2 hps2 D2 hD2
      obtain ⟨ys2, hc2, hy2⟩ := cut63 xs
      rw [hc2] at hD2 ⊢
      have s6 : Same H5 (upd H5 ps2 (.lst (ys2.map V.int))) := Same.upd_new hps2
      have h6 : (upd H5 ps2 (.lst (ys2.map V.int))) ps2 = some (.lst (ys2.map V.int)) := upd_same
      generalize upd H5 ps2 (.lst (ys2.map V.int)) = H6 at s6 h6 hD2 ⊢
      refine lc_list (K := K) (a := ps2) (xs := ys2.map V.int) (fun i H' => ∃ sl : List Int, H' D2 = some (.lst (sl.map V.int)) ∧ sl.length ≤ i ∧ Same H6 H') ⟨[], upd_same, Nat.le_refl _, Same.upd_new hD2⟩ (fun i H' _ h => SqL.of (by obtain ⟨_, _, _, s⟩ := h; exact s _ _ h6)) ?_ ?_
      · rintro i x H7 hi ⟨sl, hsl, hsll, s7⟩
        rw [List.getElem?_map] at hi
        obtain ⟨z, hz, rfl⟩ := Option.map_eq_some_iff.mp hi
        have hil := (List.getElem?_eq_some_iff.mp hz).1
        walk_at "go"
        · refine ⟨by rw [List.length_map, sizeLine_eq]; omega, sl ++ [z % 2147483647], by rw [upd_same, List.map_append]; rfl, by rw [List.length_append]; simpa using hsll, fun b o hb => ?_⟩
          rw [upd_ne (fun e => by rw [e, hD2] at hb; cases hb)]
          exact s7 _ _ hb
        · exact s7
      · rintro H7 ⟨sl, hsl, hsll, s7⟩
        rw [List.length_map] at hsll
        have hg7 := s7 _ _ (s6 _ _ hgl)
        have hDD : D ≠ D2 := fun e => by
          rw [← e, s6 _ _ hgl] at hD2
          cases hD2
        have s17 := Vk.Same.trans s5 (Vk.Same.trans s6 s7)
        walk_at "go"
        rename_i b hb
        have nb1 : b ≠ D := (ne_of_none hg7 hb).symm
        have nb2 : b ≠ D2 := (ne_of_none hsl hb).symm
        have s07 := Vk.Same.trans s1 s17
        exact k b D D2 _ (Same.free s07 hb) (Same.free s1 hD) (Same.free (Vk.Same.trans s1 (Vk.Same.trans s5 s6)) hD2) ⟨gl, sl, 0, 11, upd_same, by rw [upd_ne nb1.symm]; exact hg7, by rw [upd_ne nb2.symm]; exact hsl, nb1, nb2, hDD, by omega, by omega⟩ (Vk.Same.trans s07 (Same.upd_new hb))
def spSigns : Sp := fun vs H Q _ => ∃ (l : List Nat), vs = [.str (S l)] ∧ l.length ≤ 4 ∧ ∀ H', Same H H' → Q (.str (S (45 :: srtL l))) H'
theorem scSigns : FnScope ["_law_letters", "_law_one"] ["_law_letters"] (defScope sSigns) := ⟨rfl, rfl, rfl, by decide +kernel, rfl, by decide +kernel, by decide +kernel⟩
theorem ok_signs (T : Fns K mg a d) : FnOk P w K mg base CX0 1 a.aSigns d.dSigns ["_law_letters"] spSigns := by
  refine T.FSigns.ok scSigns (fun vs H Q E h => ?_) (fun cdv A outer s H vs Q E hr h => ?_)
  · obtain ⟨l, rfl, _⟩ := h
    rfl
  · obtain ⟨l, rfl, hl, k⟩ := h
    refine ⟨_, ((pss_one (ps_ret (pe_op op_addS (pe_strS (l := [45]) (by decide +kernel)) (pe_join (pe_strS (l := []) (by decide +kernel)) (pe_callB cr_sortedS (by rfl) T.z_sorted (by decide +kernel) (pa_cons (pe_lc (own := [("_law_one", 1)]) (g := gName 1) (by rfl) scSigns.nd (pi_str (pv 0)) (blkOk_by (own := [("_law_one", 1)]) (N := ["_law_letters", "_law_one"]) (sc := defScope sSigns) (by decide +kernel)) (fun _ _ _ _ _ => pg_name (i := 1) scSigns.nd rfl (Or.inl rfl)) (fun _ _ _ _ _ => pts_nil) (fun _ _ _ _ _ => (pe_callTy SkE.call_str_str (by rfl) T.z_str (by decide +kernel) (pa_cons (pv 1) pa_nil)))) pa_nil))))))), ?_⟩
    walk_at "go"
    rename_i D hD
    refine lcg_S (fun i H' => H' D = some (.lst ((l.take i).map fun c => V.str (S [c]))) ∧ Same H H') ⟨upd_same, Same.upd_new hD⟩ (fun _ => rfl) (fun i c H' hc hP => ?_) (fun H' hP => ?_)
    · have hil := (List.getElem?_eq_some_iff.mp hc).1
      obtain ⟨h1, s1⟩ := hP
      walk_at "go"
      refine ⟨by rw [List.length_map, List.length_take, sizeLine_eq]; omega, ?_, fun b o hb => ?_⟩
      · rw [upd_same, List.take_add_one, hc, List.map_append]
        rfl
      · rw [upd_ne (fun e => by rw [e, hD] at hb; cases hb)]
        exact s1 _ _ hb
    · obtain ⟨h1, s1⟩ := hP
      rw [List.take_length] at h1
      walk_at "go"
      refine ⟨D, l.map fun c => S [c], rfl, SqL.of (by rw [h1, List.map_map]; rfl), by rw [List.length_map]; omega, fun ys q pm so hq => ?_⟩
      have e := sorted_signs pm so
      subst e
      have hj := join_S (l := srtL l) (by rw [srtL_len]; omega)
      refine ⟨S [], q, (srtL l).map fun c => S [c], rfl, rfl, .inl (SqL.of upd_same), hj.1, ?_⟩
      rw [hj.2]
      have s2 : Same H (upd H' q (.lst (((srtL l).map fun c => S [c]).map V.str))) := Vk.Same.trans s1 (Same.upd_new hq)
      generalize upd H' q (.lst (((srtL l).map fun c => S [c]).map V.str)) = H2 at s2 ⊢
      exact ⟨[45], srtL l, rfl, rfl, by rw [srtL_len]; show 1 + _ ≤ _; omega, k H2 s2⟩
def spOuts : Sp := fun vs H Q _ => ∃ (sg : List Nat) (p : Addr) (qs : List (Addr × Nat × Nat)), vs = [.str (S sg), .ref p] ∧ SgOk sg ∧ PrAt H p qs ∧ qs.length ≤ 200 ∧ (∀ q ∈ qs, q.2.1 ∈ sg ∧ q.2.2 ∈ sg) ∧ ∀ r H', H r = none → Same H H' → RowAt H' r sg (relP qs) → Q (.ref r) H'
theorem scOuts : FnScope ["_law_signs_here", "_law_pairs_here", "_law_rows", "_law_told", "_law_out"] ["_law_signs_here", "_law_pairs_here"] (defScope sOuts) := ⟨rfl, rfl, rfl, by decide +kernel, rfl, by decide +kernel, by decide +kernel⟩
theorem ok_outs (T : Fns K mg a d) : FnOk P w K mg base CX0 2 a.aOuts d.dOuts ["_law_signs_here", "_law_pairs_here"] spOuts := by
  refine T.FOuts.ok scOuts (fun vs H Q E h => ?_) (fun cdv A outer s H vs Q E hr h => ?_)
  · obtain ⟨sg, p, qs, rfl, _⟩ := h
    rfl
  · obtain ⟨sg, p, qs, rfl, hsg, hp, hl, hm, k⟩ := h
    refine ⟨_, ((pss_cons (ps_set (i := 2) scOuts.nd rfl (Or.inl rfl) (pe_lst pa_nil))
      (pss_cons (ps_for PassesOwn.never rfl (pi_str (pv 0)) (pg_name (i := 3) scOuts.nd rfl (Or.inr rfl)) (pss_one (ps_expr (pe_bm PySem.F.plainAttrs_list PySem.F.slot_list_append PySem.F.type_list_append mt_append (pv 2) (pa_cons (pe_join (pe_strS (l := []) (by decide +kernel)) (pe_lc (own := [("_law_out", 4)]) (g := gName 4) (by rfl) scOuts.nd (pi_str (pv 0)) (blkOk_by (own := [("_law_out", 4)]) (N := ["_law_signs_here", "_law_pairs_here", "_law_rows", "_law_told", "_law_out"]) (sc := defScope sOuts) (by decide +kernel)) (fun _ _ _ _ _ => pg_name (i := 4) scOuts.nd rfl (Or.inl rfl)) (fun _ _ _ _ _ => (pts_one (pt_cmpR (r := rInD K) (op_inD hr.unitu) (pe_tup (pa_cons (pv 3) (pa_cons (pv 4) pa_nil))) (pv 1) rfl))) (fun _ _ _ _ _ => (pv 4)))) pa_nil)))))
      (pss_one (ps_ret (pv 2)))))), ?_⟩
    walk_at "go"
    rename_i rp hrp
    refine for_S (fun i σ H' => Stop (∃ (v3 v4 : Option V), σ = [some (.str (S sg)), some (.ref p), some (.ref rp), v3, v4] ∧ H' rp = some (.lst (((sg.take i).map fun s => sg.filter (relP qs s)).map fun r => V.str (S r))) ∧ Fr [rp] H H')) ⟨none, none, rfl, upd_same, Fr.upd_new hrp⟩ ?_ ?_
    · rintro i c σ H5 hc ⟨v3, v4, rfl, hr5, f5⟩
      have hcm := List.mem_of_getElem? hc
      have hic := (List.getElem?_eq_some_iff.mp hc).1
      have hl5 := hsg.l
      walk_at "go"
      rename_i D hD
      have nD : rp ≠ D := ne_of_none hr5 hD
      have np : p ≠ rp := fun z => by
        have := hp.l
        rw [z, hrp] at this
        cases this
      have hp5 : PrAt H5 p qs := hp.fr f5 (by simpa using np) (fun q hq => by
        have := hp.t q hq
        simp
        intro z
        rw [z, hrp] at this
        cases this)
      have low : ∀ q ∈ qs.map (·.2), q.1 < 128 ∧ q.2 < 128 := fun q hq => by
        obtain ⟨z, hz, e⟩ := List.mem_map.mp hq
        rw [← e]
        exact ⟨hsg.c _ (hm z hz).1, hsg.c _ (hm z hz).2⟩
      refine lcg_S (fun j H' => H' D = some (.lst (((sg.take j).filter (relP qs c)).map fun o => V.str (S [o]))) ∧ Same H5 H') ⟨upd_same, Same.upd_new hD⟩ (fun _ => rfl) (fun j o H6 ho hP => ?_) (fun H6 hP => ?_)
      · obtain ⟨h6, s6⟩ := hP
        have hom := List.mem_of_getElem? ho
        have e1 : (sg.take (j + 1)).filter (relP qs c) = (sg.take j).filter (relP qs c) ++ if relP qs c o = true then [o] else [] := by
          rw [List.take_add_one, ho, List.filter_append]
          show _ ++ List.filter _ [o] = _
          rw [List.filter_cons, List.filter_nil]
        have hlen : ((sg.take j).filter (relP qs c)).length ≤ 5 := by
          have h1 := List.length_filter_le (relP qs c) (sg.take j)
          rw [List.length_take] at h1
          omega
        have hp6 := hp5.same s6
        walk_at "go"
        rename_i tp htp
        have s7 : Same H6 (upd H6 tp (.tup [.str (S [c]), .str (S [o])])) := Same.upd_new htp
        have ht7 : (upd H6 tp (.tup [.str (S [c]), .str (S [o])])) tp = some (.tup [.str (S [c]), .str (S [o])]) := upd_same
        generalize upd H6 tp (.tup [.str (S [c]), .str (S [o])]) = H7 at s7 ht7 ⊢
        have hd7 := (hp6.same s7).dp (K := K)
        refine ⟨dq (c, o), (qs.map (·.2)).map dq, dp_tup (q := (c, o)) ht7, hd7, shaped_dq ⟨hsg.c _ hcm, hsg.c _ hom⟩, shaped_dqs low, ?_⟩
        rw [any_dq]
        have er : decide ((c, o) ∈ qs.map (·.2)) = relP qs c o := rfl
        rw [er]
        have h7 := s7 _ _ h6
        by_cases e : relP qs c o = true
        · rw [if_pos e] at e1
          rw [e]
          walk_at "go"
          refine ⟨by rw [List.length_map, sizeLine_eq]; omega, ?_, fun b o' hb => ?_⟩
          · rw [upd_same, e1, List.map_append]
            rfl
          · rw [upd_ne (fun z => by rw [z, hD] at hb; cases hb)]
            exact s7 _ _ (s6 _ _ hb)
        · rw [if_neg e, List.append_nil] at e1
          rw [Bool.eq_false_iff.mpr e]
          walk_at "go"
          rw [e1]
          exact ⟨h7, Vk.Same.trans s6 s7⟩
      · obtain ⟨h6, s6⟩ := hP
        rw [List.take_length] at h6
        have hj := join_S (l := sg.filter (relP qs c)) (by have := List.length_filter_le (relP qs c) sg; omega)
        refine ⟨S [], D, (sg.filter (relP qs c)).map fun x => S [x], rfl, rfl, .inl (SqL.of (by rw [h6, List.map_map]; rfl)), hj.1, ?_⟩
        rw [hj.2]
        have hr6 := s6 _ _ hr5
        walk_at "go"
        refine iAppend hr6 (by rw [List.length_map, List.length_map, List.length_take, sizeLine_eq]; omega) ?_
        walk_at "go"
        refine ⟨_, _, rfl, ?_, Fr.trans (Fr.trans f5 (Fr.of_same s6)) Fr.in0⟩
        rw [upd_same, List.take_add_one, hc, List.map_append, List.map_append]
        rfl
    · rintro σ H5 ⟨v3, v4, rfl, hr5, f5⟩
      rw [List.take_length] at hr5
      walk_at "go"
      exact k rp H5 hrp (f5.forget1 hrp) hr5
def spTruth : Sp := fun vs H Q _ => ∃ b : Bool, vs = [.bl b, .bl b] ∧ Q (.bl true) H
theorem scTruth : FnScope ["_law_told", "_law_due"] ["_law_told", "_law_due"] (defScope sTruth) := ⟨rfl, rfl, rfl, by decide +kernel, rfl, by decide +kernel, by decide +kernel⟩
theorem ok_truth (T : Fns K mg a d) : FnOk P w K mg base CX0 1 a.aTruth d.dTruth ["_law_told", "_law_due"] spTruth := by
  refine T.FTruth.ok scTruth (fun vs H Q E h => ?_) (fun cdv A outer s H vs Q E hr h => ?_)
  · obtain ⟨b, rfl, _⟩ := h
    rfl
  · obtain ⟨b, rfl, k⟩ := h
    refine ⟨_, ((pss_one (ps_ret (pe_and (pe_callB call_isi (by rfl) T.z_isinstance (by decide +kernel) (pa_cons (pv 0) (pa_cons (pe_bltn (v := .ty "bool") (by rfl) T.z_bool (by decide +kernel) rfl) pa_nil))) (pe_one (pe_cmpR op_eq (pv 0) (pv 1) (nomark _))))))), ?_⟩
    walk_at "go"
    rw [decide_eq_true rfl]
    exact k
def rowsP (sg : List Nat) (R : Rel) (l : List Nat) : List (Nat × Nat) := l.flatMap fun s => (sg.filter (R s)).map fun o => (s, o)
theorem rows_len (sg : List Nat) (R : Rel) : ∀ l : List Nat, (rowsP sg R l).length ≤ l.length * sg.length
  | [] => by simp [rowsP]
  | a :: l => by
    have := rows_len sg R l
    have h2 := List.length_filter_le (R a) sg
    unfold rowsP at this ⊢
    rw [List.flatMap_cons, List.length_append, List.length_map, List.length_cons, Nat.succ_mul]
    omega
end
end
section
set_option Elab.async false
set_option linter.all false
set_option maxRecDepth 100000
set_option maxHeartbeats 4000000
open PySem PySem.Spec PyProof.Rows L2 NSet

local macro_rules | `(tactic| walk_at "side") => `(tactic| exact .inl (by assumption))
local macro_rules | `(tactic| walk_at "go1") => `(tactic| (with_reducible refine iGTup (by assumption) rfl ?_))
local macro_rules | `(tactic| walk_at "go1") => `(tactic| (with_reducible refine iGCons ?_))
local macro_rules | `(tactic| walk_at "go1") => `(tactic| (with_reducible refine iGNil ?_))
local macro_rules | `(tactic| walk_at "go1") => `(tactic| (with_reducible refine iMakeV ?_))
local macro_rules | `(tactic| walk_at "go1") => `(tactic| (with_reducible refine iMakeD ?_))
local macro_rules | `(tactic| walk_at "go1") => `(tactic| (with_reducible refine iLc2S ?_))
local macro_rules | `(tactic| walk_at "go1") => `(tactic| (with_reducible refine iLc2L ?_))
local macro_rules | `(tactic| walk_at "go1") => `(tactic| (with_reducible refine iIStr ?_))
local macro_rules | `(tactic| walk_at "go1") => `(tactic| (with_reducible refine iIxI ?_))
local macro_rules | `(tactic| walk_at "go1") => `(tactic| (with_reducible refine iCMeth ?_))

section
variable {P : Program} {w : World} {K : PySem.W.Frag} {mg : Str → Option Value} {base : Heap} {a : Ad} {d : Fd}
theorem dp_all {K : PySem.W.Frag} {H : Hp} : ∀ ys : List Str, DpAll K H (ys.map V.str) (ys.map PyData.str)
  | [] => .nil
  | y :: ys => .cons (.str y) (dp_all ys)
theorem dp_strs {K : PySem.W.Frag} {H : Hp} {a : Addr} {ys : List Str} (h : SqL K H a (ys.map V.str)) : Dp K H (.ref a) (.list (ys.map PyData.str)) := .lst h (dp_all ys)
theorem can_strs : ∀ ys : List Str, (∀ y ∈ ys, PyData.strOk y = true) → PyData.canLayAll0 (ys.map PyData.str) = true
  | [], _ => by simp [PyData.canLayAll0]
  | y :: r, h => by
    have h1 := h y List.mem_cons_self
    have h2 := can_strs r fun z hz => h z (List.mem_cons_of_mem _ hz)
    simp [PyData.canLayAll0, PyData.canLay0, h1, h2]
theorem dep_strs : ∀ ys : List Str, PyData.depthAll (ys.map PyData.str) = 0
  | [] => by simp [PyData.depthAll]
  | _ :: r => by simp [PyData.depthAll, PyData.depth, dep_strs r]
theorem shaped_strs {ys : List Str} (h : ∀ y ∈ ys, PyData.strOk y = true) : SeqAt.shaped (.list (ys.map PyData.str)) = true := by
  simp [SeqAt.shaped, PyData.canLay0, PyData.depth, can_strs ys h, dep_strs]
theorem eqv_strs (ys zs : List Str) : PyData.eqv (.list (ys.map PyData.str)) (.list (zs.map PyData.str)) = decide (ys = zs) := PySem.W.Datum.eqv (α := List Str) ys zs
theorem ok_S {l : List Nat} (h : ∀ c ∈ l, c < 0x110000) : PyData.strOk (S l) = true := by
  show l.toArray.all (fun c => decide (c < 0x110000)) = true
  simp
  exact h
theorem map_S_inj {a b : List Nat} : (a.map fun c => S [c]) = (b.map fun c => S [c]) ↔ a = b := by
  refine ⟨fun e => ?_, fun e => by rw [e]⟩
  have := congrArg (List.map fun z : Str => z.cps.toList.headD 0) e
  rw [List.map_map, List.map_map] at this
  have e1 : ∀ q : List Nat, q.map ((fun z : Str => z.cps.toList.headD 0) ∘ fun c => S [c]) = q := fun q => by
    refine (List.map_congr_left fun c _ => ?_).trans (List.map_id q)
    show (S [c]).cps.toList.headD 0 = c
    rw [S_cps]
    rfl
  rw [e1, e1] at this
  exact this
/-! signs in order, one sign -/
def ascB (sg t : List Nat) : Bool := decide (Differ t sg) && decide (t = srtL t)
def signB (sg t : List Nat) : Bool := match t with
  | [c] => decide (c ∈ sg)
  | _ => false

def spIsSignG (a : Ad) : Sp := fun vs H Q _ => ∃ (al : Addr) (t sg W : List Nat), vs = [.ref al, .str (S t)] ∧ AlG a.cAlphabet H al sg W ∧ t.length ≤ 4000 ∧ Q (.bl (signB sg t)) H
theorem ok_isSignG (T : Fns K mg a d) : FnOk P w K mg base CX0 1 a.aIsSign d.dIsSign ["self", "text"] (spIsSignG a) := by
  have hcl := T.clA
  have hnS := T.nS
  refine T.FIsSign.ok scIsSign (fun vs H Q E h => ?_) (fun cdv A0 outer s H vs Q E hr h => ?_)
  · obtain ⟨al, t, sg, W, rfl, _⟩ := h
    rfl
  · obtain ⟨al, t, sg, W, rfl, hal, ht, k⟩ := h
    obtain ⟨dx, l, v, hal1⟩ := hal.ins
    refine ⟨_, ((pss_one (ps_ret (pe_and (pe_cmpR op_eq (pe_callB call_lenS (by rfl) T.z_len (by decide +kernel) (pa_cons (pv 1) pa_nil)) pe_int (nomark _)) (pe_one (pe_cmpR op_inS (pv 1) (pe_fld (pv 0) rfl) rfl)))))), ?_⟩
    rcases t with _ | ⟨c, _ | ⟨c2, r⟩⟩
    · walk_at "go"
      exact k
    · walk_at "go"
      exact k
    · walk_at "go"
      exact k
def spAscG (a : Ad) : Sp := fun vs H Q _ => ∃ (al : Addr) (t sg W : List Nat), vs = [.ref al, .str (S t)] ∧ AlG a.cAlphabet H al sg W ∧ SgOk sg ∧ t.length ≤ 60 ∧ (∀ c ∈ t, c < 0x110000) ∧ ∀ H', Same H H' → Q (.bl (ascB sg t)) H'
theorem scAsc : FnScope ["self", "text"] ["self", "text"] (defScope sAsc) := ⟨rfl, rfl, rfl, by decide +kernel, rfl, by decide +kernel, by decide +kernel⟩
theorem ok_asc (T : Fns K mg a d) : FnOk P w K mg base CX0 2 a.aAsc d.dAsc ["self", "text"] (spAscG a) := by
  have hcl := T.clA
  have hnS := T.nS
  have GDiff : FnOk P w K mg base CX0 1 a.aDiff d.dDiff ["text", "allowed"] spDiff := ok_diff T.FDiff T.toTxA
  refine T.FAsc.ok scAsc (fun vs H Q E h => ?_) (fun cdv A0 outer s H vs Q E hr h => ?_)
  · obtain ⟨al, t, sg, W, rfl, _⟩ := h
    rfl
  · obtain ⟨al, t, sg, W, rfl, hal, hsg, ht, htc, k⟩ := h
    have hl5 := hsg.l
    obtain ⟨dx, l, v, hal1⟩ := hal.ins
    refine ⟨_, ((pss_one (ps_ret (pe_and (pe_call GDiff (hr.mono (by decide)) (by rfl) T.gDiff T.FDiff.kp T.bDiff .nil pass0 (pa_cons (pv 1) (pa_cons (pe_fld (pv 0) rfl) pa_nil))) (pe_one (pe_cmpR (op_eqD hr.units) (pe_callTy (call_listT rfl) (by rfl) T.z_list (by decide +kernel) (pa_cons (pv 1) pa_nil)) (pe_callB (cr_sortT rfl) (by rfl) T.z_sorted (by decide +kernel) (pa_cons (pv 1) pa_nil)) (nomark _))))))), ?_⟩
    walk_at "go"
    refine ⟨t, sg, rfl, by omega, fun H1 s1 => ?_⟩
    unfold ascB at k
    by_cases hd : Differ t (sg)
    · rw [decide_eq_true hd] at k ⊢
      rw [Bool.true_and] at k
      walk_at "go"
      rename_i p1 hp1
      refine ⟨S t, rfl, (by rw [S_len]; omega), fun ys p2 hp hs n2 => ?_⟩
      rw [signs_S] at hp
      have ey := sorted_signs hp hs
      subst ey
      refine ⟨.list ((t.map fun c => S [c]).map PyData.str), .list (((srtL t).map fun c => S [c]).map PyData.str), dp_strs (SqL.of (upd_old n2 (by rw [upd_same, List.map_map]; rfl))), dp_strs (SqL.of upd_same), shaped_strs ?_, shaped_strs ?_, ?_⟩
      · intro y hy
        obtain ⟨c, hc, rfl⟩ := List.mem_map.mp hy
        exact ok_S (fun z hz => by rw [List.mem_singleton] at hz; rw [hz]; exact htc c hc)
      · intro y hy
        obtain ⟨c, hc, rfl⟩ := List.mem_map.mp hy
        exact ok_S (fun z hz => by rw [List.mem_singleton] at hz; rw [hz]; exact htc c (srtL_mem.mp hc))
      · rw [eqv_strs, decide_eq_decide.mpr map_S_inj]
        exact k _ (Vk.Same.trans s1 (Vk.Same.trans (Same.upd_new hp1) (Same.upd_new n2)))
    · rw [decide_eq_false hd] at k ⊢
      rw [Bool.false_and] at k
      walk_at "go"
      exact k _ s1

def entB (sg : List Nat) (c : Nat) (t : List Nat) : Bool := decide (t.take 2 = [c, 62]) && (decide (t.drop 2 = [46]) || (!(t.drop 2).isEmpty && ascB sg (t.drop 2)))
def spEntry (a : Ad) : Sp := fun vs H Q _ => ∃ (al : Addr) (c : Nat) (t sg W : List Nat), vs = [.ref al, .str (S [c]), .str (S t)] ∧ AlG a.cAlphabet H al sg W ∧ SgOk sg ∧ t.length ≤ 60 ∧ (∀ c ∈ t, c < 0x110000) ∧ ∀ H', Same H H' → Q (.bl (entB sg c t)) H'
theorem scPIsEntry : FnScope ["alphabet", "sign", "entry", "outs"] ["alphabet", "sign", "entry"] (defScope sPIsEntry) := ⟨rfl, rfl, rfl, by decide +kernel, rfl, by decide +kernel, by decide +kernel⟩
theorem ok_entry (T : Fns K mg a d) : FnOk P w K mg base CX0 3 a.aPIsEntry d.dPIsEntry ["alphabet", "sign", "entry"] (spEntry a) := by
  have GAsc := ok_asc (P := P) (w := w) (base := base) T
  refine T.FPIsEntry.ok scPIsEntry (fun vs H Q E h => ?_) (fun cdv A0 outer s H vs Q E hr h => ?_)
  · obtain ⟨al, c, t, sg, W, rfl, _⟩ := h
    rfl
  · obtain ⟨al, c, t, sg, W, rfl, hal, hsg, ht, htc, k⟩ := h
    have hcl := T.clA
    obtain ⟨dx, l, v, hal1⟩ := hal.ins
    refine ⟨_, ((pss_cons (ps_set (i := 3) scPIsEntry.nd rfl (Or.inl rfl) (pe_slice sl_str (pv 2) (po_some pe_int) po_none))
      (pss_one (ps_ret (pe_and (pe_cmpR op_eq (pe_slice sl_str (pv 2) po_none (po_some pe_int)) (pe_op op_addS (pv 1) (pe_strS (l := [62]) (by decide +kernel))) (nomark _)) (pe_one (pe_or (pe_cmpR op_eq (pv 3) (pe_strS (l := [46]) (by decide +kernel)) (nomark _)) (pe_one (pe_and (pe_cmpR op_ne (pv 3) (pe_strS (l := []) (by decide +kernel)) (nomark _)) (pe_one (pe_meth (pv 0) T.clA T.mAsc GAsc (hr.mono (by decide)) T.bAsc .nil pass0 (pa_cons (pv 3) pa_nil)))))))))))), ?_⟩
    have l1 : (t.drop 2).length ≤ 60 := by rw [List.length_drop]; omega
    unfold entB at k
    walk_at "go"
    · rename_i h1 h2
      rw [decide_eq_true (show t.take 2 = [c, 62] from h1), decide_eq_true h2] at k
      exact k _ fun _ _ h => h
    · rename_i h1 h2 h3
      rw [decide_eq_true (show t.take 2 = [c, 62] from h1), decide_eq_false h2] at k
      refine ⟨al, t.drop 2, sg, W, rfl, hal, hsg, l1, fun z hz => htc z (List.mem_of_mem_drop hz), fun H1 s1 => ?_⟩
      have k := k H1 s1
      have e : (t.drop 2).isEmpty = false := by
        cases h : t.drop 2 with
        | nil => exact absurd h h3
        | cons _ _ => rfl
      rw [e] at k
      simpa only [Bool.true_and, Bool.false_or, Bool.not_false] using k
    · rename_i h1 h2 h3
      rw [decide_eq_true (show t.take 2 = [c, 62] from h1), decide_eq_false h2, h3] at k
      exact k _ fun _ _ h => h
    · rename_i h1
      rw [decide_eq_false (show ¬ t.take 2 = [c, 62] from h1)] at k
      exact k _ fun _ _ h => h
end
end
section
set_option Elab.async false
set_option linter.all false
set_option maxRecDepth 100000
set_option maxHeartbeats 4000000
open PySem PySem.Spec PyProof.Rows L2 NSet

local macro_rules | `(tactic| walk_at "side") => `(tactic| exact .inl (by assumption))
local macro_rules | `(tactic| walk_at "go1") => `(tactic| (with_reducible refine iGTup (by assumption) rfl ?_))
local macro_rules | `(tactic| walk_at "go1") => `(tactic| (with_reducible refine iGCons ?_))
local macro_rules | `(tactic| walk_at "go1") => `(tactic| (with_reducible refine iGNil ?_))
local macro_rules | `(tactic| walk_at "go1") => `(tactic| (with_reducible refine iMakeV ?_))
local macro_rules | `(tactic| walk_at "go1") => `(tactic| (with_reducible refine iMakeD ?_))
local macro_rules | `(tactic| walk_at "go1") => `(tactic| (with_reducible refine iLc2S ?_))
local macro_rules | `(tactic| walk_at "go1") => `(tactic| (with_reducible refine iLc2L ?_))
local macro_rules | `(tactic| walk_at "go1") => `(tactic| (with_reducible refine iIStr ?_))
local macro_rules | `(tactic| walk_at "go1") => `(tactic| (with_reducible refine iIxI ?_))
local macro_rules | `(tactic| walk_at "go1") => `(tactic| (with_reducible refine iCMeth ?_))

section
variable {P : Program} {w : World} {K : PySem.W.Frag} {mg : Str → Option Value} {base : Heap} {a : Ad} {d : Fd}
def Tx (t : List Nat) : Prop := t.length ≤ 100 ∧ ∀ c ∈ t, c < 0x110000
theorem repr_tx {t : List Nat} (h : Tx t) : (reprText (S t)).length ≤ 1002 := by
  have h1 := PySem.StrLaws.reprText_len (S t) (fun c hc => by
    rw [S_cps] at hc
    have := h.2 c hc
    omega)
  rw [S_len] at h1
  have := h.1
  omega
theorem al2 (a b : Str) : (a ++ b).length = a.length + b.length := by
  show (a.cps ++ b.cps).size = _
  rw [Array.size_append]
  rfl
theorem sl4 {n : Nat} (h : n ≤ 4000) : n ≤ sizeLine := by rw [sizeLine_eq]; omega
theorem e0l : Str.empty.length = 0 := by decide +kernel
theorem emp_S : (Str.empty : Str) = S [] := by decide +kernel
def PostE (B b : Addr) (E : XK) (H1 : Hp) : VK := fun v H2 => v = .non ∧ ∃ (d : Addr) (fs : List (Str × V)), H2 b = some (exo b B (some d)) ∧ H2 d = some (exd d fs) ∧ H1 d = none ∧ E (.ref B) (some d) (upd (del H2 b) d (.xd fs))
theorem raise1 {B b : Addr} {H0 H1 : Hp} {E : XK} {f : Str} {y : V} (hb : H1 b = none) (s : Same H0 H1) (k : ∀ d H', H0 d = none → H' d = some (.xd [(f, y)]) → Same H0 H' → E (.ref B) (some d) H') :
    ∀ dx, (upd H1 b (exo b B none)) dx = none → dx ≠ b → PostE B b E H1 .non (upd (upd (upd H1 b (exo b B none)) dx (exd dx [(f, y)])) b (exo b B (some dx))) := by
  intro d hd hn
  refine ⟨rfl, d, [(f, y)], upd_same, ?_, ?_, ?_⟩
  · rw [upd_ne hn, upd_same]
  · rw [upd_ne hn] at hd
    exact hd
  · have h1 : H1 d = none := by
      rw [upd_ne hn] at hd
      exact hd
    exact k d _ (L2.Same.free s h1) upd_same (Vk.Same.trans s (kp_exc hb hd hn))
def spErr (C : Addr) (f : Str) : Sp := fun vs H Q _ => ∃ (a : Addr) (t : List Nat), vs = [.ref a, .str (S t)] ∧ Tx t ∧ H a = some (exo a C none) ∧
  ∀ dx, H dx = none → dx ≠ a → Q .non (upd (upd H dx (exd dx [(f, .str (S t))])) a (exo a C (some dx)))
def spErrI (C : Addr) (f : Str) : Sp := fun vs H Q _ => ∃ (a : Addr) (k : Nat), vs = [.ref a, .int (k : Int)] ∧ k ≤ 31 ∧ H a = some (exo a C none) ∧
  ∀ dx, H dx = none → dx ≠ a → Q .non (upd (upd H dx (exd dx [(f, .int (k : Int))])) a (exo a C (some dx)))
abbrev sEUnknownSign : Stmt := inClass (top 6) 0
theorem scUnknownSign : SScope ["self", "sign"] (defScope sEUnknownSign) := ⟨rfl, rfl, rfl, by decide +kernel, by decide +kernel, by decide +kernel, fun x h => (show ∀ y ∈ (defScope sEUnknownSign).names, y.2 = .free → y.1 = "__class__" by decide +kernel) _ (PySem.mem_of_lookup h) rfl, by decide +kernel, by decide +kernel⟩
theorem ok_eUnknownSign {f C cc cda : Addr} {dV kV doc pm ct oc : Value} {an od : Option Addr} {osl : Array (Option Value)} (T : SupC P K mg C cc cda) (hp : PySem.W.findIn K (.ref C) "sign" = some none)
    (lk : K.lookup f = some ⟨oc, od, .func (PySem.W.ksFn "__init__" "UnknownSign.__init__" (defArgs sEUnknownSign) (defBody sEUnknownSign) (defScope sEUnknownSign) dV kV doc pm an (.ref cda) ct cc), osl⟩) (hcd : PySem.W.codeIn K (.ref cda) "UnknownSign.__init__" = true) :
    FnOk P w K mg base CX0 1 f (PySem.W.ksFn "__init__" "UnknownSign.__init__" (defArgs sEUnknownSign) (defBody sEUnknownSign) (defScope sEUnknownSign) dV kV doc pm an (.ref cda) ct cc) ["self", "sign"] (spErr C "sign") := by
  refine fn_super (self := "self") (N' := ["sign"]) T lk hcd scUnknownSign rfl rfl rfl rfl (fun _ => rfl) (fun _ => rfl) (fun vs H Q E h => ?_) (fun A outer s H vs Q E hr h => ?_)
  · obtain ⟨a, z, rfl, _⟩ := h
    rfl
  · obtain ⟨a, z, rfl, hz, ha, k⟩ := h
    refine ⟨_, _, pe_joined (.cons pe_str (.cons (pe_fmtR (pv 1)) .nil)), pss_one (ps_ost (pv 0) (pv 1)), ⟨a, rfl, ha⟩, ?_⟩
    have e1 : (PySem.Str.ofString "not a sign of the alphabet: ").length ≤ 100 := by decide +kernel
    have hz2 := repr_tx hz
    refine ⟨_, rfl, sl4 ?_, _, rfl, .inl ⟨S z, rfl, sl4 (by omega), _, rfl, sl4 ?_, ⟨a, rfl, ha⟩, ?_⟩⟩
    · rw [al2, e0l]
      omega
    · rw [al2, al2, e0l]
      omega
    · exact ⟨_, rfl, _, rfl, a, C, rfl, T.oex, hp, .inl ⟨ha, fun dx hd hn => k dx hd hn⟩⟩
abbrev sEBadPair : Stmt := inClass (top 5) 0
theorem scBadPair : SScope ["self", "index"] (defScope sEBadPair) := ⟨rfl, rfl, rfl, by decide +kernel, by decide +kernel, by decide +kernel, fun x h => (show ∀ y ∈ (defScope sEBadPair).names, y.2 = .free → y.1 = "__class__" by decide +kernel) _ (PySem.mem_of_lookup h) rfl, by decide +kernel, by decide +kernel⟩
theorem ok_eBadPair {f C cc cda : Addr} {dV kV doc pm ct oc : Value} {an od : Option Addr} {osl : Array (Option Value)} (T : SupC P K mg C cc cda) (hp : PySem.W.findIn K (.ref C) "index" = some none)
    (lk : K.lookup f = some ⟨oc, od, .func (PySem.W.ksFn "__init__" "BadPair.__init__" (defArgs sEBadPair) (defBody sEBadPair) (defScope sEBadPair) dV kV doc pm an (.ref cda) ct cc), osl⟩) (hcd : PySem.W.codeIn K (.ref cda) "BadPair.__init__" = true) :
    FnOk P w K mg base CX0 1 f (PySem.W.ksFn "__init__" "BadPair.__init__" (defArgs sEBadPair) (defBody sEBadPair) (defScope sEBadPair) dV kV doc pm an (.ref cda) ct cc) ["self", "index"] (spErrI C "index") := by
  refine fn_super (self := "self") (N' := ["index"]) T lk hcd scBadPair rfl rfl rfl rfl (fun _ => rfl) (fun _ => rfl) (fun vs H Q E h => ?_) (fun A outer s H vs Q E hr h => ?_)
  · obtain ⟨a, z, rfl, _⟩ := h
    rfl
  · obtain ⟨a, z, rfl, hz, ha, k⟩ := h
    refine ⟨_, _, pe_joined (.cons pe_str (.cons (pe_fmt (pv 1)) .nil)), pss_one (ps_ost (pv 0) (pv 1)), ⟨a, rfl, ha⟩, ?_⟩
    have f1 : ∀ i : Fin 32, ((i.val : Nat) : Int).natAbs.log2 < 1920 := by decide +kernel
    have f2 : ∀ i : Fin 32, (Str.empty ++ PySem.Str.ofString "not a pair of signs: number " ++ PySem.Str.ofString (toString ((i.val : Nat) : Int))).length ≤ 4000 := by decide +kernel
    refine ⟨_, rfl, sl4 ?_, _, rfl, .inr ⟨z, rfl, f1 ⟨z, by omega⟩, _, rfl, sl4 (f2 ⟨z, by omega⟩), ⟨a, rfl, ha⟩, ?_⟩⟩
    · decide +kernel
    · exact ⟨_, rfl, _, rfl, a, C, rfl, T.oex, hp, .inl ⟨ha, fun dx hd hn => k dx hd hn⟩⟩
abbrev sEBadEntry : Stmt := inClass (top 7) 0
theorem scBadEntry : SScope ["self", "index"] (defScope sEBadEntry) := ⟨rfl, rfl, rfl, by decide +kernel, by decide +kernel, by decide +kernel, fun x h => (show ∀ y ∈ (defScope sEBadEntry).names, y.2 = .free → y.1 = "__class__" by decide +kernel) _ (PySem.mem_of_lookup h) rfl, by decide +kernel, by decide +kernel⟩
theorem ok_eBadEntry {f C cc cda : Addr} {dV kV doc pm ct oc : Value} {an od : Option Addr} {osl : Array (Option Value)} (T : SupC P K mg C cc cda) (hp : PySem.W.findIn K (.ref C) "index" = some none)
    (lk : K.lookup f = some ⟨oc, od, .func (PySem.W.ksFn "__init__" "BadEntry.__init__" (defArgs sEBadEntry) (defBody sEBadEntry) (defScope sEBadEntry) dV kV doc pm an (.ref cda) ct cc), osl⟩) (hcd : PySem.W.codeIn K (.ref cda) "BadEntry.__init__" = true) :
    FnOk P w K mg base CX0 1 f (PySem.W.ksFn "__init__" "BadEntry.__init__" (defArgs sEBadEntry) (defBody sEBadEntry) (defScope sEBadEntry) dV kV doc pm an (.ref cda) ct cc) ["self", "index"] (spErrI C "index") := by
  refine fn_super (self := "self") (N' := ["index"]) T lk hcd scBadEntry rfl rfl rfl rfl (fun _ => rfl) (fun _ => rfl) (fun vs H Q E h => ?_) (fun A outer s H vs Q E hr h => ?_)
  · obtain ⟨a, z, rfl, _⟩ := h
    rfl
  · obtain ⟨a, z, rfl, hz, ha, k⟩ := h
    refine ⟨_, _, pe_joined (.cons pe_str (.cons (pe_fmt (pv 1)) .nil)), pss_one (ps_ost (pv 0) (pv 1)), ⟨a, rfl, ha⟩, ?_⟩
    have f1 : ∀ i : Fin 32, ((i.val : Nat) : Int).natAbs.log2 < 1920 := by decide +kernel
    have f2 : ∀ i : Fin 32, (Str.empty ++ PySem.Str.ofString "wrong table, in the entry with the index " ++ PySem.Str.ofString (toString ((i.val : Nat) : Int))).length ≤ 4000 := by decide +kernel
    refine ⟨_, rfl, sl4 ?_, _, rfl, .inr ⟨z, rfl, f1 ⟨z, by omega⟩, _, rfl, sl4 (f2 ⟨z, by omega⟩), ⟨a, rfl, ha⟩, ?_⟩⟩
    · decide +kernel
    · exact ⟨_, rfl, _, rfl, a, C, rfl, T.oex, hp, .inl ⟨ha, fun dx hd hn => k dx hd hn⟩⟩
end
end
section
set_option Elab.async false
set_option linter.all false
set_option maxRecDepth 100000
set_option maxHeartbeats 4000000
open PySem PySem.Spec PyProof.Rows L2 NSet

local macro_rules | `(tactic| walk_at "side") => `(tactic| exact .inl (by assumption))
local macro_rules | `(tactic| walk_at "go1") => `(tactic| (with_reducible refine iGTup (by assumption) rfl ?_))
local macro_rules | `(tactic| walk_at "go1") => `(tactic| (with_reducible refine iGCons ?_))
local macro_rules | `(tactic| walk_at "go1") => `(tactic| (with_reducible refine iGNil ?_))
local macro_rules | `(tactic| walk_at "go1") => `(tactic| (with_reducible refine iMakeV ?_))
local macro_rules | `(tactic| walk_at "go1") => `(tactic| (with_reducible refine iMakeD ?_))
local macro_rules | `(tactic| walk_at "go1") => `(tactic| (with_reducible refine iLc2S ?_))
local macro_rules | `(tactic| walk_at "go1") => `(tactic| (with_reducible refine iLc2L ?_))
local macro_rules | `(tactic| walk_at "go1") => `(tactic| (with_reducible refine iIStr ?_))
local macro_rules | `(tactic| walk_at "go1") => `(tactic| (with_reducible refine iIxI ?_))
local macro_rules | `(tactic| walk_at "go1") => `(tactic| (with_reducible refine iCMeth ?_))

section
variable {P : Program} {w : World} {K : PySem.W.Frag} {mg : Str → Option Value} {base : Heap} {a : Ad} {d : Fd}
theorem iOrS {ta tb : TE} {σ : L2.St} {H : Hp} {Q : VK} (h : ta σ H fun x H1 => ∃ l : List Nat, x = .str (S l) ∧ l.length ≤ 4000 ∧ (l ≠ [] → Q (.str (S l)) H1) ∧ (l = [] → tb σ H1 Q)) : tOrS ta tb σ H Q := h
theorem Tb.ins {a : Ad} {H : Hp} {t al : Addr} {sg W : List Nat} {R : Rel} (h : Tb a H t al sg W R) : ∃ dx lp, H t = some (.ins a.cTable dx [("alphabet", .ref al), ("_pairs", .ref lp)]) := by
  obtain ⟨lp, qs, ⟨dx, h⟩, _⟩ := h
  exact ⟨dx, lp, h⟩
theorem s_empty (l : List Nat) : decide (V.str (S l) = V.str (S [])) = l.isEmpty := by
  cases l with
  | nil => exact decide_eq_true rfl
  | cons c r => exact decide_eq_false fun e => (List.cons_ne_nil c r) (S_inj.mp (V.str.inj e))
def totB (sg : List Nat) (R : Rel) : Bool := sg.all fun s => !(sg.filter (R s)).isEmpty
def exaB (sg : List Nat) (R : Rel) : Bool := sg.all fun s => decide ((sg.filter (R s)).length ≤ 1)
def spTotal (a : Ad) : Sp := fun vs H Q _ => ∃ (t al : Addr) (sg W : List Nat) (R : Rel), vs = [.ref t] ∧ Tb a H t al sg W R ∧ SgOk sg ∧ ∀ H', Same H H' → Q (.bl (totB sg R)) H'
theorem scTTotal : FnScope ["self", "sign"] ["self"] (defScope sTTotal) := ⟨rfl, rfl, rfl, by decide +kernel, rfl, by decide +kernel, by decide +kernel⟩
theorem ok_total (T : Fns K mg a d) : FnOk P w K mg base CX0 5 a.aTTotal d.dTTotal ["self"] (spTotal a) := by
  have GTGet := ok_get (P := P) (w := w) (base := base) T
  refine T.FTTotal.ok scTTotal (fun vs H Q E h => ?_) (fun cdv A0 outer s H vs Q E hr h => ?_)
  · obtain ⟨t, al, sg, W, R, rfl, _⟩ := h
    rfl
  · obtain ⟨t, al, sg, W, R, rfl, hT, hsg, k⟩ := h
    have hl5 := hsg.l
    have clT := T.clT
    have clA := T.clA
    have nTa := T.nTa
    have nS := T.nS
    obtain ⟨lp0, qs0, hTL⟩ := id hT
    obtain ⟨⟨dx, ht⟩, hal, _, _⟩ := id hTL
    obtain ⟨dxa, ll, vv, hi⟩ := hal.ins
    refine ⟨_, ((pss_one (ps_ret (pe_callB (cr_all rfl) (by rfl) T.z_all (by decide +kernel) (pa_cons (pe_lc (own := [("sign", 1)]) (g := gName 1) (by rfl) scTTotal.nd (pi_str (pe_fld (pe_fld (pv 0) rfl) rfl)) (blkOk_by (own := [("sign", 1)]) (N := ["self", "sign"]) (sc := defScope sTTotal) (by decide +kernel)) (fun _ _ _ _ _ => pg_name (i := 1) scTTotal.nd rfl (Or.inl rfl)) (fun _ _ _ _ _ => pts_nil) (fun _ _ _ _ _ => (pe_cmpR op_ne (pe_ixI T.mTGet.at_ T.fnTGet T.mTGet.fn (GTGet.raw T.bTGet .nil) (hr.mono (by decide)) (fun σ pins H s e s' => passE pins σ H s e s') (pv 0) (pv 1) (fun _ _ => rfl)) (pe_strS (l := []) (by decide +kernel)) (nomark _)))) pa_nil))))), ?_⟩
    walk_at "go"
    rename_i D hD
    refine lcg_S (fun j H' => H' D = some (.lst ((sg.take j).map fun s => V.bl (!(sg.filter (R s)).isEmpty))) ∧ Same H H') ⟨upd_same, Same.upd_new hD⟩ (fun _ => rfl) (fun j c H' hc hP2 => ?_) (fun H' hP2 => ?_)
    · obtain ⟨h8, s8⟩ := hP2
      have ht8 := s8 _ _ ht
      have hcm := List.mem_of_getElem? hc
      have hjl := (List.getElem?_eq_some_iff.mp hc).1
      walk_at "go"
      refine ⟨t, al, c, sg, W, R, rfl, hT.same s8, hsg, hcm, fun H9 s9 => ?_⟩
      walk_at "go"
      refine ⟨by rw [List.length_map, List.length_take, sizeLine_eq]; omega, ?_, fun b o hb => ?_⟩
      · rw [upd_same, List.take_add_one, hc, List.map_append, s_empty]
        rfl
      · rw [upd_ne (fun z => by rw [z, hD] at hb; cases hb)]
        exact s9 _ _ (s8 _ _ hb)
    · obtain ⟨h8, s8⟩ := hP2
      rw [List.take_length] at h8
      walk_at "go"
      refine ⟨D, sg.map fun s => (!(sg.filter (R s)).isEmpty), rfl, SqL.of (by rw [h8, List.map_map]; rfl), ?_⟩
      have e : (sg.map fun s => (!(sg.filter (R s)).isEmpty)).all id = totB sg R := by
        rw [List.all_map]
        rfl
      rw [e]
      exact k _ s8
def spExact (a : Ad) : Sp := fun vs H Q _ => ∃ (t al : Addr) (sg W : List Nat) (R : Rel), vs = [.ref t] ∧ Tb a H t al sg W R ∧ SgOk sg ∧ ∀ H', Same H H' → Q (.bl (exaB sg R)) H'
theorem scTExact : FnScope ["self", "sign"] ["self"] (defScope sTExact) := ⟨rfl, rfl, rfl, by decide +kernel, rfl, by decide +kernel, by decide +kernel⟩
theorem ok_exact (T : Fns K mg a d) : FnOk P w K mg base CX0 5 a.aTExact d.dTExact ["self"] (spExact a) := by
  have GTGet := ok_get (P := P) (w := w) (base := base) T
  refine T.FTExact.ok scTExact (fun vs H Q E h => ?_) (fun cdv A0 outer s H vs Q E hr h => ?_)
  · obtain ⟨t, al, sg, W, R, rfl, _⟩ := h
    rfl
  · obtain ⟨t, al, sg, W, R, rfl, hT, hsg, k⟩ := h
    have hl5 := hsg.l
    have clT := T.clT
    have clA := T.clA
    have nTa := T.nTa
    have nS := T.nS
    obtain ⟨lp0, qs0, hTL⟩ := id hT
    obtain ⟨⟨dx, ht⟩, hal, _, _⟩ := id hTL
    obtain ⟨dxa, ll, vv, hi⟩ := hal.ins
    refine ⟨_, ((pss_one (ps_ret (pe_callB (cr_all rfl) (by rfl) T.z_all (by decide +kernel) (pa_cons (pe_lc (own := [("sign", 1)]) (g := gName 1) (by rfl) scTExact.nd (pi_str (pe_fld (pe_fld (pv 0) rfl) rfl)) (blkOk_by (own := [("sign", 1)]) (N := ["self", "sign"]) (sc := defScope sTExact) (by decide +kernel)) (fun _ _ _ _ _ => pg_name (i := 1) scTExact.nd rfl (Or.inl rfl)) (fun _ _ _ _ _ => pts_nil) (fun _ _ _ _ _ => (pe_cmpR op_le (pe_callB call_lenS (by rfl) T.z_len (by decide +kernel) (pa_cons (pe_ixI T.mTGet.at_ T.fnTGet T.mTGet.fn (GTGet.raw T.bTGet .nil) (hr.mono (by decide)) (fun σ pins H s e s' => passE pins σ H s e s') (pv 0) (pv 1) (fun _ _ => rfl)) pa_nil)) pe_int (nomark _)))) pa_nil))))), ?_⟩
    walk_at "go"
    rename_i D hD
    refine lcg_S (fun j H' => H' D = some (.lst ((sg.take j).map fun s => V.bl (decide ((sg.filter (R s)).length ≤ 1)))) ∧ Same H H') ⟨upd_same, Same.upd_new hD⟩ (fun _ => rfl) (fun j c H' hc hP2 => ?_) (fun H' hP2 => ?_)
    · obtain ⟨h8, s8⟩ := hP2
      have ht8 := s8 _ _ ht
      have hcm := List.mem_of_getElem? hc
      have hjl := (List.getElem?_eq_some_iff.mp hc).1
      walk_at "go"
      have hf := List.length_filter_le (R c) sg
      refine ⟨t, al, c, sg, W, R, rfl, hT.same s8, hsg, hcm, fun H9 s9 => ?_⟩
      walk_at "go"
      refine ⟨by rw [List.length_map, List.length_take, sizeLine_eq]; omega, ?_, fun b o hb => ?_⟩
      · rw [upd_same, List.take_add_one, hc, List.map_append]
        have e9 : decide (((List.filter (R c) sg).length : Int) ≤ 1) = decide ((List.filter (R c) sg).length ≤ 1) := decide_eq_decide.mpr (by omega)
        rw [e9]
        rfl
      · rw [upd_ne (fun z => by rw [z, hD] at hb; cases hb)]
        exact s9 _ _ (s8 _ _ hb)
    · obtain ⟨h8, s8⟩ := hP2
      rw [List.take_length] at h8
      walk_at "go"
      refine ⟨D, sg.map fun s => (decide ((sg.filter (R s)).length ≤ 1)), rfl, SqL.of (by rw [h8, List.map_map]; rfl), ?_⟩
      have e : (sg.map fun s => (decide ((sg.filter (R s)).length ≤ 1))).all id = exaB sg R := by
        rw [List.all_map]
        rfl
      rw [e]
      exact k _ s8
def spBool (a : Ad) : Sp := fun vs H Q _ => ∃ (t al : Addr) (sg W : List Nat) (R : Rel), vs = [.ref t] ∧ Tb a H t al sg W R ∧ SgOk sg ∧ Q (.bl (!(canL sg R).isEmpty)) H
theorem scTBool : FnScope ["self"] ["self"] (defScope sTBool) := ⟨rfl, rfl, rfl, by decide +kernel, rfl, by decide +kernel, by decide +kernel⟩
theorem ok_boolM (T : Fns K mg a d) : FnOk P w K mg base CX0 1 a.aTBool d.dTBool ["self"] (spBool a) := by
  refine T.FTBool.ok scTBool (fun vs H Q E h => ?_) (fun cdv A0 outer s H vs Q E hr h => ?_)
  · obtain ⟨t, al, sg, W, R, rfl, _⟩ := h
    rfl
  · obtain ⟨t, al, sg, W, R, rfl, hT, hsg, k⟩ := h
    have clT := T.clT
    have nTp := T.nTp
    obtain ⟨lp0, qs0, hTL⟩ := id hT
    obtain ⟨⟨dx, ht⟩, hal, hp, ec⟩ := id hTL
    have hpl := hp.l
    refine ⟨_, ((pss_one (ps_ret (pe_callTy call_boolL (by rfl) T.z_bool (by decide +kernel) (pa_cons (pe_fld (pv 0) rfl) pa_nil))))), ?_⟩
    walk_at "go"
    have e : (!(qs0.map fun q => V.ref q.1).isEmpty) = !(canL sg R).isEmpty := by
      rw [← ec]
      cases qs0 <;> rfl
    rw [e]
    exact k
def rowW (sg : List Nat) (R : Rel) (c : Nat) : List Nat := c :: 62 :: (if sg.filter (R c) = [] then [46] else sg.filter (R c))
def spStr (a : Ad) : Sp := fun vs H Q _ => ∃ (t al : Addr) (sg W : List Nat) (R : Rel), vs = [.ref t] ∧ Tb a H t al sg W R ∧ SgOk sg ∧ ∀ H', Same H H' → Q (.str (Txt.join (S [32]) (sg.map fun c => S (rowW sg R c)))) H'
theorem scTStr : FnScope ["self", "sign"] ["self"] (defScope sTStr) := ⟨rfl, rfl, rfl, by decide +kernel, rfl, by decide +kernel, by decide +kernel⟩
theorem ok_strM (T : Fns K mg a d) : FnOk P w K mg base CX0 5 a.aTStr d.dTStr ["self"] (spStr a) := by
  have GTGet := ok_get (P := P) (w := w) (base := base) T
  refine T.FTStr.ok scTStr (fun vs H Q E h => ?_) (fun cdv A0 outer s H vs Q E hr h => ?_)
  · obtain ⟨t, al, sg, W, R, rfl, _⟩ := h
    rfl
  · obtain ⟨t, al, sg, W, R, rfl, hT, hsg, k⟩ := h
    have hl5 := hsg.l
    have clT := T.clT
    have clA := T.clA
    have nTa := T.nTa
    have nS := T.nS
    obtain ⟨lp0, qs0, hTL⟩ := id hT
    obtain ⟨⟨dx, ht⟩, hal, _, _⟩ := id hTL
    obtain ⟨dxa, ll, vv, hi⟩ := hal.ins
    refine ⟨_, ((pss_one (ps_ret (pe_join (pe_strS (l := [32]) (by decide +kernel)) (pe_lc (own := [("sign", 1)]) (g := gName 1) (by rfl) scTStr.nd (pi_str (pe_fld (pe_fld (pv 0) rfl) rfl)) (blkOk_by (own := [("sign", 1)]) (N := ["self", "sign"]) (sc := defScope sTStr) (by decide +kernel)) (fun _ _ _ _ _ => pg_name (i := 1) scTStr.nd rfl (Or.inl rfl)) (fun _ _ _ _ _ => pts_nil) (fun _ _ _ _ _ => (pe_joined (.cons (pe_fmt (pv 1)) (.cons (pe_strS (l := [62]) (by decide +kernel)) (.cons (pe_fmt (pe_orS (pe_ixI T.mTGet.at_ T.fnTGet T.mTGet.fn (GTGet.raw T.bTGet .nil) (hr.mono (by decide)) (fun σ pins H s e s' => passE pins σ H s e s') (pv 0) (pv 1) (fun _ _ => rfl)) (pe_one (pe_strS (l := [46]) (by decide +kernel))))) .nil)))))))))), ?_⟩
    walk_at "go"
    rename_i D hD
    refine lcg_S (fun j H' => H' D = some (.lst ((sg.take j).map fun c => V.str (S (rowW sg R c)))) ∧ Same H H') ⟨upd_same, Same.upd_new hD⟩ (fun _ => rfl) (fun j c H' hc hP2 => ?_) (fun H' hP2 => ?_)
    · obtain ⟨h8, s8⟩ := hP2
      have ht8 := s8 _ _ ht
      have hcm := List.mem_of_getElem? hc
      have hjl := (List.getElem?_eq_some_iff.mp hc).1
      have hf := List.length_filter_le (R c) sg
      have b1 : (Str.empty).length = 0 := rfl
      walk_at "go"
      unfold tJs
      dsimp only
      refine ⟨_, rfl, .inl ⟨S [c], rfl, sl4 (by simp only [S_len, List.length_cons, List.length_nil]; omega), _, rfl, sl4 (by simp only [al2, e0l, S_len, List.length_cons, List.length_nil]; omega), ?_⟩⟩
      refine ⟨_, rfl, sl4 (by simp only [al2, e0l, S_len, List.length_cons, List.length_nil]; omega), ?_⟩
      unfold tJs
      refine iOrS ?_
      walk_at "go"
      refine ⟨t, al, c, sg, W, R, rfl, hT.same s8, hsg, hcm, fun H9 s9 => ?_⟩
      have fin : ∀ r : List Nat, r.length ≤ 5 → r = (if sg.filter (R c) = [] then [46] else sg.filter (R c)) → ∃ acc, H9 D = some (HO.lst acc) ∧ acc.length < sizeLine ∧ upd H9 D (HO.lst (acc ++ [V.str (Str.empty ++ S [c] ++ S [62] ++ S r)])) D = some (HO.lst (List.map (fun c => V.str (S (rowW sg R c))) (List.take (j + 1) sg))) ∧ Same H (upd H9 D (HO.lst (acc ++ [V.str (Str.empty ++ S [c] ++ S [62] ++ S r)]))) := fun r hr er => by
        refine ⟨_, s9 _ _ h8, by rw [List.length_map, List.length_take, sizeLine_eq]; omega, ?_, fun b o hb => ?_⟩
        · rw [upd_same, List.take_add_one, hc, List.map_append, emp_S, S_app, S_app, S_app, er]
          rfl
        · rw [upd_ne (fun z => by rw [z, hD] at hb; cases hb)]
          exact s9 _ _ (s8 _ _ hb)
      have hfl : (sg.filter (R c)).length ≤ 5 := Nat.le_trans hf hl5
      refine ⟨_, rfl, by omega, fun hne => ?_, fun he => ?_⟩
      · refine .inl ⟨S (sg.filter (R c)), rfl, sl4 (by rw [S_len]; omega), _, rfl, sl4 (by simp only [al2, e0l, S_len, List.length_cons, List.length_nil]; omega), ?_⟩
        exact fin _ hfl (by rw [if_neg hne])
      · refine .inl ⟨S [46], rfl, sl4 (by simp only [S_len, List.length_cons, List.length_nil]; omega), _, rfl, sl4 (by simp only [al2, e0l, S_len, List.length_cons, List.length_nil]; omega), ?_⟩
        exact fin _ (by decide) (by rw [if_pos he])
    · obtain ⟨h8, s8⟩ := hP2
      rw [List.take_length] at h8
      walk_at "go"
      rotate_left
      · exact sg.map fun c => S (rowW sg R c)
      refine ⟨.inl (SqL.of (by rw [h8, List.map_map]; rfl)), ?_, k _ s8⟩
      have hsum : ∀ l : List Nat, ((l.map fun c => S (rowW sg R c)).map fun x => x.length).sum ≤ l.length * 7 := by
        intro l
        induction l with
        | nil => exact Nat.le_refl _
        | cons c l ih =>
          have h1 := List.length_filter_le (R c) sg
          have h2 : (rowW sg R c).length ≤ 7 := by
            unfold rowW
            rw [List.length_cons, List.length_cons]
            split
            · show 1 + 1 + 1 ≤ 7
              decide
            · omega
          simp only [List.map_cons, List.sum_cons, List.length_cons, S_len] at ih ⊢
          omega
      have h3 := hsum sg
      simp only [List.length_map, S_len, List.length_cons, List.length_nil] at h3 ⊢
      omega
end
end
section
set_option Elab.async false
set_option linter.all false
set_option maxRecDepth 100000
set_option maxHeartbeats 4000000
open PySem PySem.Spec PyProof.Rows L2 NSet

local macro_rules | `(tactic| walk_at "side") => `(tactic| exact .inl (by assumption))
local macro_rules | `(tactic| walk_at "go1") => `(tactic| (with_reducible refine iGTup (by assumption) rfl ?_))
local macro_rules | `(tactic| walk_at "go1") => `(tactic| (with_reducible refine iGCons ?_))
local macro_rules | `(tactic| walk_at "go1") => `(tactic| (with_reducible refine iGNil ?_))
local macro_rules | `(tactic| walk_at "go1") => `(tactic| (with_reducible refine iMakeV ?_))
local macro_rules | `(tactic| walk_at "go1") => `(tactic| (with_reducible refine iMakeD ?_))
local macro_rules | `(tactic| walk_at "go1") => `(tactic| (with_reducible refine iLc2S ?_))
local macro_rules | `(tactic| walk_at "go1") => `(tactic| (with_reducible refine iLc2L ?_))
local macro_rules | `(tactic| walk_at "go1") => `(tactic| (with_reducible refine iIStr ?_))
local macro_rules | `(tactic| walk_at "go1") => `(tactic| (with_reducible refine iIxI ?_))
local macro_rules | `(tactic| walk_at "go1") => `(tactic| (with_reducible refine iCMeth ?_))

section
variable {P : Program} {w : World} {K : PySem.W.Frag} {mg : Str → Option Value} {base : Heap} {a : Ad} {d : Fd}
def spInteger : Sp := fun vs H Q _ => ∃ n : Int, vs = [.int n] ∧ Q (.bl true) H
theorem scInteger : FnScope ["_law_told"] ["_law_told"] (defScope sInteger) := ⟨rfl, rfl, rfl, by decide +kernel, rfl, by decide +kernel, by decide +kernel⟩
theorem ok_integer (T : Fns K mg a d) : FnOk P w K mg base CX0 1 a.aInteger d.dInteger ["_law_told"] spInteger := by
  refine T.FInteger.ok scInteger (fun vs H Q E h => ?_) (fun cdv A outer s H vs Q E hr h => ?_)
  · obtain ⟨n, rfl, _⟩ := h
    rfl
  · obtain ⟨n, rfl, k⟩ := h
    refine ⟨_, ((pss_one (ps_ret (pe_and (pe_callB call_isi (by rfl) T.z_isinstance (by decide +kernel) (pa_cons (pv 0) (pa_cons (pe_bltn (v := .ty "int") (by rfl) T.z_int (by decide +kernel) rfl) pa_nil))) (pe_one (pe_not (pe_callB call_isi (by rfl) T.z_isinstance (by decide +kernel) (pa_cons (pv 0) (pa_cons (pe_bltn (v := .ty "bool") (by rfl) T.z_bool (by decide +kernel) rfl) pa_nil))))))))), ?_⟩
    walk_at "go"
    exact k
def spWritten : Sp := fun vs H Q _ => ∃ (p : Addr) (sg : List Nat) (R : Rel), vs = [.str (S sg), .ref p] ∧ SgOk sg ∧ RowAt H p sg R ∧ ∀ r H', H r = none → Same H H' → H' r = some (.lst (sg.map fun c => V.str (S (rowW sg R c)))) → Q (.ref r) H'
theorem scWritten : FnScope ["_law_signs_here", "_law_outs_here", "_law_k"] ["_law_signs_here", "_law_outs_here"] (defScope sWritten) := ⟨rfl, rfl, rfl, by decide +kernel, rfl, by decide +kernel, by decide +kernel⟩
theorem ok_written (T : Fns K mg a d) : FnOk P w K mg base CX0 1 a.aWritten d.dWritten ["_law_signs_here", "_law_outs_here"] spWritten := by
  refine T.FWritten.ok scWritten (fun vs H Q E h => ?_) (fun cdv A outer s H vs Q E hr h => ?_)
  · obtain ⟨p, sg, R, rfl, _⟩ := h
    rfl
  · obtain ⟨p, sg, R, rfl, hsg, hrow, k⟩ := h
    have hl5 := hsg.l
    refine ⟨_, ((pss_one (ps_ret (pe_lc (own := [("_law_k", 2)]) (g := gName 2) (by rfl) scWritten.nd (pi_range1 (by rfl) T.z_range (pa_cons (pe_callB call_lenS (by rfl) T.z_len (by decide +kernel) (pa_cons (pv 0) pa_nil)) pa_nil)) (blkOk_by (own := [("_law_k", 2)]) (N := ["_law_signs_here", "_law_outs_here", "_law_k"]) (sc := defScope sWritten) (by decide +kernel)) (fun _ _ _ _ _ => pg_name (i := 2) scWritten.nd rfl (Or.inl rfl)) (fun _ _ _ _ _ => pts_nil) (fun _ _ _ _ _ => (pe_op op_addS (pe_op op_addS (pe_ix ix_str (pv 0) (pv 2) (fun _ _ => rfl)) (pe_strS (l := [62]) (by decide +kernel))) (pe_ifExp (pt_cmpR op_ne (pe_ix (r := rIxL K) ix_list (pv 1) (pv 2) (fun _ _ => rfl)) (pe_strS (l := []) (by decide +kernel)) (nomark _)) (pe_ix (r := rIxL K) ix_list (pv 1) (pv 2) (fun _ _ => rfl)) (pe_strS (l := [46]) (by decide +kernel))))))))), ?_⟩
    walk_at "go"
    rename_i D hD
    refine lcg_R (fun j H' => H' D = some (.lst ((sg.take j).map fun c => V.str (S (rowW sg R c)))) ∧ Same H H') ⟨upd_same, Same.upd_new hD⟩ (fun _ => rfl) (fun j H' hj hP2 => ?_) (fun H' hP2 => ?_)
    · obtain ⟨h8, s8⟩ := hP2
      have hi2 : j < sg.length := by simpa using hj
      have hc : sg[j]? = some sg[j] := List.getElem?_eq_getElem hi2
      generalize sg[j] = c at hc
      have ij : (0 : Int) + (j : Int) = (j : Int) := Int.zero_add _
      rw [ij]
      have hrow5 : H' p = some (.lst ((outsL sg R).map fun r => V.str (S r))) := s8 _ _ hrow
      have hoc : (outsL sg R)[j]? = some (sg.filter (R c)) := by unfold outsL; rw [List.getElem?_map, hc]; rfl
      have hov : ((outsL sg R).map fun r => V.str (S r))[j]? = some (V.str (S (sg.filter (R c)))) := by rw [List.getElem?_map, hoc]; rfl
      have hfl := List.length_filter_le (R c) sg
      have fin : ∀ r : List Nat, r = (if sg.filter (R c) = [] then [46] else sg.filter (R c)) → (List.map (fun c => V.str (S (rowW sg R c))) (List.take j sg)).length < sizeLine ∧ upd H' D (HO.lst (List.map (fun c => V.str (S (rowW sg R c))) (List.take j sg) ++ [V.str (S ([c] ++ [62] ++ r))])) D = some (HO.lst (List.map (fun c => V.str (S (rowW sg R c))) (List.take (j + 1) sg))) ∧ Same H (upd H' D (HO.lst (List.map (fun c => V.str (S (rowW sg R c))) (List.take j sg) ++ [V.str (S ([c] ++ [62] ++ r))]))) := fun r er => by
        refine ⟨by rw [List.length_map, List.length_take, sizeLine_eq]; omega, ?_, fun b o hb => ?_⟩
        · rw [upd_same, List.take_add_one, hc, List.map_append, er]
          rfl
        · rw [upd_ne (fun z => by rw [z, hD] at hb; cases hb)]
          exact s8 _ _ hb
      walk_at "go"
      · rename_i hne
        exact fin _ (by rw [if_neg (fun z => by simp [z] at hne)])
      · rename_i he
        exact fin _ (by rw [if_pos (by simpa using he)])
    · obtain ⟨h8, s8⟩ := hP2
      walk_at "go"
      refine k D H' hD s8 ?_
      rw [h8, Int.toNat_natCast, List.take_length]
theorem row_len {sg : List Nat} (hl : sg.length ≤ 5) (R : Rel) (c : Nat) : (rowW sg R c).length ≤ 7 := by
  have h1 := List.length_filter_le (R c) sg
  unfold rowW
  rw [List.length_cons, List.length_cons]
  split
  · show 1 + 1 + 1 ≤ 7
    decide
  · omega
theorem row_sum {sg : List Nat} (hl : sg.length ≤ 5) (R : Rel) : ((sg.map fun c => S (rowW sg R c)).map fun x => x.length).sum + (sg.map fun c => S (rowW sg R c)).length * (S [32]).length ≤ 16777216 := by
  have hsum : ∀ l : List Nat, ((l.map fun c => S (rowW sg R c)).map fun x => x.length).sum ≤ l.length * 7 := by
    intro l
    induction l with
    | nil => exact Nat.le_refl _
    | cons c l ih =>
      have h2 := row_len hl R c
      simp only [List.map_cons, List.sum_cons, List.length_cons, S_len] at ih ⊢
      omega
  have h3 := hsum sg
  simp only [List.length_map, S_len, List.length_cons, List.length_nil] at h3 ⊢
  omega
def spIs (a : Ad) : Sp := fun vs H Q _ => ∃ (t al p : Addr) (sg W : List Nat) (R : Rel), vs = [.ref t, .str (S sg), .ref p] ∧ Tb a H t al sg W R ∧ SgOk sg ∧ RowAt H p sg R ∧ ∀ H', Same H H' → Q (.bl true) H'
theorem scIs : FnScope ["_law_table", "_law_signs_here", "_law_outs_here", "_law_rows", "_law_k", "_law_told", "_law_out", "_law_one", "_law_exact", "_law_row"] ["_law_table", "_law_signs_here", "_law_outs_here"] (defScope sIs) := ⟨rfl, rfl, rfl, by decide +kernel, rfl, by decide +kernel, by decide +kernel⟩
theorem ok_is (T : Fns K mg a d) : FnOk P w K mg base CX0 8 a.aIs d.dIs ["_law_table", "_law_signs_here", "_law_outs_here"] (spIs a) := by
  have GTGet := ok_get (P := P) (w := w) (base := base) T
  have GTPairs := ok_pairsM (P := P) (w := w) (base := base) T
  have GTLen := ok_len (P := P) (w := w) (base := base) T
  have GTIn := ok_inM (P := P) (w := w) (base := base) T
  have GInteger := ok_integer (P := P) (w := w) (base := base) T
  have GTruth := ok_truth (P := P) (w := w) (base := base) T
  have GWritten := ok_written (P := P) (w := w) (base := base) T
  have GTTotal := ok_total (P := P) (w := w) (base := base) T
  have GTExact := ok_exact (P := P) (w := w) (base := base) T
  have GTBool := ok_boolM (P := P) (w := w) (base := base) T
  have GTStr := ok_strM (P := P) (w := w) (base := base) T
  refine T.FIs.ok scIs (fun vs H Q E h => ?_) (fun cdv A outer s H vs Q E hr h => ?_)
  · obtain ⟨t, al, p, sg, W, R, rfl, _⟩ := h
    rfl
  · obtain ⟨t, al, p, sg, W, R, rfl, hT0, hsg, hrow, k⟩ := h
    obtain ⟨lp, qs, hT⟩ := id hT0
    obtain ⟨⟨dx, ht⟩, hal, hp, ec⟩ := id hT
    have clT := T.clT
    have nTp := T.nTp
    have nTa := T.nTa
    have hl5 := hsg.l
    refine ⟨_, ((pss_cons (ps_if (pt_not (pt_val (pe_callB call_isi (by rfl) T.z_isinstance (by decide +kernel) (pa_cons (pv 0) (pa_cons (pe_glob (v := .ref a.cTable) (by rfl) T.gcTable rfl) pa_nil))))) (pss_one (ps_ret pe_bl)) pss_nil)
      (pss_cons (ps_set (i := 3) scIs.nd rfl (Or.inl rfl) (pe_lst pa_nil))
      (pss_cons (ps_for PassesOwn.never rfl (pi_range1 (by rfl) T.z_range (pa_cons (pe_callB call_lenS (by rfl) T.z_len (by decide +kernel) (pa_cons (pv 1) pa_nil)) pa_nil)) (pg_name (i := 4) scIs.nd rfl (Or.inr rfl)) (pss_cons (ps_set (i := 5) scIs.nd rfl (Or.inl rfl) (pe_ixI T.mTGet.at_ T.fnTGet T.mTGet.fn (GTGet.raw T.bTGet .nil) (hr.mono (by decide)) (fun σ pins H s e s' => passE pins σ H s e s') (pv 0) (pe_ix ix_str (pv 1) (pv 4) (fun _ _ => rfl)) (fun _ _ => rfl)))
      (pss_cons (ps_if (PW.pt (pw_or (pt_not (pt_val (pe_callB call_isi (by rfl) T.z_isinstance (by decide +kernel) (pa_cons (pv 5) (pa_cons (pe_bltn (v := .ty "str") (by rfl) T.z_str (by decide +kernel) rfl) pa_nil))))) (pw_or1 (pt_cmpR op_ne (pv 5) (pe_ix (r := rIxL K) ix_list (pv 2) (pv 4) (fun _ _ => rfl)) (nomark _))))) (pss_one (ps_ret pe_bl)) pss_nil)
      (pss_cons (ps_set (i := 3) scIs.nd rfl (Or.inl rfl) (pe_op op_cat (pv 3) (pe_lc (own := [("_law_out", 6)]) (g := gName 6) (by rfl) scIs.nd (pi_str (pe_ix (r := rIxL K) ix_list (pv 2) (pv 4) (fun _ _ => rfl))) (blkOk_by (own := [("_law_out", 6)]) (N := ["_law_table", "_law_signs_here", "_law_outs_here", "_law_rows", "_law_k", "_law_told", "_law_out", "_law_one", "_law_exact", "_law_row"]) (sc := defScope sIs) (by decide +kernel)) (fun _ _ _ _ _ => pg_name (i := 6) scIs.nd rfl (Or.inl rfl)) (fun _ _ _ _ _ => pts_nil) (fun _ _ _ _ _ => (pe_tup (pa_cons (pe_ix ix_str (pv 1) (pv 4) (fun _ _ => rfl)) (pa_cons (pv 6) pa_nil)))))))
      (pss_one (ps_for PassesOwn.never rfl (pi_str (pv 1)) (pg_name (i := 6) scIs.nd rfl (Or.inl rfl)) (pss_one (ps_if (pt_cmpR op_ne (pe_cmpR (op_inI T.mTIn.at_ T.mTIn.fn GTIn (hr.mono (by decide)) T.bTIn pass0) (pe_tup (pa_cons (pe_ix ix_str (pv 1) (pv 4) (fun _ _ => rfl)) (pa_cons (pv 6) pa_nil))) (pv 0) rfl) (pe_cmpR op_inS (pv 6) (pe_ix (r := rIxL K) ix_list (pv 2) (pv 4) (fun _ _ => rfl)) rfl) (nomark _)) (pss_one (ps_ret pe_bl)) pss_nil))))))))
      (pss_cons (ps_set (i := 5) scIs.nd rfl (Or.inl rfl) (pe_meth0 (pv 0) T.clT T.mTPairs GTPairs (hr.mono (by decide)) T.bTPairs .nil pass0))
      (pss_cons (ps_if (PW.pt (pw_or (pt_not (pt_val (pe_callB call_isi (by rfl) T.z_isinstance (by decide +kernel) (pa_cons (pv 5) (pa_cons (pe_bltn (v := .ty "list") (by rfl) T.z_list (by decide +kernel) rfl) pa_nil))))) (pw_or (pt_cmpR op_ne (pe_callB call_len_seq (by rfl) T.z_len (by decide +kernel) (pa_cons (pe_lc (own := [("_law_one", 7)]) (g := gName 7) (by rfl) scIs.nd (pi_list (pv 5)) (blkOk_by (own := [("_law_one", 7)]) (N := ["_law_table", "_law_signs_here", "_law_outs_here", "_law_rows", "_law_k", "_law_told", "_law_out", "_law_one", "_law_exact", "_law_row"]) (sc := defScope sIs) (by decide +kernel)) (fun _ _ _ _ _ => pg_name (i := 7) scIs.nd rfl (Or.inl rfl)) (fun _ _ _ _ _ => (pts_one (pt_val (pe_callB (id := "isinstance") (r := rIsi K) call_isi (by rfl) T.z_isinstance (by decide +kernel) (pa_cons (pv 7) (pa_cons (pe_bltn (v := .ty "tuple") (by rfl) T.z_tuple (by decide +kernel) rfl) pa_nil)))))) (fun _ _ _ _ _ => (pv 7))) pa_nil)) (pe_callB call_len_seq (by rfl) T.z_len (by decide +kernel) (pa_cons (pv 5) pa_nil)) (nomark _)) (pw_or1 (pt_cmpR (op_neD hr.units) (pv 5) (pv 3) (nomark _)))))) (pss_one (ps_ret pe_bl)) pss_nil)
      (pss_cons (ps_if (PW.pt (pw_or (pt_not (pt_val (pe_call GInteger (hr.mono (by decide)) (by rfl) T.gInteger T.FInteger.kp T.bInteger .nil pass0 (pa_cons (pe_callB (call_lenI T.mTLen.at_ T.mTLen.fn (GTLen.raw T.bTLen .nil) (hr.mono (by decide)) pass0) (by rfl) T.z_len (by decide +kernel) (pa_cons (pv 0) pa_nil)) pa_nil)))) (pw_or (pt_cmpR op_ne (pe_callB (call_lenI T.mTLen.at_ T.mTLen.fn (GTLen.raw T.bTLen .nil) (hr.mono (by decide)) pass0) (by rfl) T.z_len (by decide +kernel) (pa_cons (pv 0) pa_nil)) (pe_callB call_len_seq (by rfl) T.z_len (by decide +kernel) (pa_cons (pv 3) pa_nil)) (nomark _)) (pw_or1 (pt_cmpR op_ne (pe_callTy (call_boolI T.mTBool.at_ T.mTBool.fn (GTBool.raw T.bTBool .nil) (hr.mono (by decide)) pass0) (by rfl) T.z_bool (by decide +kernel) (pa_cons (pv 0) pa_nil)) (pe_cmpR op_gt (pe_callB call_len_seq (by rfl) T.z_len (by decide +kernel) (pa_cons (pv 3) pa_nil)) pe_int (nomark _)) (nomark _)))))) (pss_one (ps_ret pe_bl)) pss_nil)
      (pss_cons (ps_set (i := 8) scIs.nd rfl (Or.inl rfl) (pe_cmpR (op_eqD hr.units) (pe_lc (own := [("_law_row", 9)]) (g := gName 9) (by rfl) scIs.nd (pi_list (pv 2)) (blkOk_by (own := [("_law_row", 9)]) (N := ["_law_table", "_law_signs_here", "_law_outs_here", "_law_rows", "_law_k", "_law_told", "_law_out", "_law_one", "_law_exact", "_law_row"]) (sc := defScope sIs) (by decide +kernel)) (fun _ _ _ _ _ => pg_name (i := 9) scIs.nd rfl (Or.inl rfl)) (fun _ _ _ _ _ => (pts_one (pt_cmpR op_gt (pe_callB call_lenS (by rfl) T.z_len (by decide +kernel) (pa_cons (pv 9) pa_nil)) pe_int (nomark _)))) (fun _ _ _ _ _ => (pv 9))) (pe_lst pa_nil) (nomark _)))
      (pss_cons (ps_if (PW.pt (pw_or (pt_not (pt_val (pe_call GTruth (hr.mono (by decide)) (by rfl) T.gTruth T.FTruth.kp T.bTruth .nil pass0 (pa_cons (pe_prop (pv 0) T.clT T.prTotal GTTotal (hr.mono (by decide)) T.bTTotal .nil pass0 rfl) (pa_cons (pe_cmpR op_notIn_seq (pe_strS (l := []) (by decide +kernel)) (pv 2) rfl) pa_nil))))) (pw_or1 (pt_not (pt_val (pe_call GTruth (hr.mono (by decide)) (by rfl) T.gTruth T.FTruth.kp T.bTruth .nil pass0 (pa_cons (pe_prop (pv 0) T.clT T.prExact GTExact (hr.mono (by decide)) T.bTExact .nil pass0 rfl) (pa_cons (pv 8) pa_nil)))))))) (pss_one (ps_ret pe_bl)) pss_nil)
      (pss_one (ps_ret (pe_cmpR op_eq (pe_callTy (call_strI T.mTStr.at_ T.mTStr.fn (GTStr.raw T.bTStr .nil) (hr.mono (by decide)) pass0) (by rfl) T.z_str (by decide +kernel) (pa_cons (pv 0) pa_nil)) (pe_join (pe_strS (l := [32]) (by decide +kernel)) (pe_call GWritten (hr.mono (by decide)) (by rfl) T.gWritten T.FWritten.kp T.bWritten .nil pass0 (pa_cons (pv 1) (pa_cons (pv 2) pa_nil)))) (nomark _))))))))))))), ?_⟩
    walk_at "go"
    refine isi_T T ht ?_
    walk_at "go"
    rename_i r0 hr0
    refine for_R (fun i σ H' => Stop (∃ (pr : Addr) (ns : List (Addr × Nat × Nat)) (v4 v5 v6 v7 v8 v9 : Option V), σ = [some (.ref t), some (.str (S sg)), some (.ref p), some (.ref pr), v4, v5, v6, v7, v8, v9] ∧ PrAt H' pr ns ∧ ns.map (·.2) = rowsP sg R (sg.take i) ∧ Same H H')) ⟨r0, [], _, _, _, _, _, _, rfl, ⟨upd_same, fun q hq => nomatch hq⟩, rfl, Same.upd_new hr0⟩ ?_ ?_
    · rintro i σ H5 hi ⟨pr, ns, v4, v5, v6, v7, v8, v9, rfl, hns, ens, s5⟩
      have hi2 : i < sg.length := by simpa using hi
      have hc : sg[i]? = some sg[i] := List.getElem?_eq_getElem hi2
      have hcm := List.getElem_mem hi2
      generalize sg[i] = c at hc hcm
      have ht5 := s5 _ _ ht
      have ij : (0 : Int) + (i : Int) = (i : Int) := Int.zero_add _
      rw [ij]
      have hrow5 : H5 p = some (.lst ((outsL sg R).map fun r => V.str (S r))) := s5 _ _ hrow
      have hoc : (outsL sg R)[i]? = some (sg.filter (R c)) := by unfold outsL; rw [List.getElem?_map, hc]; rfl
      have hov : ((outsL sg R).map fun r => V.str (S r))[i]? = some (V.str (S (sg.filter (R c)))) := by rw [List.getElem?_map, hoc]; rfl
      have hfl := List.length_filter_le (R c) sg
      walk_at "go"
      refine ⟨t, al, c, sg, W, R, rfl, ⟨lp, qs, hT.same s5⟩, hsg, hcm, fun H6 s6 => ?_⟩
      have s06 := Vk.Same.trans s5 s6
      have hrow6 : H6 p = some (.lst ((outsL sg R).map fun r => V.str (S r))) := s06 _ _ hrow
      walk_at "go"
      rename_i D hD
      refine lcg_S (fun j H' => NewP H6 D (((sg.filter (R c)).take j).map fun o => (c, o)) H') (NewP.start hD) (fun _ => rfl) (fun j o H7 ho hP => ?_) (fun H7 hP => ?_)
      · obtain ⟨ms, hms, ems, s7⟩ := id hP
        have hjl := (List.getElem?_eq_some_iff.mp ho).1
        walk_at "go"
        rename_i pp hpp
        exact newp_put (l' := ((sg.filter (R c)).take (j + 1)).map fun o => (c, o)) hms ems s7 hD hpp (by rw [List.length_map, List.length_take]; omega) c o (by
          rw [List.take_add_one, ho, List.map_append]
          rfl)
      · obtain ⟨ms, hms, ems, s7⟩ := hP
        rw [List.take_length] at ems
        have hns7 := hns.same (Vk.Same.trans s6 s7)
        have l1 : ns.length ≤ 25 := by
          have := congrArg List.length ens
          rw [List.length_map] at this
          have h2 := rows_len sg R (sg.take i)
          rw [List.length_take] at h2
          have h3 := Nat.mul_le_mul (show min i sg.length ≤ 5 by omega) hl5
          omega
        have l2 : ms.length ≤ 5 := by
          have := congrArg List.length ems
          rw [List.length_map, List.length_map] at this
          omega
        refine iCat hns7.l hms.l (by rw [List.length_map, List.length_map, sizeLine_eq]; omega) fun q hq => ?_
        have s8 : Same H7 (upd H7 q (.lst ((ns.map fun q => V.ref q.1) ++ ms.map fun q => V.ref q.1))) := Same.upd_new hq
        have hq8 : PrAt (upd H7 q (.lst ((ns.map fun q => V.ref q.1) ++ ms.map fun q => V.ref q.1))) q (ns ++ ms) := ⟨by rw [upd_same, List.map_append], fun z hz => by
          rcases List.mem_append.mp hz with m | m
          · exact s8 _ _ (hns7.t z m)
          · exact s8 _ _ (hms.t z m)⟩
        generalize upd H7 q (.lst ((ns.map fun q => V.ref q.1) ++ ms.map fun q => V.ref q.1)) = H8 at s8 hq8 ⊢
        have s68 := Vk.Same.trans s7 s8
        have s08 := Vk.Same.trans s06 s68
        have eqs : (ns ++ ms).map (·.2) = rowsP sg R (sg.take (i + 1)) := by
          unfold rowsP at ens ⊢
          rw [List.map_append, ens, ems, List.take_add_one, hc, List.flatMap_append]
          congr 1
          exact (List.append_nil _).symm
        walk_at "go"
        refine for_S (fun j σ H' => Stop (∃ (v6 v7 v8 v9 : Option V), σ = [some (.ref t), some (.str (S sg)), some (.ref p), some (.ref q), some (.int (i : Int)), some (.str (S (sg.filter (R c)))), v6, v7, v8, v9] ∧ Same H8 H')) ⟨_, _, _, _, rfl, fun _ _ h => h⟩ ?_ ?_
        · rintro j o σ H9 ho ⟨v6, v7, v8, v9, rfl, s9⟩
          have hom := List.mem_of_getElem? ho
          have hrow9 : H9 p = some (.lst ((outsL sg R).map fun r => V.str (S r))) := s9 _ _ (s68 _ _ hrow6)
          have s09 := Vk.Same.trans s08 s9
          have ht9 := s09 _ _ ht
          have hin : (decide ((c, o) ∈ canL sg R)) = decide (o ∈ sg.filter (R c)) := decide_eq_decide.mpr (by rw [List.mem_filter, mem_can]; exact ⟨fun ⟨_, x, y⟩ => ⟨x, y⟩, fun ⟨x, y⟩ => ⟨hcm, x, y⟩⟩)
          have hD9 := hT.same s09
          have low9 : ∀ x ∈ sg, x < 128 := fun x hx => hsg.c x hx
          have hosg : o ∈ sg := hom
          walk_at "go"
          rename_i pp hpp
          have s10 : Same H9 (upd H9 pp (.tup [.str (S [c]), .str (S [o])])) := Same.upd_new hpp
          have hp10 : (upd H9 pp (.tup [.str (S [c]), .str (S [o])])) pp = some (.tup [.str (S [c]), .str (S [o])]) := upd_same
          generalize upd H9 pp (.tup [.str (S [c]), .str (S [o])]) = H10 at s10 hp10 ⊢
          have hrow10 := s10 _ _ hrow9
          refine ⟨t, dx, _, rfl, s10 _ _ ht9, t, al, pp, (c, o), sg, W, R, rfl, ⟨lp, qs, hD9.same s10⟩, hsg, hp10, low9 c hcm, low9 o hosg, _, rfl, ?_⟩
          walk_at "go"
          exact ⟨_, _, _, _, rfl, Vk.Same.trans s9 s10⟩
        · rintro σ H9 ⟨v6, v7, v8, v9, rfl, s9⟩
          walk_at "go"
          exact ⟨q, ns ++ ms, _, _, _, _, _, _, rfl, hq8.same s9, eqs, Vk.Same.trans s08 s9⟩
    · rintro σ H5 ⟨pr, ns, v4, v5, v6, v7, v8, v9, rfl, hns, ens, s5⟩
      rw [Int.toNat_natCast, List.take_length] at ens
      have ht5 := s5 _ _ ht
      walk_at "go"
      refine ⟨t, al, sg, W, R, rfl, ⟨lp, qs, hT.same s5⟩, hsg, fun pp ms H6 hms ems s6 => ?_⟩
      have hns6 := hns.same s6
      have ht6 := s6 _ _ ht5
      have hml := hms.l
      have s06 := Vk.Same.trans s5 s6
      have hT6 := hT.same s06
      have hTb6 : Tb a H6 t al sg W R := ⟨lp, qs, hT6⟩
      walk_at "go"
      have e1 : ns.map (·.2) = canL sg R := ens
      refine ⟨_, _, _, _, true, rfl, .ty "list", .base (.lst hml), rfl, ?_⟩
      have h25 := can_len (R := R) hsg.a
      have h26 := Nat.mul_le_mul hl5 hl5
      have hml2 : ms.length = (canL sg R).length := by rw [← ems, List.length_map]
      walk_at "go"
      rename_i D hD
      refine lcg_list (K := K) (a := pp) (xs := ms.map fun q => V.ref q.1) (fun _ => true) id (by rw [List.length_map]; omega) (SqL.of hml) hD (fun _ => rfl) (fun x hx H2 Q2 off r => ?_) (fun x hx _ H2 Q2 off r => ?_) ?_
      · obtain ⟨q, hq, rfl⟩ := List.mem_map.mp hx
        have hqt := hms.t q hq
        have hq2 := (off q.1 (ne_of_none hqt hD)).trans hqt
        walk_at "go"
        refine ⟨_, _, _, _, true, rfl, .ty "tuple", .base (.tup hq2), rfl, ?_⟩
        walk_at "go"
        exact r
      · walk_at "go"
        exact r
      · rw [List.filter_eq_self.mpr (fun _ _ => rfl), List.map_id]
        have s7 : Same H6 (upd H6 D (.lst (ms.map fun q => V.ref q.1))) := Same.upd_new hD
        have hD2 : (upd H6 D (.lst (ms.map fun q => V.ref q.1))) D = some (.lst (ms.map fun q => V.ref q.1)) := upd_same
        generalize upd H6 D (.lst (ms.map fun q => V.ref q.1)) = H7 at s7 hD2 ⊢
        have hms7 := hms.same s7
        have hml7 := hms7.l
        have hns7 := hns6.same s7
        have hnl7 := hns7.l
        have s07 := Vk.Same.trans s06 s7
        have hTb7 := hTb6.same s7
        have ht7 := s7 _ _ ht6
        have hrow7 := hrow.same s07
        have e1 : ns.map (·.2) = canL sg R := ens
        walk_at "go"
        refine ⟨_, _, hms7.dp, hns7.dp, shaped_dqs (by rw [ems, ← ec]; exact hT6.low hsg), shaped_dqs (by rw [e1, ← ec]; exact hT6.low hsg), ?_⟩
        rw [eqv_dql, ems, e1, decide_eq_true rfl]
        walk_at "go"
        refine ⟨t, dx, _, rfl, ht7, t, al, sg, W, R, rfl, hTb7, hsg, _, rfl, by omega, ?_⟩
        refine ⟨_, rfl, ?_⟩
        walk_at "go"
        refine ⟨t, dx, _, rfl, ht7, t, al, sg, W, R, rfl, hTb7, hsg, _, rfl, by omega, ?_⟩
        have e2 : ns.length = (canL sg R).length := by rw [← e1, List.length_map]
        walk_at "go"
        · rename_i hne
          exact absurd (show ((canL sg R).length : Int) = ((ns.map fun q => V.ref q.1).length : Nat) by rw [List.length_map, e2]) (by simpa using hne)
        refine ⟨t, dx, _, rfl, ht7, t, al, sg, W, R, rfl, hTb7, hsg, _, rfl, ?_⟩
        have e3 : (!(canL sg R).isEmpty) = decide (0 < ((ns.map fun q => V.ref q.1).length : Int)) := by
          rw [List.length_map, e2]
          cases canL sg R with
          | nil => rfl
          | cons x y => exact (decide_eq_true (by rw [List.length_cons]; omega)).symm
        rw [e3]
        walk_at "go"
        rename_i D2 hD2
        have hlow : ∀ r ∈ outsL sg R, r.length ≤ 5 ∧ ∀ c ∈ r, c < 0x110000 := fun r hr => by
          unfold outsL at hr
          obtain ⟨c, hc, rfl⟩ := List.mem_map.mp hr
          exact ⟨Nat.le_trans (List.length_filter_le _ _) hl5, fun x hx => Nat.lt_trans (hsg.c x (List.mem_filter.mp hx).1) (by decide)⟩
        have hol : (outsL sg R).length = sg.length := by unfold outsL; rw [List.length_map]
        refine lcg_list (K := K) (a := p) (xs := (outsL sg R).map fun r => V.str (S r)) (fun v => match v with | .str z => decide (1 < (z.length : Int)) | _ => false) id (by rw [List.length_map, hol]; omega) (SqL.of hrow7) hD2 (fun _ => rfl) (fun x hx H2 Q2 off r => ?_) (fun x hx _ H2 Q2 off r => ?_) ?_
        · obtain ⟨q, hq, rfl⟩ := List.mem_map.mp hx
          have := (hlow q hq).1
          walk_at "go"
          have r' : Q2 (decide (1 < ((S q).length : Int))) H2 := r
          rw [S_len] at r'
          exact r'
        · walk_at "go"
          exact r
        · rw [List.map_id, List.filter_map]
          have s8 : Same H7 (upd H7 D2 (.lst (((outsL sg R).filter ((fun v => match v with | .str z => decide (1 < (z.length : Int)) | _ => false) ∘ fun r => V.str (S r))).map fun r => V.str (S r)))) := Same.upd_new hD2
          have hD8 : (upd H7 D2 (.lst (((outsL sg R).filter ((fun v => match v with | .str z => decide (1 < (z.length : Int)) | _ => false) ∘ fun r => V.str (S r))).map fun r => V.str (S r)))) D2 = some (.lst ((((outsL sg R).filter fun r => decide (1 < r.length)).map S).map V.str)) := by
            rw [upd_same, List.map_map]
            congr 2
            congr 1
            congr 1
            funext r
            show decide (1 < ((S r).length : Int)) = _
            rw [S_len]
            exact decide_eq_decide.mpr (by omega)
          generalize upd H7 D2 _ = H8 at s8 hD8 ⊢
          walk_at "go"
          rename_i D3 hD3
          have s9 : Same H8 (upd H8 D3 (.lst [])) := Same.upd_new hD3
          have hD9 : (upd H8 D3 (.lst [])) D3 = some (.lst (([] : List Str).map V.str)) := upd_same
          have hD89 := s9 _ _ hD8
          generalize upd H8 D3 (.lst []) = H9 at s9 hD9 hD89 ⊢
          have hsh : ∀ y ∈ ((outsL sg R).filter fun r => decide (1 < r.length)).map S, PyData.strOk y = true := fun y hy => by
            obtain ⟨r, hr, rfl⟩ := List.mem_map.mp hy
            exact ok_S (hlow r (List.mem_filter.mp hr).1).2
          refine ⟨_, _, dp_strs (SqL.of hD89), dp_strs (SqL.of hD9), shaped_strs hsh, shaped_strs (fun _ h => nomatch h), ?_⟩
          rw [eqv_strs]
          have e5 : decide ((((outsL sg R).filter fun r => decide (1 < r.length)).map S) = []) = exaB sg R := by
            rw [Bool.eq_iff_iff, decide_eq_true_iff, List.map_eq_nil_iff, List.filter_eq_nil_iff]
            unfold exaB outsL
            rw [List.all_eq_true]
            constructor
            · intro h c hc
              have := h _ (List.mem_map.mpr ⟨c, hc, rfl⟩)
              rw [decide_eq_true_iff] at this ⊢
              omega
            · intro h r hr
              obtain ⟨c, hc, rfl⟩ := List.mem_map.mp hr
              have := h c hc
              rw [decide_eq_true_iff] at this ⊢
              omega
          rw [e5]
          have s79 := Vk.Same.trans s8 s9
          have ht9 := s79 _ _ ht7
          have hTb9 := hTb7.same s79
          have hrow9 := hrow7.same s79
          walk_at "go"
          refine ⟨t, al, sg, W, R, rfl, hTb9, hsg, fun H10 s10 => ?_⟩
          have hrow10 := hrow9.same s10
          have ht10 := s10 _ _ ht9
          have hTb10 := hTb9.same s10
          have e6 : (!decide ([] ∈ outsL sg R)) = totB sg R := by
            rw [Bool.eq_iff_iff, Bool.not_eq_true', decide_eq_false_iff_not]
            unfold totB outsL
            rw [List.all_eq_true]
            constructor
            · intro h c hc
              rw [Bool.not_eq_true', List.isEmpty_eq_false_iff]
              exact fun z => h (List.mem_map.mpr ⟨c, hc, z⟩)
            · intro h hm
              obtain ⟨c, hc, e⟩ := List.mem_map.mp hm
              have := h c hc
              rw [e] at this
              cases this
          walk_at "go"
          rw [e6]
          refine ⟨_, rfl, _, rfl, ?_⟩
          walk_at "go"
          refine ⟨t, al, sg, W, R, rfl, hTb10, hsg, fun H11 s11 => ?_⟩
          have hrow11 := hrow10.same s11
          have ht11 := s11 _ _ ht10
          have hTb11 := hTb10.same s11
          walk_at "go"
          refine ⟨_, rfl, _, rfl, ?_⟩
          walk_at "go"
          refine ⟨t, dx, _, rfl, ht11, t, al, sg, W, R, rfl, hTb11, hsg, fun H12 s12 => ⟨_, rfl, ?_⟩⟩
          have hrow12 := hrow11.same s12
          walk_at "go"
          refine ⟨p, sg, R, rfl, hsg, hrow12, fun r13 H13 hr13 s13 hl13 => ?_⟩
          walk_at "go"
          rotate_left
          · exact sg.map fun c => S (rowW sg R c)
          refine ⟨.inl (SqL.of (by rw [hl13, List.map_map]; rfl)), row_sum hl5 R, ?_⟩
          walk_at "go"
          rw [decide_eq_true rfl]
          exact k _ (Vk.Same.trans s07 (Vk.Same.trans s79 (Vk.Same.trans s10 (Vk.Same.trans s11 (Vk.Same.trans s12 s13)))))
end
end
section
set_option Elab.async false
set_option linter.all false
set_option maxRecDepth 100000
set_option maxHeartbeats 4000000
open PySem PySem.Spec PyProof.Rows L2 NSet

local macro_rules | `(tactic| walk_at "side") => `(tactic| exact .inl (by assumption))
local macro_rules | `(tactic| walk_at "go1") => `(tactic| (with_reducible refine iGTup (by assumption) rfl ?_))
local macro_rules | `(tactic| walk_at "go1") => `(tactic| (with_reducible refine iGCons ?_))
local macro_rules | `(tactic| walk_at "go1") => `(tactic| (with_reducible refine iGNil ?_))
local macro_rules | `(tactic| walk_at "go1") => `(tactic| (with_reducible refine iMakeV ?_))
local macro_rules | `(tactic| walk_at "go1") => `(tactic| (with_reducible refine iMakeD ?_))
local macro_rules | `(tactic| walk_at "go1") => `(tactic| (with_reducible refine iLc2S ?_))
local macro_rules | `(tactic| walk_at "go1") => `(tactic| (with_reducible refine iLc2L ?_))
local macro_rules | `(tactic| walk_at "go1") => `(tactic| (with_reducible refine iIStr ?_))
local macro_rules | `(tactic| walk_at "go1") => `(tactic| (with_reducible refine iIxI ?_))
local macro_rules | `(tactic| walk_at "go1") => `(tactic| (with_reducible refine iCMeth ?_))

section
variable {P : Program} {w : World} {K : PySem.W.Frag} {mg : Str → Option Value} {base : Heap} {a : Ad} {d : Fd}
theorem filt_eq {sg : List Nat} (h : Asc sg) {c : Nat} (hc : c ∈ sg) : [c] = sg.filter fun t => decide (c = t) := by
  refine uniqA ?_ (List.Pairwise.filter _ h) (fun x => ?_)
  · unfold Asc
    exact List.pairwise_singleton _ _
  · rw [List.mem_singleton, List.mem_filter, decide_eq_true_iff]
    exact ⟨fun e => ⟨e ▸ hc, e.symm⟩, fun e => e.2.symm⟩
theorem filt_all {sg : List Nat} : sg = sg.filter fun _ => true := (List.filter_eq_self.mpr fun _ _ => rfl).symm
theorem filt_none {sg : List Nat} : ([] : List Nat) = sg.filter fun _ => false := (List.filter_eq_nil_iff.mpr fun _ _ => Bool.false_ne_true).symm
def spNamed (a : Ad) : Sp := fun vs H Q _ => ∃ (al : Addr) (sg W : List Nat), vs = [.ref al, .str (S sg)] ∧ AlG a.cAlphabet H al sg W ∧ SgOk sg ∧ ∀ H', Same H H' → Q (.bl true) H'
theorem scNamed : FnScope ["_law_alphabet", "_law_signs_here", "_law_sign"] ["_law_alphabet", "_law_signs_here"] (defScope sNamed) := ⟨rfl, rfl, rfl, by decide +kernel, rfl, by decide +kernel, by decide +kernel⟩
theorem ok_named (T : Fns K mg a d) (MT : Mk K a.cTable a.aTInit) (bTInit : Binds K d.dTInit ["self", "alphabet", "pairs"] []) : FnOk P w K mg base CX0 9 a.aNamed d.dNamed ["_law_alphabet", "_law_signs_here"] (spNamed a) := by
  have GIs := ok_is (P := P) (w := w) (base := base) T
  have GTId := ok_id (P := P) (w := w) (base := base) T MT bTInit
  have GTEmp := ok_emp (P := P) (w := w) (base := base) T MT bTInit
  have GTFull := ok_full (P := P) (w := w) (base := base) T MT bTInit
  refine T.FNamed.ok scNamed (fun vs H Q E h => ?_) (fun cdv A outer s H vs Q E hr h => ?_)
  · obtain ⟨al, sg, W, rfl, _⟩ := h
    rfl
  · obtain ⟨al, sg, W, rfl, hal, hsg, k⟩ := h
    have hl5 := hsg.l
    refine ⟨_, ((pss_cons (ps_if (pt_not (pt_val (pe_call GIs (hr.mono (by decide)) (by rfl) T.gIs T.FIs.kp T.bIs .nil pass0 (pa_cons (ClX.pe_cmeth (pe_glob (v := .ref a.cTable) (by rfl) T.gcTable rfl) T.crT T.cTId (GTId.raw T.bTId .nil) (hr.mono (by decide)) passE (pa_cons (pv 0) pa_nil)) (pa_cons (pv 1) (pa_cons (pe_lc (own := [("_law_sign", 2)]) (g := gName 2) (by rfl) scNamed.nd (pi_str (pv 1)) (blkOk_by (own := [("_law_sign", 2)]) (N := ["_law_alphabet", "_law_signs_here", "_law_sign"]) (sc := defScope sNamed) (by decide +kernel)) (fun _ _ _ _ _ => pg_name (i := 2) scNamed.nd rfl (Or.inl rfl)) (fun _ _ _ _ _ => pts_nil) (fun _ _ _ _ _ => (pv 2))) pa_nil)))))) (pss_one (ps_ret pe_bl)) pss_nil)
      (pss_cons (ps_if (pt_not (pt_val (pe_call GIs (hr.mono (by decide)) (by rfl) T.gIs T.FIs.kp T.bIs .nil pass0 (pa_cons (ClX.pe_cmeth (pe_glob (v := .ref a.cTable) (by rfl) T.gcTable rfl) T.crT T.cTFull (GTFull.raw T.bTFull .nil) (hr.mono (by decide)) passE (pa_cons (pv 0) pa_nil)) (pa_cons (pv 1) (pa_cons (pe_lc (own := [("_law_sign", 2)]) (g := gName 2) (by rfl) scNamed.nd (pi_str (pv 1)) (blkOk_by (own := [("_law_sign", 2)]) (N := ["_law_alphabet", "_law_signs_here", "_law_sign"]) (sc := defScope sNamed) (by decide +kernel)) (fun _ _ _ _ _ => pg_name (i := 2) scNamed.nd rfl (Or.inl rfl)) (fun _ _ _ _ _ => pts_nil) (fun _ _ _ _ _ => (pv 1))) pa_nil)))))) (pss_one (ps_ret pe_bl)) pss_nil)
      (pss_one (ps_ret (pe_call GIs (hr.mono (by decide)) (by rfl) T.gIs T.FIs.kp T.bIs .nil pass0 (pa_cons (ClX.pe_cmeth (pe_glob (v := .ref a.cTable) (by rfl) T.gcTable rfl) T.crT T.cTEmp (GTEmp.raw T.bTEmp .nil) (hr.mono (by decide)) passE (pa_cons (pv 0) pa_nil)) (pa_cons (pv 1) (pa_cons (pe_lc (own := [("_law_sign", 2)]) (g := gName 2) (by rfl) scNamed.nd (pi_str (pv 1)) (blkOk_by (own := [("_law_sign", 2)]) (N := ["_law_alphabet", "_law_signs_here", "_law_sign"]) (sc := defScope sNamed) (by decide +kernel)) (fun _ _ _ _ _ => pg_name (i := 2) scNamed.nd rfl (Or.inl rfl)) (fun _ _ _ _ _ => pts_nil) (fun _ _ _ _ _ => (pe_strS (l := []) (by decide +kernel)))) pa_nil))))))))), ?_⟩
    walk_at "go"
    refine ⟨al, sg, W, rfl, hal, hsg, fun t1 H1 s1 hT1 => ?_⟩
    walk_at "go"
    rename_i D1 hD1
    refine lcg_S (fun j H' => H' D1 = some (.lst ((sg.take j).map fun c => V.str (S ([c])))) ∧ Same H1 H') ⟨upd_same, Same.upd_new hD1⟩ (fun _ => rfl) (fun j c H' hc hP2 => ?_) (fun G1 hP2 => ?_)
    · obtain ⟨h8, s8⟩ := hP2
      have hjl := (List.getElem?_eq_some_iff.mp hc).1
      walk_at "go"
      refine ⟨by rw [List.length_map, List.length_take, sizeLine_eq]; omega, ?_, fun b o hb => ?_⟩
      · rw [upd_same, List.take_add_one, hc, List.map_append]
        rfl
      · rw [upd_ne (fun z => by rw [z, hD1] at hb; cases hb)]
        exact s8 _ _ hb
    obtain ⟨h8, s8⟩ := hP2
    rw [List.take_length] at h8
    have hr1 : RowAt G1 D1 sg (fun s t => decide (s = t)) := by
      unfold RowAt outsL
      rw [h8, List.map_map]
      congr 2
      exact List.map_congr_left fun c hc => by
        show V.str (S ([c])) = V.str (S (sg.filter _))
        rw [← filt_eq hsg.a hc]
    walk_at "go"
    refine ⟨t1, al, D1, sg, W, _, rfl, hT1.same s8, hsg, hr1, fun J1 z1 => ?_⟩
    have a1 := Vk.Same.trans (s1) (Vk.Same.trans s8 z1)
    walk_at "go"
    refine ⟨al, sg, W, rfl, (hal.same a1), hsg, fun t2 H2 s2 hT2 => ?_⟩
    walk_at "go"
    rename_i D2 hD2
    refine lcg_S (fun j H' => H' D2 = some (.lst ((sg.take j).map fun c => V.str (S (sg)))) ∧ Same H2 H') ⟨upd_same, Same.upd_new hD2⟩ (fun _ => rfl) (fun j c H' hc hP2 => ?_) (fun G2 hP2 => ?_)
    · obtain ⟨h8, s8⟩ := hP2
      have hjl := (List.getElem?_eq_some_iff.mp hc).1
      walk_at "go"
      refine ⟨by rw [List.length_map, List.length_take, sizeLine_eq]; omega, ?_, fun b o hb => ?_⟩
      · rw [upd_same, List.take_add_one, hc, List.map_append]
        rfl
      · rw [upd_ne (fun z => by rw [z, hD2] at hb; cases hb)]
        exact s8 _ _ hb
    obtain ⟨h8, s8⟩ := hP2
    rw [List.take_length] at h8
    have hr2 : RowAt G2 D2 sg (fun _ _ => true) := by
      unfold RowAt outsL
      rw [h8, List.map_map]
      congr 2
      exact List.map_congr_left fun c hc => by
        show V.str (S (sg)) = V.str (S (sg.filter _))
        rw [← filt_all]
    walk_at "go"
    refine ⟨t2, al, D2, sg, W, _, rfl, hT2.same s8, hsg, hr2, fun J2 z2 => ?_⟩
    have a2 := Vk.Same.trans (Vk.Same.trans a1 s2) (Vk.Same.trans s8 z2)
    walk_at "go"
    refine ⟨al, sg, W, rfl, (hal.same a2), hsg, fun t3 H3 s3 hT3 => ?_⟩
    walk_at "go"
    rename_i D3 hD3
    refine lcg_S (fun j H' => H' D3 = some (.lst ((sg.take j).map fun c => V.str (S ([])))) ∧ Same H3 H') ⟨upd_same, Same.upd_new hD3⟩ (fun _ => rfl) (fun j c H' hc hP2 => ?_) (fun G3 hP2 => ?_)
    · obtain ⟨h8, s8⟩ := hP2
      have hjl := (List.getElem?_eq_some_iff.mp hc).1
      walk_at "go"
      refine ⟨by rw [List.length_map, List.length_take, sizeLine_eq]; omega, ?_, fun b o hb => ?_⟩
      · rw [upd_same, List.take_add_one, hc, List.map_append]
        rfl
      · rw [upd_ne (fun z => by rw [z, hD3] at hb; cases hb)]
        exact s8 _ _ hb
    obtain ⟨h8, s8⟩ := hP2
    rw [List.take_length] at h8
    have hr3 : RowAt G3 D3 sg (fun _ _ => false) := by
      unfold RowAt outsL
      rw [h8, List.map_map]
      congr 2
      exact List.map_congr_left fun c hc => by
        show V.str (S ([])) = V.str (S (sg.filter _))
        rw [← filt_none]
    walk_at "go"
    refine ⟨t3, al, D3, sg, W, _, rfl, hT3.same s8, hsg, hr3, fun J3 z3 => ?_⟩
    have a3 := Vk.Same.trans (Vk.Same.trans a2 s3) (Vk.Same.trans s8 z3)
    walk_at "go"
    exact k _ a3
end
end
section
set_option Elab.async false
set_option linter.all false
set_option maxRecDepth 100000
set_option maxHeartbeats 4000000
open PySem PySem.Spec PyProof.Rows L2 NSet

local macro_rules | `(tactic| walk_at "side") => `(tactic| exact .inl (by assumption))
local macro_rules | `(tactic| walk_at "go1") => `(tactic| (with_reducible refine iGTup (by assumption) rfl ?_))
local macro_rules | `(tactic| walk_at "go1") => `(tactic| (with_reducible refine iGCons ?_))
local macro_rules | `(tactic| walk_at "go1") => `(tactic| (with_reducible refine iGNil ?_))
local macro_rules | `(tactic| walk_at "go1") => `(tactic| (with_reducible refine iMakeV ?_))
local macro_rules | `(tactic| walk_at "go1") => `(tactic| (with_reducible refine iMakeD ?_))
local macro_rules | `(tactic| walk_at "go1") => `(tactic| (with_reducible refine iLc2S ?_))
local macro_rules | `(tactic| walk_at "go1") => `(tactic| (with_reducible refine iLc2L ?_))
local macro_rules | `(tactic| walk_at "go1") => `(tactic| (with_reducible refine iIStr ?_))
local macro_rules | `(tactic| walk_at "go1") => `(tactic| (with_reducible refine iIxI ?_))
local macro_rules | `(tactic| walk_at "go1") => `(tactic| (with_reducible refine iCMeth ?_))

section
variable {P : Program} {w : World} {K : PySem.W.Frag} {mg : Str → Option Value} {base : Heap} {a : Ad} {d : Fd}
def posI (sg : List Nat) (c : Nat) : Int := if c ∈ sg then (n1 sg c : Int) else -1
def upB (sg : List Nat) : Int → List Nat → Bool
  | _, [] => true
  | l, c :: r => decide (l < posI sg c) && upB sg (posI sg c) r
def rightB (sg : List Nat) (c : Nat) (t : List Nat) : Bool := decide (t.take 2 = [c, 62]) && decide (3 ≤ t.length) && (decide (t.drop 2 = [46]) || upB sg (-1) (t.drop 2))
def spRight : Sp := fun vs H Q _ => ∃ (c : Nat) (t sg : List Nat), vs = [.str (S t), .str (S [c]), .str (S sg)] ∧ SgOk sg ∧ t.length ≤ 60 ∧ Q (.bl (rightB sg c t)) H
theorem scRight : FnScope ["_law_entry", "_law_sign", "_law_signs_here", "_law_last", "_law_one"] ["_law_entry", "_law_sign", "_law_signs_here"] (defScope sRight) := ⟨rfl, rfl, rfl, by decide +kernel, rfl, by decide +kernel, by decide +kernel⟩
theorem ok_right (T : Fns K mg a d) : FnOk P w K mg base CX0 1 a.aRight d.dRight ["_law_entry", "_law_sign", "_law_signs_here"] spRight := by
  refine T.FRight.ok scRight (fun vs H Q E h => ?_) (fun cdv A outer s H vs Q E hr h => ?_)
  · obtain ⟨c, t, sg, rfl, _⟩ := h
    rfl
  · obtain ⟨c, t, sg, rfl, hsg, ht, k⟩ := h
    have hl5 := hsg.l
    refine ⟨_, ((pss_cons (ps_if (PW.pt (pw_or (pt_cmpR op_ne (pe_slice sl_str (pv 0) po_none (po_some pe_int)) (pe_op op_addS (pv 1) (pe_strS (l := [62]) (by decide +kernel))) (nomark _)) (pw_or1 (pt_cmpR op_lt (pe_callB call_lenS (by rfl) T.z_len (by decide +kernel) (pa_cons (pv 0) pa_nil)) pe_int (nomark _))))) (pss_one (ps_ret pe_bl)) pss_nil)
      (pss_cons (ps_set (i := 3) scRight.nd rfl (Or.inl rfl) (pe_un un_neg pe_int))
      (pss_cons (ps_for PassesOwn.never rfl (pi_str (pe_slice sl_str (pv 0) (po_some pe_int) po_none)) (pg_name (i := 4) scRight.nd rfl (Or.inl rfl)) (pss_cons (ps_if (PW.pt (pw_and (pt_cmpR op_le (pe_m1 F.slot_str_find F.type_str_find mt_findS (pv 2) (pv 4)) (pv 3) (nomark _)) (pw_and1 (pt_cmpR op_ne (pe_slice sl_str (pv 0) (po_some pe_int) po_none) (pe_strS (l := [46]) (by decide +kernel)) (nomark _))))) (pss_one (ps_ret pe_bl)) pss_nil)
      (pss_one (ps_set (i := 3) scRight.nd rfl (Or.inl rfl) (pe_m1 F.slot_str_find F.type_str_find mt_findS (pv 2) (pv 4))))))
      (pss_one (ps_ret pe_bl)))))), ?_⟩
    walk_at "go"
    · rename_i h1
      have e : rightB sg c t = false := by
        unfold rightB
        rw [decide_eq_false (show ¬ t.take 2 = [c, 62] from h1), Bool.false_and, Bool.false_and]
      rw [e] at k
      exact k
    · rename_i h1 h2
      have e : rightB sg c t = false := by
        unfold rightB
        rw [decide_eq_false (show ¬ 3 ≤ t.length by omega), Bool.and_false, Bool.false_and]
      rw [e] at k
      exact k
    rename_i h1 h2
    have e0 : rightB sg c t = (decide (t.drop 2 = [46]) || upB sg (-1) (t.drop 2)) := by
      unfold rightB
      rw [decide_eq_true (show t.take 2 = [c, 62] from h1), decide_eq_true (show 3 ≤ t.length by omega), Bool.true_and, Bool.true_and]
    rw [e0] at k
    refine for_S (fun i σ H' => Stop (∃ (l : Int) (v4 : Option V), σ = [some (.str (S t)), some (.str (S [c])), some (.str (S sg)), some (.int l), v4] ∧ H' = H ∧ (t.drop 2 = [46] ∨ upB sg (-1) (t.drop 2) = upB sg l ((t.drop 2).drop i)))) ⟨-1, _, rfl, rfl, .inr rfl⟩ ?_ ?_
    · rintro j o σ H9 ho ⟨l, v4, rfl, rfl, hu⟩
      have hdr : (t.drop 2).drop j = o :: (t.drop 2).drop (j + 1) := by
        have hlt := (List.getElem?_eq_some_iff.mp ho).1
        rw [List.drop_eq_getElem_cons hlt, (List.getElem?_eq_some_iff.mp ho).2]
      have up : upB sg l ((t.drop 2).drop j) = (decide (l < posI sg o) && upB sg (posI sg o) ((t.drop 2).drop (j + 1))) := by
        rw [hdr]
        rfl
      walk_at "go"
      · rename_i h3 h4
        have e : (decide (t.drop 2 = [46]) || upB sg (-1) (t.drop 2)) = false := by
          rw [decide_eq_false h4, Bool.false_or, hu.resolve_left h4, up, decide_eq_false (show ¬ l < posI sg o from by unfold posI; omega), Bool.false_and]
        rw [e] at k
        exact k
      · rename_i h3 h4
        exact ⟨_, _, rfl, rfl, .inl h4⟩
      · rename_i h3
        refine ⟨_, _, rfl, rfl, ?_⟩
        rcases hu with h | h
        · exact .inl h
        · refine .inr ?_
          rw [h, up, decide_eq_true (show l < posI sg o from by unfold posI; omega), Bool.true_and]
          rfl
    · rintro σ H9 ⟨l, v4, rfl, rfl, hu⟩
      walk_at "go"
      have e : (decide (t.drop 2 = [46]) || upB sg (-1) (t.drop 2)) = true := by
        rcases hu with h | h
        · rw [decide_eq_true h, Bool.true_or]
        · rw [h, List.drop_length, show upB sg l [] = true from rfl, Bool.or_true]
      rw [e] at k
      exact k
theorem n1_lt {sg : List Nat} (h : Asc sg) {c d : Nat} (hc : c ∈ sg) (hd : d ∈ sg) : n1 sg c < n1 sg d ↔ c < d := by
  obtain ⟨h1, e1⟩ := List.getElem?_eq_some_iff.mp (n1_at hc)
  obtain ⟨h2, e2⟩ := List.getElem?_eq_some_iff.mp (n1_at hd)
  have hp := List.pairwise_iff_getElem.mp h
  rcases Nat.lt_trichotomy (n1 sg c) (n1 sg d) with g | g | g
  · have := hp _ _ h1 h2 g
    rw [e1, e2] at this
    exact ⟨fun _ => this, fun _ => g⟩
  · have : c = d := by
      have e3 := n1_at hc
      rw [g, n1_at hd] at e3
      exact (Option.some.inj e3).symm
    subst this
    exact ⟨fun z => absurd z (Nat.lt_irrefl _), fun z => absurd z (Nat.lt_irrefl _)⟩
  · have := hp _ _ h2 h1 g
    rw [e1, e2] at this
    exact ⟨fun z => by omega, fun z => by omega⟩
theorem upB_iff {sg : List Nat} (h : Asc sg) : ∀ (t : List Nat) (l : Int), -1 ≤ l → (upB sg l t = true ↔ (∀ c ∈ t, c ∈ sg ∧ l < (n1 sg c : Int)) ∧ t.Pairwise (· < ·))
  | [], l, _ => ⟨fun _ => ⟨fun _ z => absurd z List.not_mem_nil, List.Pairwise.nil⟩, fun _ => rfl⟩
  | c :: r, l, hl => by
    rw [show upB sg l (c :: r) = (decide (l < posI sg c) && upB sg (posI sg c) r) from rfl, Bool.and_eq_true, decide_eq_true_iff, List.pairwise_cons]
    by_cases hc : c ∈ sg
    · have e : posI sg c = (n1 sg c : Int) := if_pos hc
      rw [e, upB_iff h r _ (by omega)]
      constructor
      · rintro ⟨h1, h2, h3⟩
        refine ⟨fun d hd => ?_, fun d hd => ?_, h3⟩
        · rcases List.mem_cons.mp hd with rfl | hd
          · exact ⟨hc, h1⟩
          · have := h2 d hd
            exact ⟨this.1, by omega⟩
        · have := h2 d hd
          exact (n1_lt h hc this.1).mp (by omega)
      · rintro ⟨h1, h2, h3⟩
        refine ⟨(h1 c List.mem_cons_self).2, fun d hd => ?_, h3⟩
        have h4 := (h1 d (List.mem_cons_of_mem _ hd)).1
        have := (n1_lt h hc h4).mpr (h2 d hd)
        exact ⟨h4, by omega⟩
    · have e : posI sg c = -1 := if_neg hc
      constructor
      · rintro ⟨h1, _⟩
        rw [e] at h1
        omega
      · rintro ⟨h1, _⟩
        exact absurd (h1 c List.mem_cons_self).1 hc
theorem ascB_iff {sg t : List Nat} : ascB sg t = true ↔ (∀ c ∈ t, c ∈ sg) ∧ t.Pairwise (· < ·) := by
  unfold ascB
  rw [Bool.and_eq_true, decide_eq_true_iff, decide_eq_true_iff]
  constructor
  · rintro ⟨⟨h1, h2⟩, h3⟩
    have h4 := srtL_le t
    rw [← h3] at h4
    exact ⟨h2, (List.pairwise_and_iff.mpr ⟨h4, h1⟩).imp fun q => Nat.lt_of_le_of_ne q.1 q.2⟩
  · rintro ⟨h1, h2⟩
    exact ⟨⟨h2.imp fun q => Nat.ne_of_lt q, h1⟩, srt_eq (List.Perm.refl _) (h2.imp fun q => Nat.le_of_lt q)⟩
theorem right_ent {sg : List Nat} (h : Asc sg) (c : Nat) (t : List Nat) : rightB sg c t = entB sg c t := by
  unfold rightB entB
  by_cases h1 : t.take 2 = [c, 62]
  · rw [decide_eq_true h1, Bool.true_and, Bool.true_and]
    have hl : 2 ≤ t.length := by
      have := congrArg List.length h1
      rw [List.length_take] at this
      simp at this
      omega
    by_cases h2 : t.drop 2 = [46]
    · have h3 : 3 ≤ t.length := by
        have := congrArg List.length h2
        rw [List.length_drop] at this
        simp at this
        omega
      rw [decide_eq_true h2, decide_eq_true h3]
      rfl
    · rw [decide_eq_false h2, Bool.false_or, Bool.false_or]
      have e1 : decide (3 ≤ t.length) = !(t.drop 2).isEmpty := by
        rw [Bool.eq_iff_iff, decide_eq_true_iff, Bool.not_eq_true', List.isEmpty_eq_false_iff, ← List.length_pos_iff, List.length_drop]
        omega
      have e2 : upB sg (-1) (t.drop 2) = ascB sg (t.drop 2) := by
        rw [Bool.eq_iff_iff, upB_iff h _ _ (by omega), ascB_iff]
        exact ⟨fun ⟨x, y⟩ => ⟨fun c hc => (x c hc).1, y⟩, fun ⟨x, y⟩ => ⟨fun c hc => ⟨x c hc, by omega⟩, y⟩⟩
      rw [e1, e2]
  · rw [decide_eq_false h1, Bool.false_and, Bool.false_and, Bool.false_and]
end
end
section
set_option Elab.async false
set_option linter.all false
set_option maxRecDepth 100000
set_option maxHeartbeats 4000000
open PySem PySem.Spec PyProof.Rows L2 NSet

local macro_rules | `(tactic| walk_at "side") => `(tactic| exact .inl (by assumption))
local macro_rules | `(tactic| walk_at "go1") => `(tactic| (with_reducible refine iGTup (by assumption) rfl ?_))
local macro_rules | `(tactic| walk_at "go1") => `(tactic| (with_reducible refine iGCons ?_))
local macro_rules | `(tactic| walk_at "go1") => `(tactic| (with_reducible refine iGNil ?_))
local macro_rules | `(tactic| walk_at "go1") => `(tactic| (with_reducible refine iMakeV ?_))
local macro_rules | `(tactic| walk_at "go1") => `(tactic| (with_reducible refine iMakeD ?_))
local macro_rules | `(tactic| walk_at "go1") => `(tactic| (with_reducible refine iLc2S ?_))
local macro_rules | `(tactic| walk_at "go1") => `(tactic| (with_reducible refine iLc2L ?_))
local macro_rules | `(tactic| walk_at "go1") => `(tactic| (with_reducible refine iIStr ?_))
local macro_rules | `(tactic| walk_at "go1") => `(tactic| (with_reducible refine iIxI ?_))
local macro_rules | `(tactic| walk_at "go1") => `(tactic| (with_reducible refine iCMeth ?_))

section
variable {P : Program} {w : World} {K : PySem.W.Frag} {mg : Str → Option Value} {base : Heap} {a : Ad} {d : Fd}
def badAt (sg : List Nat) (es : List (List Nat)) (k : Nat) : Prop := ∃ c t, sg[k]? = some c ∧ es[k]? = some t ∧ entB sg c t = false
def Due (sg : List Nat) (es : List (List Nat)) (z : Int) : Prop :=
  (∃ k : Nat, badAt sg es k ∧ (∀ j, j < k → ¬ badAt sg es j) ∧ z = (k : Int)) ∨
  ((∀ j, ¬ badAt sg es j) ∧ z = if es.length < sg.length then (es.length : Int) else if sg.length < es.length then (sg.length : Int) else -1)
theorem Due.uniq {sg : List Nat} {es : List (List Nat)} {y z : Int} (h1 : Due sg es y) (h2 : Due sg es z) : y = z := by
  rcases h1 with ⟨k, bk, nk, rfl⟩ | ⟨n, rfl⟩
  · rcases h2 with ⟨m, bm, nm, rfl⟩ | ⟨n, _⟩
    · rcases Nat.lt_trichotomy k m with g | g | g
      · exact absurd bk (nm k g)
      · rw [g]
      · exact absurd bm (nk m g)
    · exact absurd bk (n k)
  · rcases h2 with ⟨m, bm, nm, rfl⟩ | ⟨n2, rfl⟩
    · exact absurd bm (n m)
    · rfl
def spIndex : Sp := fun vs H Q _ => ∃ (p : Addr) (sg : List Nat) (es : List (List Nat)), vs = [.ref p, .str (S sg)] ∧ SgOk sg ∧ H p = some (.lst (es.map fun t => V.str (S t))) ∧ (∀ t ∈ es, t.length ≤ 60) ∧ es.length ≤ 4000 ∧ ∀ z, Due sg es z → Q (.int z) H
theorem scIndex : FnScope ["_law_entries", "_law_signs_here", "_law_k"] ["_law_entries", "_law_signs_here"] (defScope sIndex) := ⟨rfl, rfl, rfl, by decide +kernel, rfl, by decide +kernel, by decide +kernel⟩
theorem ok_index (T : Fns K mg a d) : FnOk P w K mg base CX0 2 a.aIndex d.dIndex ["_law_entries", "_law_signs_here"] spIndex := by
  have GRight := ok_right (P := P) (w := w) (base := base) T
  refine T.FIndex.ok scIndex (fun vs H Q E h => ?_) (fun cdv A outer s H vs Q E hr h => ?_)
  · obtain ⟨p, sg, es, rfl, _⟩ := h
    rfl
  · obtain ⟨p, sg, es, rfl, hsg, hp, ht, hel, k⟩ := h
    have hl5 := hsg.l
    refine ⟨_, ((pss_cons (ps_for PassesOwn.never rfl (pi_range1 (by rfl) T.z_range (pa_cons (pe_callB call_lenS (by rfl) T.z_len (by decide +kernel) (pa_cons (pv 1) pa_nil)) pa_nil)) (pg_name (i := 2) scIndex.nd rfl (Or.inl rfl)) (pss_one (ps_if (PW.pt (pw_and (pt_cmpR op_lt (pv 2) (pe_callB call_len_seq (by rfl) T.z_len (by decide +kernel) (pa_cons (pv 0) pa_nil)) (nomark _)) (pw_and1 (pt_not (pt_val (pe_call GRight (hr.mono (by decide)) (by rfl) T.gRight T.FRight.kp T.bRight .nil pass0 (pa_cons (pe_ix (r := rIxL K) ix_list (pv 0) (pv 2) (fun _ _ => rfl)) (pa_cons (pe_ix ix_str (pv 1) (pv 2) (fun _ _ => rfl)) (pa_cons (pv 1) pa_nil))))))))) (pss_one (ps_ret (pv 2))) pss_nil)))
      (pss_cons (ps_if (pt_cmpR op_lt (pe_callB call_len_seq (by rfl) T.z_len (by decide +kernel) (pa_cons (pv 0) pa_nil)) (pe_callB call_lenS (by rfl) T.z_len (by decide +kernel) (pa_cons (pv 1) pa_nil)) (nomark _)) (pss_one (ps_ret (pe_callB call_len_seq (by rfl) T.z_len (by decide +kernel) (pa_cons (pv 0) pa_nil)))) pss_nil)
      (pss_cons (ps_if (pt_cmpR op_gt (pe_callB call_len_seq (by rfl) T.z_len (by decide +kernel) (pa_cons (pv 0) pa_nil)) (pe_callB call_lenS (by rfl) T.z_len (by decide +kernel) (pa_cons (pv 1) pa_nil)) (nomark _)) (pss_one (ps_ret (pe_callB call_lenS (by rfl) T.z_len (by decide +kernel) (pa_cons (pv 1) pa_nil)))) pss_nil)
      (pss_one (ps_ret (pe_un un_neg pe_int))))))), ?_⟩
    walk_at "go"
    refine for_R (fun i σ H' => Stop (∃ (v2 : Option V), σ = [some (.ref p), some (.str (S sg)), v2] ∧ H' = H ∧ ∀ j, j < i → ¬ badAt sg es j)) ⟨_, rfl, rfl, fun j hj => absurd hj (Nat.not_lt_zero _)⟩ ?_ ?_
    · rintro i σ H9 hi ⟨v2, rfl, rfl, hn⟩
      have hi2 : i < sg.length := by simpa using hi
      have hc : sg[i]? = some sg[i] := List.getElem?_eq_getElem hi2
      generalize sg[i] = c at hc
      have ij : (0 : Int) + (i : Int) = (i : Int) := Int.zero_add _
      rw [ij]
      by_cases hie : i < es.length
      · have he : es[i]? = some es[i] := List.getElem?_eq_getElem hie
        have hem := List.getElem_mem hie
        generalize es[i] = t at he hem
        have hev : (es.map fun t => V.str (S t))[i]? = some (V.str (S t)) := by rw [List.getElem?_map, he]; rfl
        have htl := ht t hem
        have next : entB sg c t = true → ∀ j, j < i + 1 → ¬ badAt sg es j := fun hb j hj => by
          by_cases g : j < i
          · exact hn j g
          · have g2 : j = i := by omega
            subst g2
            rintro ⟨c', t', h1, h2, h3⟩
            rw [hc] at h1
            rw [he] at h2
            cases h1
            cases h2
            rw [hb] at h3
            cases h3
        walk_at "go"
        · refine ⟨c, t, sg, rfl, hsg, htl, ?_⟩
          rw [right_ent hsg.a]
          cases hb : entB sg c t with
          | true =>
            walk_at "go"
            exact ⟨_, rfl, rfl, next hb⟩
          | false =>
            walk_at "go"
            exact k _ (.inl ⟨i, ⟨c, t, hc, he, hb⟩, hn, rfl⟩)
        · rename_i hb
          rw [List.length_map] at hb
          omega
      · walk_at "go"
        · rename_i hb
          rw [List.length_map] at hb
          omega
        · refine ⟨_, rfl, rfl, fun j hj => ?_⟩
          by_cases g : j < i
          · exact hn j g
          · rintro ⟨c', t', h1, h2, h3⟩
            have := (List.getElem?_eq_some_iff.mp h2).1
            omega
    · rintro σ H9 ⟨v2, rfl, rfl, hn⟩
      rw [Int.toNat_natCast] at hn
      have hnb : ∀ j, ¬ badAt sg es j := fun j hb => by
        obtain ⟨c, t, h1, _⟩ := id hb
        exact hn j (List.getElem?_eq_some_iff.mp h1).1 hb
      walk_at "go"
      · rename_i h1
        rw [List.length_map] at h1 ⊢
        exact k _ (.inr ⟨hnb, (if_pos (by omega)).symm⟩)
      · rename_i h1 h2
        rw [List.length_map] at h1 h2
        exact k _ (.inr ⟨hnb, by rw [if_neg (by omega), if_pos (by omega)]⟩)
      · rename_i h1 h2
        rw [List.length_map] at h1 h2
        exact k _ (.inr ⟨hnb, by rw [if_neg (by omega), if_neg (by omega)]⟩)
end
end
section
set_option Elab.async false
set_option linter.all false
set_option maxRecDepth 100000
set_option maxHeartbeats 4000000
open PySem PySem.Spec PyProof.Rows L2 NSet

local macro_rules | `(tactic| walk_at "side") => `(tactic| exact .inl (by assumption))
local macro_rules | `(tactic| walk_at "go1") => `(tactic| (with_reducible refine iGTup (by assumption) rfl ?_))
local macro_rules | `(tactic| walk_at "go1") => `(tactic| (with_reducible refine iGCons ?_))
local macro_rules | `(tactic| walk_at "go1") => `(tactic| (with_reducible refine iGNil ?_))
local macro_rules | `(tactic| walk_at "go1") => `(tactic| (with_reducible refine iMakeV ?_))
local macro_rules | `(tactic| walk_at "go1") => `(tactic| (with_reducible refine iMakeD ?_))
local macro_rules | `(tactic| walk_at "go1") => `(tactic| (with_reducible refine iLc2S ?_))
local macro_rules | `(tactic| walk_at "go1") => `(tactic| (with_reducible refine iLc2L ?_))
local macro_rules | `(tactic| walk_at "go1") => `(tactic| (with_reducible refine iIStr ?_))
local macro_rules | `(tactic| walk_at "go1") => `(tactic| (with_reducible refine iIxI ?_))
local macro_rules | `(tactic| walk_at "go1") => `(tactic| (with_reducible refine iCMeth ?_))
def kStrM7_0 : List Nat := [97, 98, 99, 100, 101, 102, 103, 104, 105, 106, 107, 108, 109, 110, 111, 112, 113, 114, 115, 116, 117, 118, 119, 120, 121, 122]
theorem kStrM7_0_eq : PySem.Str.ofString "abcdefghijklmnopqrstuvwxyz" = S kStrM7_0 := by decide +kernel
section
variable {P : Program} {w : World} {K : PySem.W.Frag} {mg : Str → Option Value} {base : Heap} {a : Ad} {d : Fd}
theorem restO_pos {sg : List Nat} (h : sg.length ≤ 5) : 0 < (azL.filter fun c => decide (c ∉ sg)).length := by
  rcases Nat.eq_zero_or_pos (azL.filter fun c => decide (c ∉ sg)).length with e | e
  · have e2 := List.eq_nil_of_length_eq_zero e
    have key : ∀ c ∈ azL, c ∈ sg := fun c hc => by
      by_cases hin : c ∈ sg
      · exact hin
      · have : c ∈ azL.filter fun c => decide (c ∉ sg) := List.mem_filter.mpr ⟨hc, by simp [hin]⟩
        rw [e2] at this
        cases this
    have := len_of_sub az_nodup key
    rw [az_len] at this
    omega
  · exact e
theorem az_up : ∀ c ∈ azL, Txt.upper (S [c]) = S [c - 32] := by decide +kernel
/-- a text that is no sign -/
def Odd (sg t : List Nat) : Prop := signB sg t = false ∧ t.length ≤ 10 ∧ ∀ c ∈ t, c < 128
def SgL (sg : List Nat) : Prop := 2 ≤ sg.length ∧ ∀ c ∈ sg, c = 45 ∨ (97 ≤ c ∧ c ≤ 122)
theorem odds {sg : List Nat} (hsg : SgOk sg) (hs : SgL sg) {c1 d2 : Nat} (hm : c1 ∈ sg) (hd : d2 ∉ sg ∧ d2 ∈ azL) : ∀ t ∈ ([[], [c1, c1], sg, [d2], [d2 - 32], [c1, 32], [32], [46], [62], [c1, 10]] : List (List Nat)), Odd sg t := by
  have hc := hsg.c c1 hm
  have hl := hsg.l
  have haz : ∀ c ∈ azL, 97 ≤ c ∧ c ≤ 122 := by decide +kernel
  have hd2 := haz d2 hd.2
  have one : ∀ x, x ∉ sg → signB sg [x] = false := fun x hx => by
    show decide (x ∈ sg) = false
    exact decide_eq_false hx
  have no : ∀ x, x ≠ 45 → (x < 97 ∨ 122 < x) → x ∉ sg := fun x h1 h2 hx => by
    have := hs.2 x hx
    omega
  intro t ht
  simp only [List.mem_cons, List.not_mem_nil, or_false] at ht
  rcases ht with rfl | rfl | rfl | rfl | rfl | rfl | rfl | rfl | rfl | rfl
  · exact ⟨rfl, by decide, fun _ z => nomatch z⟩
  · exact ⟨rfl, by simp, fun x hx => by simp at hx; omega⟩
  · refine ⟨?_, by omega, hsg.c⟩
    have h2 := hs.1
    rcases t with _ | ⟨x, _ | ⟨y, r⟩⟩
    · rfl
    · simp at h2
    · rfl
  · exact ⟨one _ hd.1, by simp, fun x hx => by simp at hx; omega⟩
  · exact ⟨one _ (no _ (by omega) (by omega)), by simp, fun x hx => by simp at hx; omega⟩
  · exact ⟨rfl, by simp, fun x hx => by simp at hx; omega⟩
  · exact ⟨one _ (no _ (by decide) (by decide)), by simp, fun x hx => by simp at hx; omega⟩
  · exact ⟨one _ (no _ (by decide) (by decide)), by simp, fun x hx => by simp at hx; omega⟩
  · exact ⟨one _ (no _ (by decide) (by decide)), by simp, fun x hx => by simp at hx; omega⟩
  · exact ⟨rfl, by simp, fun x hx => by simp at hx; omega⟩
def spStrange : Sp := fun vs H Q _ => ∃ (b g u : Addr) (sg : List Nat), vs = [.ref b, .str (S sg)] ∧ BagB H b g u ∧ SgOk sg ∧ SgL sg ∧ ∀ (t : List Nat) (H' : Hp), Odd sg t → BagB H' b g u → Fr [b, g] H H' → Q (.str (S t)) H'
theorem scStrange : FnScope ["_law_bag_here", "_law_signs_here", "_law_sign", "_law_rest", "_law_one", "_law_other", "_law_menu"] ["_law_bag_here", "_law_signs_here"] (defScope sStrange) := ⟨rfl, rfl, rfl, by decide +kernel, rfl, by decide +kernel, by decide +kernel⟩
theorem ok_strange (T : Fns K mg a d) : FnOk P w K mg base CX0 2 a.aStrange d.dStrange ["_law_bag_here", "_law_signs_here"] spStrange := by
  have GTake := ok_take (P := P) (w := w) (base := base) T
  refine T.FStrange.ok scStrange (fun vs H Q E h => ?_) (fun cdv A outer s H vs Q E hr h => ?_)
  · obtain ⟨b, g, u, sg, rfl, _⟩ := h
    rfl
  · obtain ⟨b, g, u, sg, rfl, hB, hsg, hs, k⟩ := h
    have hl5 := hsg.l
    have hl0 := hsg.p
    refine ⟨_, ((pss_cons (ps_set (i := 2) scStrange.nd rfl (Or.inl rfl) (pe_ix ix_str (pv 1) (pe_call GTake (hr.mono (by decide)) (by rfl) T.gTake T.FTake.kp T.bTake .nil pass0 (pa_cons (pv 0) (pa_cons (pe_callB call_lenS (by rfl) T.z_len (by decide +kernel) (pa_cons (pv 1) pa_nil)) pa_nil))) (fun _ _ => rfl)))
      (pss_cons (ps_setLc (i := 3) (own := [("_law_one", 4)]) (g := gName 4) (by rfl) scStrange.nd rfl rfl (by rfl) (pi_str (pe_strS (l := kStrM7_0) kStrM7_0_eq)) (blkOk_by (own := [("_law_one", 4)]) (N := ["_law_bag_here", "_law_signs_here", "_law_sign", "_law_rest", "_law_one", "_law_other", "_law_menu"]) (sc := defScope sStrange) (by decide +kernel)) (fun _ _ _ _ _ => pg_name (i := 4) scStrange.nd rfl (Or.inl rfl)) (fun _ _ _ _ _ => (pts_one (pt_cmpR op_notInS (pv 4) (pv 1) rfl))) (fun _ _ _ _ _ => (pv 4)))
      (pss_cons (ps_set (i := 5) scStrange.nd rfl (Or.inl rfl) (pe_ix (r := rIxL K) ix_list (pv 3) (pe_call GTake (hr.mono (by decide)) (by rfl) T.gTake T.FTake.kp T.bTake .nil pass0 (pa_cons (pv 0) (pa_cons (pe_callB call_len_seq (by rfl) T.z_len (by decide +kernel) (pa_cons (pv 3) pa_nil)) pa_nil))) (fun _ _ => rfl)))
      (pss_cons (ps_set (i := 6) scStrange.nd rfl (Or.inl rfl) (pe_lst (pa_cons (pe_strS (l := []) (by decide +kernel)) (pa_cons (pe_op op_addS (pv 2) (pv 2)) (pa_cons (pv 1) (pa_cons (pv 5) (pa_cons (pe_upper (pv 5)) (pa_cons (pe_op op_addS (pv 2) (pe_strS (l := [32]) (by decide +kernel))) (pa_cons (pe_strS (l := [32]) (by decide +kernel)) (pa_cons (pe_strS (l := [46]) (by decide +kernel)) (pa_cons (pe_strS (l := [62]) (by decide +kernel)) (pa_cons (pe_op op_addS (pv 2) (pe_strS (l := [10]) (by decide +kernel))) pa_nil))))))))))))
      (pss_one (ps_ret (pe_ix (r := rIxL K) ix_list (pv 6) (pe_call GTake (hr.mono (by decide)) (by rfl) T.gTake T.FTake.kp T.bTake .nil pass0 (pa_cons (pv 0) (pa_cons pe_int pa_nil))) (fun _ _ => rfl))))))))), ?_⟩
    walk_at "go"
    refine ⟨b, g, u, sg.length, rfl, hB, hl0, by omega, fun r1 H1 hr1 hB1 f1 => ?_⟩
    obtain ⟨c1, hc1⟩ : ∃ c, sg[r1]? = some c := ⟨_, List.getElem?_eq_getElem hr1⟩
    have hm1 := List.mem_of_getElem? hc1
    walk_at "go"
    rename_i D hD
    have eaz : kStrM7_0 = azL := by decide +kernel
    rw [eaz]
    have hrl := List.length_filter_le (fun c => decide (c ∉ sg)) azL
    rw [az_len] at hrl
    refine lcg_S (fun j H' => H' D = some (.lst (((azL.take j).filter fun c => decide (c ∉ sg)).map fun c => V.str (S [c]))) ∧ Same H1 H') ⟨upd_same, Same.upd_new hD⟩ (fun _ => rfl) (fun j c H' hc hP2 => ?_) (fun H' hP2 => ?_)
    · obtain ⟨h8, s8⟩ := hP2
      have hjl := (List.getElem?_eq_some_iff.mp hc).1
      have hfl := List.length_filter_le (fun c => decide (c ∉ sg)) (azL.take j)
      rw [List.length_take, az_len] at hfl
      by_cases hcs : c ∈ sg
      · walk_at "go"
        refine ⟨?_, s8⟩
        rw [h8, List.take_add_one, hc, List.filter_append, show List.filter (fun c => decide (c ∉ sg)) (some c).toList = [] from by simp [hcs], List.append_nil]
      · walk_at "go"
        refine ⟨by rw [List.length_map, sizeLine_eq]; omega, ?_, fun b o hb => ?_⟩
        · rw [upd_same, List.take_add_one, hc, List.filter_append, show List.filter (fun c => decide (c ∉ sg)) (some c).toList = [c] from by simp [hcs], List.map_append]
          rfl
        · rw [upd_ne (fun z => by rw [z, hD] at hb; cases hb)]
          exact s8 _ _ hb
    · obtain ⟨h8, s8⟩ := hP2
      have hpos := restO_pos hl5
      rw [show azL.take azL.length = azL from List.take_length] at h8
      have hmr : ∀ c ∈ azL.filter (fun c => decide (c ∉ sg)), c ∉ sg ∧ c ∈ azL := fun c hc => ⟨by simpa using (List.mem_filter.mp hc).2, (List.mem_filter.mp hc).1⟩
      generalize (azL.filter fun c => decide (c ∉ sg)) = rest at h8 hpos hrl hmr
      have hB2 : BagB H' b g u := hB1.same s8
      walk_at "go"
      refine ⟨b, g, u, rest.length, by rw [List.length_map], hB2, hpos, by omega, fun r2 H3 hr3 hB3 f3 => ?_⟩
      obtain ⟨d2, hd⟩ : ∃ d, rest[r2]? = some d := ⟨_, List.getElem?_eq_getElem hr3⟩
      have hdm := hmr d2 (List.mem_of_getElem? hd)
      have Db := hB1.ne hD
      have hD3 : H3 D = some (.lst (rest.map fun c => V.str (S [c]))) := f3 _ _ (by simp [Db.1, Db.2.1]) h8
      have hdv : (rest.map fun c => V.str (S [c]))[r2]? = some (V.str (S [d2])) := by rw [List.getElem?_map, hd]; rfl
      have hup : Txt.upper (S [d2]) = S [d2 - 32] := by
        have := az_up d2 hdm.2
        exact this
      walk_at "go"
      refine ⟨_, rfl, ⟨_, rfl⟩, S [d2], rfl, rfl, by rw [S_len]; simp, ?_⟩
      rw [hup]
      walk_at "go"
      rename_i M hM
      have eM : ∀ x : HO, upd H3 M x = upd H3 M x := fun _ => rfl
      have hmM : (upd H3 M (.lst [V.str (S []), V.str (S ([c1] ++ [c1])), V.str (S sg), V.str (S [d2]), V.str (S [d2 - 32]), V.str (S ([c1] ++ [32])), V.str (S [32]), V.str (S [46]), V.str (S [62]), V.str (S ([c1] ++ [10]))])) M = some (.lst (([[], [c1, c1], sg, [d2], [d2 - 32], [c1, 32], [32], [46], [62], [c1, 10]] : List (List Nat)).map fun t => V.str (S t))) := upd_same
      have sM : Same H3 (upd H3 M (.lst [V.str (S []), V.str (S ([c1] ++ [c1])), V.str (S sg), V.str (S [d2]), V.str (S [d2 - 32]), V.str (S ([c1] ++ [32])), V.str (S [32]), V.str (S [46]), V.str (S [62]), V.str (S ([c1] ++ [10]))])) := Same.upd_new hM
      generalize (upd H3 M (.lst [V.str (S []), V.str (S ([c1] ++ [c1])), V.str (S sg), V.str (S [d2]), V.str (S [d2 - 32]), V.str (S ([c1] ++ [32])), V.str (S [32]), V.str (S [46]), V.str (S [62]), V.str (S ([c1] ++ [10]))])) = H4 at hmM sM ⊢
      have hB4 := hB3.same sM
      have Mb := hB3.ne hM
      refine ⟨b, g, u, 10, rfl, hB4, by decide, by decide, fun r4 H5 hr4 hB5 f5 => ?_⟩
      have hM5 : H5 M = some (.lst (([[], [c1, c1], sg, [d2], [d2 - 32], [c1, 32], [32], [46], [62], [c1, 10]] : List (List Nat)).map fun t => V.str (S t))) := f5 _ _ (by simp [Mb.1, Mb.2.1]) hmM
      have hodd : ∀ t ∈ ([[], [c1, c1], sg, [d2], [d2 - 32], [c1, 32], [32], [46], [62], [c1, 10]] : List (List Nat)), Odd sg t := odds hsg hs hm1 hdm
      have hlen : ([[], [c1, c1], sg, [d2], [d2 - 32], [c1, 32], [32], [46], [62], [c1, 10]] : List (List Nat)).length = 10 := rfl
      generalize ([[], [c1, c1], sg, [d2], [d2 - 32], [c1, 32], [32], [46], [62], [c1, 10]] : List (List Nat)) = L at hM5 hodd hlen
      obtain ⟨t4, ht4⟩ : ∃ t, L[r4]? = some t := ⟨_, List.getElem?_eq_getElem (by omega)⟩
      have htv : (L.map fun t => V.str (S t))[r4]? = some (V.str (S t4)) := by rw [List.getElem?_map, ht4]; rfl
      walk_at "go"
      exact k t4 H5 (hodd t4 (List.mem_of_getElem? ht4)) hB5 (f1.trans ((Fr.of_same s8).trans (f3.trans ((Fr.of_same sM).trans f5))))
end
end
section
set_option Elab.async false
set_option linter.all false
set_option maxRecDepth 100000
set_option maxHeartbeats 4000000
open PySem PySem.Spec PyProof.Rows L2 NSet

local macro_rules | `(tactic| walk_at "side") => `(tactic| exact .inl (by assumption))
local macro_rules | `(tactic| walk_at "go1") => `(tactic| (with_reducible refine iGTup (by assumption) rfl ?_))
local macro_rules | `(tactic| walk_at "go1") => `(tactic| (with_reducible refine iGCons ?_))
local macro_rules | `(tactic| walk_at "go1") => `(tactic| (with_reducible refine iGNil ?_))
local macro_rules | `(tactic| walk_at "go1") => `(tactic| (with_reducible refine iMakeV ?_))
local macro_rules | `(tactic| walk_at "go1") => `(tactic| (with_reducible refine iMakeD ?_))
local macro_rules | `(tactic| walk_at "go1") => `(tactic| (with_reducible refine iLc2S ?_))
local macro_rules | `(tactic| walk_at "go1") => `(tactic| (with_reducible refine iLc2L ?_))
local macro_rules | `(tactic| walk_at "go1") => `(tactic| (with_reducible refine iIStr ?_))
local macro_rules | `(tactic| walk_at "go1") => `(tactic| (with_reducible refine iIxI ?_))
local macro_rules | `(tactic| walk_at "go1") => `(tactic| (with_reducible refine iCMeth ?_))

section
variable {P : Program} {w : World} {K : PySem.W.Frag} {mg : Str → Option Value} {base : Heap} {a : Ad} {d : Fd}
def dq2 (y z : List Nat) : PyData := .tuple [.str (S y), .str (S z)]
theorem can_dq2 {y z : List Nat} (hy : ∀ c ∈ y, c < 128) (hz : ∀ c ∈ z, c < 128) : PyData.canLay0 (dq2 y z) = true := by
  have h1 : PyData.strOk (S y) = true := ok_S fun c hc => Nat.lt_trans (hy c hc) (by decide)
  have h2 : PyData.strOk (S z) = true := ok_S fun c hc => Nat.lt_trans (hz c hc) (by decide)
  simp [dq2, PyData.canLay0, PyData.canLayAll0, h1, h2]
theorem shaped_dq2 {y z : List Nat} (hy : ∀ c ∈ y, c < 128) (hz : ∀ c ∈ z, c < 128) : SeqAt.shaped (dq2 y z) = true := by
  have h2 : PyData.depth (dq2 y z) = 1 := by simp [dq2, PyData.depth, PyData.depthAll]
  simp [SeqAt.shaped, can_dq2 hy hz, h2]
theorem any_dq2 {l : List (Nat × Nat)} {y z : List Nat} (h : ∀ q ∈ l, ¬ (y = [q.1] ∧ z = [q.2])) : ((l.map dq).any fun x => PyData.eqv x (dq2 y z)) = false := by
  rw [List.any_map, List.any_eq_false]
  intro q hq e
  refine h q hq ?_
  simp only [Function.comp, dq, dq2, PyData.eqv, PyData.eqvAll, Bool.and_true, Bool.and_eq_true, beq_iff_eq, S_inj] at e
  exact ⟨e.1.symm, e.2.symm⟩
def spInN (a : Ad) : Sp := fun vs H Q _ => ∃ (t al x : Addr) (y z sg W : List Nat) (R : Rel), vs = [.ref t, .ref x] ∧ Tb a H t al sg W R ∧ SgOk sg ∧ H x = some (.tup [.str (S y), .str (S z)]) ∧ (∀ c ∈ y, c < 128) ∧ (∀ c ∈ z, c < 128) ∧ (signB sg y = false ∨ signB sg z = false) ∧ Q (.bl false) H
theorem ok_inN (T : Fns K mg a d) : FnOk P w K mg base CX0 2 a.aTIn d.dTIn ["self", "pair"] (spInN a) := by
  refine T.FTIn.ok scTIn (fun vs H Q E h => ?_) (fun cdv A outer s H vs Q E hr h => ?_)
  · obtain ⟨t, al, x, y, z, sg, W, R, rfl, _⟩ := h
    rfl
  · obtain ⟨t, al, x, y, z, sg, W, R, rfl, ⟨lp, qs, hT⟩, hsg, hx, hy, hz, hn, k⟩ := h
    obtain ⟨⟨dx, ht⟩, hal, hp, ec⟩ := id hT
    have clT := T.clT
    have nTp := T.nTp
    have hpl := hp.l
    refine ⟨_, ((pss_one (ps_ret (pe_cmpR (op_inD hr.unitu) (pv 1) (pe_fld (pv 0) rfl) rfl)))), ?_⟩
    have hd := hp.dp (K := K)
    rw [ec] at hd
    walk_at "go"
    refine ⟨dq2 y z, (canL sg R).map dq, .tup (SqT.of hx) (.cons (.str _) (.cons (.str _) .nil)), hd, shaped_dq2 hy hz, shaped_dqs (by rw [← ec]; exact hT.low hsg), ?_⟩
    rw [any_dq2 fun q hq e => ?_]
    · exact k
    · have hm := mem_can.mp hq
      rcases hn with h | h
      · rw [e.1] at h
        exact absurd hm.1 (of_decide_eq_false (show decide (q.1 ∈ sg) = false from h))
      · rw [e.2] at h
        exact absurd hm.2.1 (of_decide_eq_false (show decide (q.2 ∈ sg) = false from h))
theorem inN_no {H : Hp} {E : XK} {t al x : Addr} {y z sg W : List Nat} {R : Rel} {Q : VK} (hT : Tb a H t al sg W R) (hsg : SgOk sg) (hx : H x = none) (hy : ∀ c ∈ y, c < 128) (hz : ∀ c ∈ z, c < 128) (hn : signB sg y = false ∨ signB sg z = false) (k : ∀ H', Same H H' → Q (.bl false) H') :
    rInI a.cTable (spInN a) E (.ref x) (.ref t) (upd H x (.tup [.str (S y), .str (S z)])) Q := by
  have s : Same H (upd H x (.tup [.str (S y), .str (S z)])) := Same.upd_new hx
  obtain ⟨dx, lp, ht⟩ := hT.ins
  exact ⟨t, dx, _, rfl, s _ _ ht, t, al, x, y, z, sg, W, R, rfl, hT.same s, hsg, upd_same, hy, hz, hn, _, rfl, k _ s⟩
def spNoPairs (a : Ad) : Sp := fun vs H Q _ => ∃ (t al : Addr) (sg W st : List Nat) (R : Rel), vs = [.ref t, .str (S sg), .str (S st)] ∧ Tb a H t al sg W R ∧ SgOk sg ∧ Odd sg st ∧ ∀ H', Same H H' → Q (.bl true) H'
theorem scNoPairs : FnScope ["_law_table", "_law_signs_here", "_law_strange_here", "_law_sign", "_law_out"] ["_law_table", "_law_signs_here", "_law_strange_here"] (defScope sNoPairs) := ⟨rfl, rfl, rfl, by decide +kernel, rfl, by decide +kernel, by decide +kernel⟩
theorem ok_noPairs (T : Fns K mg a d) : FnOk P w K mg base CX0 3 a.aNoPairs d.dNoPairs ["_law_table", "_law_signs_here", "_law_strange_here"] (spNoPairs a) := by
  have GTIn := ok_inN (P := P) (w := w) (base := base) T
  refine T.FNoPairs.ok scNoPairs (fun vs H Q E h => ?_) (fun cdv A outer s H vs Q E hr h => ?_)
  · obtain ⟨t, al, sg, W, st, R, rfl, _⟩ := h
    rfl
  · obtain ⟨t, al, sg, W, st, R, rfl, hT, hsg, hst, k⟩ := h
    obtain ⟨lp0, qs0, hTL⟩ := id hT
    obtain ⟨⟨dx, ht⟩, hal, _, _⟩ := id hTL
    have hl5 := hsg.l
    refine ⟨_, ((pss_cons (ps_if (PW.pt (pw_or (pt_cmpR (op_inI T.mTIn.at_ T.mTIn.fn GTIn (hr.mono (by decide)) T.bTIn pass0) (pe_tup (pa_cons (pv 2) (pa_cons (pv 2) pa_nil))) (pv 0) rfl) (pw_or1 (pt_cmpR (op_inI T.mTIn.at_ T.mTIn.fn GTIn (hr.mono (by decide)) T.bTIn pass0) (pe_tup (pa_cons (pe_strS (l := []) (by decide +kernel)) (pa_cons (pe_strS (l := []) (by decide +kernel)) pa_nil))) (pv 0) rfl)))) (pss_one (ps_ret pe_bl)) pss_nil)
      (pss_cons (ps_for PassesOwn.never rfl (pi_str (pv 1)) (pg_name (i := 3) scNoPairs.nd rfl (Or.inl rfl)) (pss_cons (ps_if (PW.pt (pw_or (pt_cmpR (op_inI T.mTIn.at_ T.mTIn.fn GTIn (hr.mono (by decide)) T.bTIn pass0) (pe_tup (pa_cons (pv 2) (pa_cons (pv 3) pa_nil))) (pv 0) rfl) (pw_or1 (pt_cmpR (op_inI T.mTIn.at_ T.mTIn.fn GTIn (hr.mono (by decide)) T.bTIn pass0) (pe_tup (pa_cons (pv 3) (pa_cons (pv 2) pa_nil))) (pv 0) rfl)))) (pss_one (ps_ret pe_bl)) pss_nil)
      (pss_one (ps_for PassesOwn.never rfl (pi_str (pv 1)) (pg_name (i := 4) scNoPairs.nd rfl (Or.inl rfl)) (pss_one (ps_if (PW.pt (pw_or (pt_cmpR (op_inI T.mTIn.at_ T.mTIn.fn GTIn (hr.mono (by decide)) T.bTIn pass0) (pe_tup (pa_cons (pe_op op_addS (pv 3) (pv 4)) (pa_cons (pe_strS (l := []) (by decide +kernel)) pa_nil))) (pv 0) rfl) (pw_or1 (pt_cmpR (op_inI T.mTIn.at_ T.mTIn.fn GTIn (hr.mono (by decide)) T.bTIn pass0) (pe_tup (pa_cons (pe_strS (l := []) (by decide +kernel)) (pa_cons (pe_op op_addS (pv 3) (pv 4)) pa_nil))) (pv 0) rfl)))) (pss_one (ps_ret pe_bl)) pss_nil))))))
      (pss_one (ps_ret pe_bl))))), ?_⟩
    have hs2 : ∀ c ∈ st, c < 128 := hst.2.2
    have hn0 : ∀ c ∈ ([] : List Nat), c < 128 := fun _ z => absurd z List.not_mem_nil
    walk_at "go"
    rename_i p1 hp1
    refine inN_no hT hsg hp1 hs2 hs2 (.inl hst.1) fun H1 s1 => ?_
    walk_at "go"
    rename_i p2 hp2
    refine inN_no (hT.same s1) hsg hp2 hn0 hn0 (.inl rfl) fun H2 s2 => ?_
    have s12 := Vk.Same.trans s1 s2
    walk_at "go"
    refine for_S (fun i σ H' => Stop (∃ (v3 v4 : Option V), σ = [some (.ref t), some (.str (S sg)), some (.str (S st)), v3, v4] ∧ Same H H')) ⟨_, _, rfl, s12⟩ ?_ ?_
    · rintro i c σ H3 hc ⟨v3, v4, rfl, s3⟩
      have hc1 := hsg.c c (List.mem_of_getElem? hc)
      have hc2 : ∀ x ∈ [c], x < 128 := fun x hx => by rw [List.mem_singleton.mp hx]; exact hc1
      walk_at "go"
      rename_i p4 hp4
      refine inN_no (hT.same s3) hsg hp4 hs2 hc2 (.inl hst.1) fun H4 s4 => ?_
      walk_at "go"
      rename_i p5 hp5
      refine inN_no (hT.same (Vk.Same.trans s3 s4)) hsg hp5 hc2 hs2 (.inr hst.1) fun H5 s5 => ?_
      have s05 := Vk.Same.trans s3 (Vk.Same.trans s4 s5)
      walk_at "go"
      refine for_S (fun j σ H' => Stop (∃ (v4 : Option V), σ = [some (.ref t), some (.str (S sg)), some (.str (S st)), some (.str (S [c])), v4] ∧ Same H H')) ⟨_, rfl, s05⟩ ?_ ?_
      · rintro j o σ H6 ho ⟨v4, rfl, s6⟩
        have ho1 := hsg.c o (List.mem_of_getElem? ho)
        have hco : ∀ x ∈ ([c] ++ [o] : List Nat), x < 128 := fun x hx => by
          rcases List.mem_append.mp hx with h | h
          · rw [List.mem_singleton.mp h]; exact hc1
          · rw [List.mem_singleton.mp h]; exact ho1
        walk_at "go"
        rename_i p7 hp7
        refine inN_no (hT.same s6) hsg hp7 hco hn0 (.inr rfl) fun H7 s7 => ?_
        walk_at "go"
        rename_i p8 hp8
        refine inN_no (hT.same (Vk.Same.trans s6 s7)) hsg hp8 hn0 hco (.inl rfl) fun H8 s8 => ?_
        walk_at "go"
        exact ⟨_, rfl, Vk.Same.trans s6 (Vk.Same.trans s7 s8)⟩
      · rintro σ H6 ⟨v4, rfl, s6⟩
        walk_at "go"
        exact ⟨_, _, rfl, s6⟩
    · rintro σ H3 ⟨v3, v4, rfl, s3⟩
      walk_at "go"
      exact k _ s3
end
end
section
set_option Elab.async false
set_option linter.all false
set_option maxRecDepth 100000
set_option maxHeartbeats 4000000
open PySem PySem.Spec PyProof.Rows L2 NSet

local macro_rules | `(tactic| walk_at "side") => `(tactic| exact .inl (by assumption))
local macro_rules | `(tactic| walk_at "go1") => `(tactic| (with_reducible refine iGTup (by assumption) rfl ?_))
local macro_rules | `(tactic| walk_at "go1") => `(tactic| (with_reducible refine iGCons ?_))
local macro_rules | `(tactic| walk_at "go1") => `(tactic| (with_reducible refine iGNil ?_))
local macro_rules | `(tactic| walk_at "go1") => `(tactic| (with_reducible refine iMakeV ?_))
local macro_rules | `(tactic| walk_at "go1") => `(tactic| (with_reducible refine iMakeD ?_))
local macro_rules | `(tactic| walk_at "go1") => `(tactic| (with_reducible refine iLc2S ?_))
local macro_rules | `(tactic| walk_at "go1") => `(tactic| (with_reducible refine iLc2L ?_))
local macro_rules | `(tactic| walk_at "go1") => `(tactic| (with_reducible refine iIStr ?_))
local macro_rules | `(tactic| walk_at "go1") => `(tactic| (with_reducible refine iIxI ?_))
local macro_rules | `(tactic| walk_at "go1") => `(tactic| (with_reducible refine iCMeth ?_))

section
variable {P : Program} {w : World} {K : PySem.W.Frag} {mg : Str → Option Value} {base : Heap} {a : Ad} {d : Fd}
def spGetX (a : Ad) : Sp := fun vs H _ E => ∃ (t al : Addr) (st sg W : List Nat) (R : Rel), vs = [.ref t, .str (S st)] ∧ Tb a H t al sg W R ∧ SgOk sg ∧ Odd sg st ∧ ∀ dd H', H dd = none → H' dd = some (.xd [("sign", .str (S st))]) → Same H H' → E (.ref a.cUnk) (some dd) H'
theorem ok_getX (T : Fns K mg a d) (GUnknownSign : FnOk P w K mg base CX0 1 a.eUnk d.eUnk ["self", "sign"] (spErr a.cUnk "sign")) : FnOk P w K mg base (L2.CX P w) 3 a.aTGet d.dTGet ["self", "sign"] (spGetX a) := by
  have GIsSign : FnOk P w K mg base CX0 1 a.aIsSign d.dIsSign ["self", "text"] (spIsSignG a) := ok_isSignG T
  refine T.FTGet.okX scTGet (fun vs H Q E h => ?_) (fun cdv A outer s H vs Q E hr h => ?_)
  · obtain ⟨t, al, st, sg, W, R, rfl, _⟩ := h
    rfl
  · obtain ⟨t, al, st, sg, W, R, rfl, ⟨lp, qs, hT⟩, hsg, hst, k⟩ := h
    obtain ⟨⟨dx, ht⟩, hal, hp, ec⟩ := id hT
    obtain ⟨dxa, ll, vv, hi⟩ := hal.ins
    have clA := T.clA
    have clT := T.clT
    have nTa := T.nTa
    have nTp := T.nTp
    have hl5 := hsg.l
    have htl := hst.2.1
    refine ⟨_, ((pss_cons (ps_if (pt_not (pt_val (pe_meth (pe_fld (pv 0) rfl) T.clA T.mIsSign GIsSign (hr.mono (by decide)) T.bIsSign .nil pass0 (pa_cons (pv 1) pa_nil)))) (pss_one (ps_raise rfl (takes_of rfl rfl rfl rfl) (pmk_oex T.xUnknownSign.ox T.xUnknownSign.iC T.xUnknownSign.tI GUnknownSign (hr.mono (by decide)) T.xUnknownSign.bB .nil pass0 (by rfl) T.xUnknownSign.gB (pa_cons (pv 1) pa_nil)))) pss_nil)
      (pss_one (ps_ret (pe_join (pe_strS (l := []) (by decide +kernel)) (pe_lc (own := [("told", 2), ("out", 3)]) (g := (gTup K 2 (gCons (gName 2) (gCons (gName 3) gNil)))) (by rfl) scTGet.nd (pi_list (pe_fld (pv 0) rfl)) (blkOk_by (own := [("told", 2), ("out", 3)]) (N := ["self", "sign", "told", "out"]) (sc := defScope sTGet) (by decide +kernel)) (fun _ _ _ _ _ => (pg_tup rfl (pgs_cons (pg_name (i := 2) scTGet.nd rfl (Or.inl rfl)) (pgs_cons (pg_name (i := 3) scTGet.nd rfl (Or.inl rfl)) pgs_nil)))) (fun _ _ _ _ _ => (pts_one (pt_cmpR op_eq (pv 2) (pv 1) (nomark _)))) (fun _ _ _ _ _ => (pv 3)))))))), ?_⟩
    walk_at "go"
    refine ⟨al, st, sg, W, rfl, hal, by omega, ?_⟩
    rw [hst.1]
    walk_at "go"
    exact ⟨_, rfl, by show 1 ≤ 1000; decide, fun b hb => ⟨b, st, rfl, ⟨by omega, fun c hc => Nat.lt_trans (hst.2.2 c hc) (by decide)⟩, upd_same, raise1 hb (fun _ _ h => h) fun dd H' h1 h2 h3 => k dd H' h1 h2 h3⟩⟩
end
end
section
set_option Elab.async false
set_option linter.all false
set_option maxRecDepth 100000
set_option maxHeartbeats 4000000
open PySem PySem.Spec PyProof.Rows L2 NSet

local macro_rules | `(tactic| walk_at "side") => `(tactic| exact .inl (by assumption))
local macro_rules | `(tactic| walk_at "go1") => `(tactic| (with_reducible refine iGTup (by assumption) rfl ?_))
local macro_rules | `(tactic| walk_at "go1") => `(tactic| (with_reducible refine iGCons ?_))
local macro_rules | `(tactic| walk_at "go1") => `(tactic| (with_reducible refine iGNil ?_))
local macro_rules | `(tactic| walk_at "go1") => `(tactic| (with_reducible refine iMakeV ?_))
local macro_rules | `(tactic| walk_at "go1") => `(tactic| (with_reducible refine iMakeD ?_))
local macro_rules | `(tactic| walk_at "go1") => `(tactic| (with_reducible refine iLc2S ?_))
local macro_rules | `(tactic| walk_at "go1") => `(tactic| (with_reducible refine iLc2L ?_))
local macro_rules | `(tactic| walk_at "go1") => `(tactic| (with_reducible refine iIStr ?_))
local macro_rules | `(tactic| walk_at "go1") => `(tactic| (with_reducible refine iIxI ?_))
local macro_rules | `(tactic| walk_at "go1") => `(tactic| (with_reducible refine iCMeth ?_))

section
variable {P : Program} {w : World} {K : PySem.W.Frag} {mg : Str → Option Value} {base : Heap} {a : Ad} {d : Fd}
/-- what the written part says of an error's class that the law catches: its field f, a class that it is none of -/
structure ErrX (K : PySem.W.Frag) (a : Ad) (B B' : Addr) (f : Str) : Prop where
  xf : XfC K B
  np : PySem.W.findIn K (.ref B) f = some none
  ec : ExcC K B
  e1 : PySem.W.exmOne K (.ref B) (.ref B) = some true
  k1 : PySem.W.kitOne K (.ref B) (.ref a.cTale) = some true
  k2 : PySem.W.kitOne K (.ref B) (.type "ValueError") = some true
  k3 : PySem.W.kitOne K (.ref B) (.ref B') = some false
theorem iIsX1 {K : PySem.W.Frag} {ab D dd : Addr} {fs : List (Str × V)} {c : V} {u : Value} {b : Bool} {H : Hp} {Q : VK} (C : ExcC K D) (h : H dd = some (.xd fs)) (cl : ClsV c u) (k : PySem.W.kitOne K (.ref D) u = some b) (q : Q (.bl b) H) : rIsX K ab (.ref D) (some dd) [.ref ab, c] H Q := ⟨D, dd, fs, rfl, rfl, C, h, .inl ⟨c, u, b, rfl, cl, k, q⟩⟩
def spNoSign (a : Ad) : Sp := fun vs H Q _ => ∃ (t al : Addr) (st sg W : List Nat) (R : Rel), vs = [.ref t, .str (S st)] ∧ Tb a H t al sg W R ∧ SgOk sg ∧ Odd sg st ∧ ∀ H', Same H H' → Q (.bl true) H'
theorem scNoSign : FnScope ["_law_table", "_law_strange_here", "_law_told", "e"] ["_law_table", "_law_strange_here"] (defScope sNoSign) := ⟨rfl, rfl, rfl, by decide +kernel, rfl, by decide +kernel, by decide +kernel⟩
theorem ok_noSign (T : Fns K mg a d) (BS : ErrX K a a.cUnk a.cBadPair "sign") (GUnknownSign : FnOk P w K mg base CX0 1 a.eUnk d.eUnk ["self", "sign"] (spErr a.cUnk "sign")) :
    FnOk P w K mg base CX0 5 a.aNoSign d.dNoSign ["_law_table", "_law_strange_here"] (spNoSign a) := by
  have GTGet := ok_getX (P := P) (w := w) (base := base) T GUnknownSign
  refine T.FNoSign.ok scNoSign (fun vs H Q E h => ?_) (fun cdv A0 outer s H vs Q E hr h => ?_)
  · obtain ⟨t, al, st, sg, W, R, rfl, _⟩ := h
    rfl
  · obtain ⟨t, al, st, sg, W, R, rfl, hT, hsg, hst, kq⟩ := h
    obtain ⟨dx, lp, ht⟩ := hT.ins
    refine ⟨_, (pss_cons (ps_try_as (i := 3) (tb := fun W => tAsg (tIxI a.cTable (fun vs H Q E => spGetX a (vs ++ []) H Q E) (WE W) (tVar 0) (tVar 1)) (gName 2)) (ts := _) (Wout := fun _ _ _ _ => False) rfl rfl scNoSign.nd rfl rfl ⟨rfl, by decide, Or.inl T.gcUnknownSign⟩ takes0
      (fun W pn xe tk _ => pss_one (ps_set (i := 2) scNoSign.nd rfl (Or.inl rfl) (pe_ixI T.mTGet.at_ T.fnTGet T.mTGet.fn (GTGet.raw T.bTGet .nil) (hr.mono (by decide)) (fun σ => passAt tk σ) (pv 0) (pv 1) (fun _ _ => rfl))))
      (fun ab oe cls db pn hz hf => pss_one (ps_ret (pe_and (pe_cmpR op_eq (pe_xf BS.xf BS.np hz hf (pv 3)) (pv 1) (nomark _)) (pe_and (pe_callB (call_isX hz hf) (by rfl) T.z_isinstance (by decide +kernel) (pa_cons (pv 3) (pa_cons (pe_glob (v := .ref a.cTale) (by rfl) T.gcTaleError rfl) pa_nil)))
        (pe_and (pe_callB (call_isX hz hf) (by rfl) T.z_isinstance (by decide +kernel) (pa_cons (pv 3) (pa_cons (pe_bltn (v := .ty "ValueError") (by rfl) T.z_VE (by decide +kernel) rfl) pa_nil)))
        (pe_one (pe_not (pe_callB (call_isX hz hf) (by rfl) T.z_isinstance (by decide +kernel) (pa_cons (pv 3) (pa_cons (pe_glob (v := .ref a.cBadPair) (by rfl) T.gcBadPair rfl) pa_nil)))))))))))
      (pss_one (ps_ret pe_bl))), ?_⟩
    refine iSeq ?_
    refine iAsg ?_
    walk_at "go"
    refine ⟨t, al, st, sg, W, R, rfl, hT, hsg, hst, fun dd H1 h1 h2 s1 => ?_⟩
    refine ⟨true, BS.e1, fun _ ab hab => ?_, fun q => Bool.noConfusion q⟩
    walk_at "go"
    refine ⟨_, rfl, rfl, rfl, dd, _, _, rfl, h2, rfl, ?_⟩
    walk_at "go"
    refine iIsX1 BS.ec h2 (.own a.cTale) BS.k1 ?_
    walk_at "go"
    refine iIsX1 BS.ec h2 (.ty "ValueError") BS.k2 ?_
    walk_at "go"
    refine iIsX1 BS.ec h2 (.own a.cBadPair) BS.k3 ?_
    walk_at "go"
    exact kq H1 s1
end
end
section
set_option Elab.async false
set_option linter.all false
set_option maxRecDepth 100000
set_option maxHeartbeats 4000000
open PySem PySem.Spec PyProof.Rows L2 NSet

local macro_rules | `(tactic| walk_at "side") => `(tactic| exact .inl (by assumption))
local macro_rules | `(tactic| walk_at "go1") => `(tactic| (with_reducible refine iGTup (by assumption) rfl ?_))
local macro_rules | `(tactic| walk_at "go1") => `(tactic| (with_reducible refine iGCons ?_))
local macro_rules | `(tactic| walk_at "go1") => `(tactic| (with_reducible refine iGNil ?_))
local macro_rules | `(tactic| walk_at "go1") => `(tactic| (with_reducible refine iMakeV ?_))
local macro_rules | `(tactic| walk_at "go1") => `(tactic| (with_reducible refine iMakeD ?_))
local macro_rules | `(tactic| walk_at "go1") => `(tactic| (with_reducible refine iLc2S ?_))
local macro_rules | `(tactic| walk_at "go1") => `(tactic| (with_reducible refine iLc2L ?_))
local macro_rules | `(tactic| walk_at "go1") => `(tactic| (with_reducible refine iIStr ?_))
local macro_rules | `(tactic| walk_at "go1") => `(tactic| (with_reducible refine iIxI ?_))
local macro_rules | `(tactic| walk_at "go1") => `(tactic| (with_reducible refine iCMeth ?_))

section
variable {P : Program} {w : World} {K : PySem.W.Frag} {mg : Str → Option Value} {base : Heap} {a : Ad} {d : Fd}
/-- a list of pairs of texts -/
structure PtAt (H : Hp) (p : Addr) (qs : List (Addr × List Nat × List Nat)) : Prop where
  l : H p = some (.lst (qs.map fun q => V.ref q.1))
  t : ∀ q ∈ qs, H q.1 = some (.tup [.str (S q.2.1), .str (S q.2.2)])
theorem PtAt.same {H H' : Hp} {p : Addr} {qs : List (Addr × List Nat × List Nat)} (h : PtAt H p qs) (s : Same H H') : PtAt H' p qs := ⟨s _ _ h.l, fun q hq => s _ _ (h.t q hq)⟩
def goodP (sg : List Nat) (q : Addr × List Nat × List Nat) : Bool := signB sg q.2.1 && signB sg q.2.2
def spInitB (a : Ad) : Sp := fun vs H _ E => ∃ (t al p dx : Addr) (sg W : List Nat) (qs : List (Addr × List Nat × List Nat)) (k0 : Nat) (q0 : Addr × List Nat × List Nat), vs = [.ref t, .ref al, .ref p] ∧ H t = some (.ins a.cTable dx []) ∧ AlG a.cAlphabet H al sg W ∧ SgOk sg ∧ PtAt H p qs ∧ qs.length ≤ 4000 ∧ (∀ q ∈ qs, q.2.1.length ≤ 10 ∧ q.2.2.length ≤ 10) ∧
  k0 ≤ 31 ∧ qs[k0]? = some q0 ∧ goodP sg q0 = false ∧ (∀ j q, j < k0 → qs[j]? = some q → goodP sg q = true) ∧
  ∀ dd H', H dd = none → H' dd = some (.xd [("index", .int (k0 : Int))]) → Same H H' → E (.ref a.cBadPair) (some dd) H'
theorem ok_initB (T : Fns K mg a d) (GBadPair : FnOk P w K mg base CX0 1 a.eBadPair d.eBadPair ["self", "index"] (spErrI a.cBadPair "index")) : FnOk P w K mg base (L2N.CX P w) 3 a.aTInit d.dTInit ["self", "alphabet", "pairs"] (spInitB a) := by
  have GIsSign : FnOk P w K mg base CX0 1 a.aIsSign d.dIsSign ["self", "text"] (spIsSignG a) := ok_isSignG T
  refine okN T.FTInit scTInit (fun vs H Q E h => ?_) (fun cdv A outer s H vs Q E hr h => ?_)
  · obtain ⟨t, al, p, dx, sg, W, qs, k0, q0, rfl, _⟩ := h
    rfl
  · obtain ⟨t, al, p, dx, sg, W, qs, k0, q0, rfl, ht, hal, hsg, hp, hl, hm, hk, hq0, hb0, hg, k⟩ := h
    refine ⟨_, ((pss_cons (ps_for (passes_of rfl) rfl (pi_enum (by rfl) T.z_enum (pa_cons (pv 2) pa_nil)) (pg_tup rfl (pgs_cons (pg_name (i := 3) scTInit.nd rfl (Or.inl rfl)) (pgs_cons (pg_tup rfl (pgs_cons (pg_name (i := 4) scTInit.nd rfl (Or.inl rfl)) (pgs_cons (pg_name (i := 5) scTInit.nd rfl (Or.inl rfl)) pgs_nil))) pgs_nil))) (pss_one (ps_if (pt_not (PW.pt (pw_and (pt_val (pe_meth (pv 1) T.clA T.mIsSign GIsSign (hr.mono (by decide)) T.bIsSign .nil pass0 (pa_cons (pv 4) pa_nil))) (pw_and1 (pt_val (pe_meth (pv 1) T.clA T.mIsSign GIsSign (hr.mono (by decide)) T.bIsSign .nil pass0 (pa_cons (pv 5) pa_nil))))))) (pss_one (L2N.ps_raise rfl (L2N.takes_of rfl rfl rfl rfl) (pmk_oexN T.xBadPair.ox T.xBadPair.iC T.xBadPair.tI GBadPair (hr.mono (by decide)) T.xBadPair.bB pass0 (by rfl) T.xBadPair.gB (pa_cons (pv 3) pa_nil)))) pss_nil)))
      (pss_cons (ps_fld (pv 0) (pv 1) rfl)
      (pss_one (ps_fld (pv 0) (pe_callB (cr_sortN rfl) (by rfl) T.z_sorted (by decide +kernel) (pa_cons (pe_callTy (cr_setN rfl (Nat.lt_of_succ_lt hr.unitu)) (by rfl) T.z_set (by decide +kernel) (pa_cons (pe_lc (own := [("told", 4), ("out", 5)]) (g := (gTup K 2 (gCons (gName 4) (gCons (gName 5) gNil)))) (by rfl) scTInit.nd (pi_list (pv 2)) (blkOk_by (own := [("told", 4), ("out", 5)]) (N := ["self", "alphabet", "pairs", "index", "told", "out"]) (sc := defScope sTInit) (by decide +kernel)) (fun _ _ _ _ _ => (pg_tup rfl (pgs_cons (pg_name (i := 4) scTInit.nd rfl (Or.inl rfl)) (pgs_cons (pg_name (i := 5) scTInit.nd rfl (Or.inl rfl)) pgs_nil)))) (fun _ _ _ _ _ => pts_nil) (fun _ _ _ _ _ => (pe_tup (pa_cons (pv 4) (pa_cons (pv 5) pa_nil))))) pa_nil)) pa_nil)) rfl))))), ?_⟩
    have clA := T.clA
    have hpl := hp.l
    refine ⟨_, rfl, p, _, rfl, SqL.of hpl, for_it (walk_enum (K := K) (a := p) (xs := qs.map fun q => V.ref q.1)) (fun i σ H' => Stop (∃ (v3 v4 v5 : Option V), σ = [some (.ref t), some (.ref al), some (.ref p), v3, v4, v5] ∧ Same H H' ∧ i ≤ k0)) ⟨none, none, none, rfl, fun _ _ h => h, Nat.zero_le _⟩ (fun i σ H' _ hP => ?_) ?_ ?_⟩
    · obtain ⟨v3, v4, v5, rfl, s, _⟩ := hP
      exact SqL.of (s _ _ hpl)
    · rintro i x σ H4 H5 hi ⟨v3, v4, v5, rfl, s, hik⟩ ⟨Tp, x1, y1, rfl, hTp, rfl, hx1, hy1⟩
      cases hx1
      have hy1 : (qs.map fun q => V.ref q.1)[i]? = some y1 := hy1
      rw [List.getElem?_map] at hy1
      obtain ⟨q, hq, rfl⟩ := Option.map_eq_some_iff.mp hy1
      have hqm := List.mem_of_getElem? hq
      have s5 := Vk.Same.trans s (Same.upd_new (o := .tup [.int (i : Nat), .ref q.1]) hTp)
      have hT5 : (upd H4 Tp (.tup [.int (i : Nat), .ref q.1])) Tp = some (.tup [.int (i : Nat), .ref q.1]) := upd_same
      generalize upd H4 Tp (.tup [.int (i : Nat), .ref q.1]) = H5 at s5 hT5 ⊢
      have hqt := s5 _ _ (hp.t q hqm)
      have hal5 := hal.same s5
      obtain ⟨dxa, ll, vv, hi5⟩ := hal5.ins
      have hl5 := hsg.l
      have hm5 := hm q hqm
      have raise : goodP sg q = false → i = k0 := fun hb => by
        rcases Nat.lt_or_ge i k0 with g | g
        · rw [hg i q g hq] at hb
          cases hb
        · omega
      have go : goodP sg q = true → i + 1 ≤ k0 := fun hb => by
        rcases Nat.lt_or_ge i k0 with g | g
        · omega
        · have : i = k0 := by omega
          rw [this, hq0] at hq
          cases hq
          rw [hb] at hb0
          cases hb0
      walk_at "go"
      refine ⟨al, q.2.1, sg, W, rfl, hal5, by omega, ?_⟩
      cases h1 : signB sg q.2.1 with
      | false =>
        have e := raise (by unfold goodP; rw [h1, Bool.false_and])
        subst e
        walk_at "go"
        exact ⟨_, rfl, by show 1 ≤ 1000; decide, fun b hb => ⟨b, i, rfl, hk, upd_same, raise1 hb s5 fun dd H' h1 h2 h3 => k dd H' h1 h2 h3⟩⟩
      | true =>
        walk_at "go"
        refine ⟨al, q.2.2, sg, W, rfl, hal5, by omega, ?_⟩
        cases h2 : signB sg q.2.2 with
        | false =>
          have e := raise (by unfold goodP; rw [h2, Bool.and_false])
          subst e
          walk_at "go"
          exact ⟨_, rfl, by show 1 ≤ 1000; decide, fun b hb => ⟨b, i, rfl, hk, upd_same, raise1 hb s5 fun dd H' h1 h2 h3 => k dd H' h1 h2 h3⟩⟩
        | true =>
          walk_at "go"
          exact ⟨_, _, _, rfl, s5, go (by unfold goodP; rw [h1, h2]; rfl)⟩
    · rintro σ H4 ⟨v3, v4, v5, rfl, s, hik⟩
      have := (List.getElem?_eq_some_iff.mp hq0).1
      rw [List.length_map] at hik
      omega
end
end
section
set_option Elab.async false
set_option linter.all false
set_option maxRecDepth 100000
set_option maxHeartbeats 4000000
open PySem PySem.Spec PyProof.Rows L2 NSet

local macro_rules | `(tactic| walk_at "side") => `(tactic| exact .inl (by assumption))
local macro_rules | `(tactic| walk_at "go1") => `(tactic| (with_reducible refine iGTup (by assumption) rfl ?_))
local macro_rules | `(tactic| walk_at "go1") => `(tactic| (with_reducible refine iGCons ?_))
local macro_rules | `(tactic| walk_at "go1") => `(tactic| (with_reducible refine iGNil ?_))
local macro_rules | `(tactic| walk_at "go1") => `(tactic| (with_reducible refine iMakeV ?_))
local macro_rules | `(tactic| walk_at "go1") => `(tactic| (with_reducible refine iMakeD ?_))
local macro_rules | `(tactic| walk_at "go1") => `(tactic| (with_reducible refine iLc2S ?_))
local macro_rules | `(tactic| walk_at "go1") => `(tactic| (with_reducible refine iLc2L ?_))
local macro_rules | `(tactic| walk_at "go1") => `(tactic| (with_reducible refine iIStr ?_))
local macro_rules | `(tactic| walk_at "go1") => `(tactic| (with_reducible refine iIxI ?_))
local macro_rules | `(tactic| walk_at "go1") => `(tactic| (with_reducible refine iCMeth ?_))

section
variable {P : Program} {w : World} {K : PySem.W.Frag} {mg : Str → Option Value} {base : Heap} {a : Ad} {d : Fd}
def spReadX (a : Ad) : Sp := fun vs H _ E => ∃ (al : Addr) (wr sg W : List Nat) (es : List (List Nat)) (z : Nat), vs = [.ref a.cTable, .ref al, .str (S wr)] ∧ AlG a.cAlphabet H al sg W ∧ SgOk sg ∧ wr.length ≤ 2000 ∧ Txt.split (S wr) (S [32]) = es.map S ∧ es.length ≤ 31 ∧ (∀ t ∈ es, t.length ≤ 60 ∧ ∀ c ∈ t, c < 128) ∧ Due sg es (z : Int) ∧
  ∀ dd H', H dd = none → H' dd = some (.xd [("index", .int (z : Int))]) → Same H H' → E (.ref a.cBadEntry) (some dd) H'
theorem scTRead : FnScope ["cls", "alphabet", "written", "entries", "signs", "index", "entry", "out"] ["cls", "alphabet", "written"] (defScope sTRead) := ⟨rfl, rfl, rfl, by decide +kernel, rfl, by decide +kernel, by decide +kernel⟩
theorem ok_readX (T : Fns K mg a d) (MT : Mk K a.cTable a.aTInit) (bTInit : Binds K d.dTInit ["self", "alphabet", "pairs"] []) (GBadEntry : FnOk P w K mg base CX0 1 a.eBadEntry d.eBadEntry ["self", "index"] (spErrI a.cBadEntry "index")) : FnOk P w K mg base (L2N.CX P w) 5 a.aTRead d.dTRead ["cls", "alphabet", "written"] (spReadX a) := by
  have GPIsEntry := ok_entry (P := P) (w := w) (base := base) T
  have GTInit := ok_init (P := P) (w := w) (base := base) T
  refine okN T.FTRead scTRead (fun vs H Q E h => ?_) (fun cdv A outer s H vs Q E hr h => ?_)
  · obtain ⟨al, wr, sg, W, es, z, rfl, _⟩ := h
    rfl
  · obtain ⟨al, wr, sg, W, es, z, rfl, hal, hsg, hwl, hsp, hel, het, hdue, k⟩ := h
    have clA := T.clA
    have hl5 := hsg.l
    obtain ⟨dxa, ll, vv, hi⟩ := hal.ins
    have nS := T.nS
    refine ⟨_, ((pss_cons (ps_set (i := 3) scTRead.nd rfl (Or.inl rfl) (pe_split (pv 2) (pe_strS (l := [32]) (by decide +kernel))))
      (pss_cons (ps_set (i := 4) scTRead.nd rfl (Or.inl rfl) (pe_fld (pv 1) rfl))
      (pss_cons (ps_for (passes_of rfl) rfl (pi_enum (by rfl) T.z_enum (pa_cons (pv 3) pa_nil)) (pg_tup rfl (pgs_cons (pg_name (i := 5) scTRead.nd rfl (Or.inl rfl)) (pgs_cons (pg_name (i := 6) scTRead.nd rfl (Or.inl rfl)) pgs_nil))) (pss_one (ps_if (PW.pt (pw_or (pt_cmpR op_ge (pv 5) (pe_callB call_lenS (by rfl) T.z_len (by decide +kernel) (pa_cons (pv 4) pa_nil)) (nomark _)) (pw_or1 (pt_not (pt_val (pe_call GPIsEntry (hr.mono (by decide)) (by rfl) T.gPIsEntry T.FPIsEntry.kp T.bPIsEntry .nil pass0 (pa_cons (pv 1) (pa_cons (pe_ix ix_str (pv 4) (pv 5) (fun _ _ => rfl)) (pa_cons (pv 6) pa_nil))))))))) (pss_one (L2N.ps_raise rfl (L2N.takes_of rfl rfl rfl rfl) (pmk_oexN T.xBadEntry.ox T.xBadEntry.iC T.xBadEntry.tI GBadEntry (hr.mono (by decide)) T.xBadEntry.bB pass0 (by rfl) T.xBadEntry.gB (pa_cons (pv 5) pa_nil)))) pss_nil)))
      (pss_cons (ps_if (pt_cmpR op_lt (pe_callB call_len_seq (by rfl) T.z_len (by decide +kernel) (pa_cons (pv 3) pa_nil)) (pe_callB call_lenS (by rfl) T.z_len (by decide +kernel) (pa_cons (pv 4) pa_nil)) (nomark _)) (pss_one (L2N.ps_raise rfl (L2N.takes_of rfl rfl rfl rfl) (pmk_oexN T.xBadEntry.ox T.xBadEntry.iC T.xBadEntry.tI GBadEntry (hr.mono (by decide)) T.xBadEntry.bB pass0 (by rfl) T.xBadEntry.gB (pa_cons (pe_callB call_len_seq (by rfl) T.z_len (by decide +kernel) (pa_cons (pv 3) pa_nil)) pa_nil)))) pss_nil)
      (pss_one (ps_ret (pe_makeV (pv 0) MT GTInit (hr.mono (by decide)) bTInit .nil passE (pa_cons (pv 1) (pa_cons (pe_lc2 (own := [("entry", 6), ("out", 7)]) (vs1 := [7]) (g := (gName 6)) (g1 := (gName 7)) (by rfl) scTRead.nd (pi_list (pv 3)) (blkOk_by (own := [("entry", 6), ("out", 7)]) (N := ["cls", "alphabet", "written", "entries", "signs", "index", "entry", "out"]) (sc := defScope sTRead) (by decide +kernel)) (by decide) (fun _ _ _ _ _ => (pg_name (i := 6) scTRead.nd rfl (Or.inl rfl))) (fun _ _ _ _ _ => pts_nil) (fun _ _ _ _ _ => (pi_str (pe_slice sl_str (pv 6) (po_some pe_int) po_none))) (fun _ _ _ _ _ => (pg_name (i := 7) scTRead.nd rfl (Or.inl rfl))) (fun _ _ _ _ _ => (pts_one (pt_cmpR op_ne (pv 7) (pe_strS (l := [46]) (by decide +kernel)) (nomark _)))) (fun _ _ _ _ _ => (pe_tup (pa_cons (pe_ix ix_str (pv 6) pe_int (fun _ _ => rfl)) (pa_cons (pv 7) pa_nil))))) pa_nil)))))))))), ?_⟩
    walk_at "go"
    rename_i p hpn
    have hpl : (upd H p (.lst ((Txt.split (S wr) (S [32])).map V.str))) p = some (.lst (es.map fun t => V.str (S t))) := by
      rw [upd_same, hsp, List.map_map]
      rfl
    have s0 : Same H (upd H p (.lst ((Txt.split (S wr) (S [32])).map V.str))) := Same.upd_new hpn
    generalize upd H p (.lst ((Txt.split (S wr) (S [32])).map V.str)) = H0 at hpl s0 ⊢
    refine ⟨_, rfl, p, _, rfl, SqL.of hpl, for_it (walk_enum (K := K) (a := p) (xs := es.map fun t => V.str (S t))) (fun i σ H' => Stop (∃ (v5 v6 v7 : Option V), σ = [some (.ref a.cTable), some (.ref al), some (.str (S wr)), some (.ref p), some (.str (S sg)), v5, v6, v7] ∧ Same H0 H' ∧ i ≤ sg.length ∧ ∀ j, j < i → ¬ badAt sg es j)) ⟨none, none, none, rfl, fun _ _ h => h, Nat.zero_le _, fun j hj => absurd hj (Nat.not_lt_zero _)⟩ (fun i σ H' _ hP => ?_) ?_ ?_⟩
    · obtain ⟨_, _, _, rfl, s, _⟩ := hP
      exact SqL.of (s _ _ hpl)
    · rintro i x σ H4 H5 hi ⟨v5, v6, v7, rfl, s, hik, hnb⟩ ⟨Tp, x1, y1, rfl, hTp, rfl, hx1, hy1⟩
      cases hx1
      have hy1 : (es.map fun t => V.str (S t))[i]? = some y1 := hy1
      rw [List.getElem?_map] at hy1
      obtain ⟨t, ht, rfl⟩ := Option.map_eq_some_iff.mp hy1
      have hil := (List.getElem?_eq_some_iff.mp ht).1
      have htm := het t (List.mem_of_getElem? ht)
      have s5 := Vk.Same.trans s (Same.upd_new (o := .tup [.int (i : Nat), .str (S t)]) hTp)
      have hT5 : (upd H4 Tp (.tup [.int (i : Nat), .str (S t)])) Tp = some (.tup [.int (i : Nat), .str (S t)]) := upd_same
      generalize upd H4 Tp (.tup [.int (i : Nat), .str (S t)]) = H5 at s5 hT5 ⊢
      have s05 := Vk.Same.trans s0 s5
      have hal5 := hal.same s05
      by_cases hlt : i < sg.length
      · have hc : sg[i]? = some sg[i] := List.getElem?_eq_getElem hlt
        generalize sg[i] = c at hc
        walk_at "go"
        refine ⟨al, c, t, sg, W, rfl, hal5, hsg, htm.1, fun c hc => Nat.lt_trans (htm.2 c hc) (by decide), fun H6 s6 => ?_⟩
        cases hb : entB sg c t with
        | true =>
          walk_at "go"
          refine ⟨_, _, _, rfl, Vk.Same.trans s5 s6, by omega, fun j hj => ?_⟩
          by_cases g : j < i
          · exact hnb j g
          · have g2 : j = i := by omega
            subst g2
            rintro ⟨c', t', h1, h2, h3⟩
            rw [hc] at h1
            rw [ht] at h2
            cases h1
            cases h2
            rw [hb] at h3
            cases h3
        | false =>
          have ez : z = i := by have := Due.uniq hdue (.inl ⟨i, ⟨c, t, hc, ht, hb⟩, hnb, rfl⟩); omega
          subst ez
          walk_at "go"
          exact ⟨_, rfl, by show 1 ≤ 1000; decide, fun b hb => ⟨b, z, rfl, by omega, upd_same, raise1 hb (Vk.Same.trans s05 s6) fun dd H' h1 h2 h3 => k dd H' h1 h2 h3⟩⟩
      · have e : i = sg.length := by omega
        have hd : Due sg es (i : Int) := .inr ⟨fun j hj => by
          obtain ⟨c, t', h1, h2, h3⟩ := id hj
          exact hnb j (by rw [e]; exact (List.getElem?_eq_some_iff.mp h1).1) hj, by rw [if_neg (by omega), if_pos (by omega), e]⟩
        have ez : z = i := by have := Due.uniq hdue hd; omega
        subst ez
        walk_at "go"
        exact ⟨_, rfl, by show 1 ≤ 1000; decide, fun b hb => ⟨b, z, rfl, by omega, upd_same, raise1 hb s05 fun dd H' h1 h2 h3 => k dd H' h1 h2 h3⟩⟩
    · rintro σ H4 ⟨v5, v6, v7, rfl, s, hik, hnb⟩
      rw [List.length_map] at hik hnb
      have hn : ∀ j, ¬ badAt sg es j := fun j hj => by
        obtain ⟨c, t', h1, h2, h3⟩ := id hj
        exact hnb j (List.getElem?_eq_some_iff.mp h2).1 hj
      have hp4 := s _ _ hpl
      have hle : es.length < sg.length := by
        rcases Nat.lt_or_ge es.length sg.length with g | g
        · exact g
        · have := Due.uniq hdue (.inr ⟨hn, by rw [if_neg (by omega), if_neg (by omega)]⟩)
          omega
      have ez : z = es.length := by have := Due.uniq hdue (.inr ⟨hn, (if_pos hle).symm⟩); omega
      walk_at "go"
      · exact ⟨_, rfl, p, _, rfl, .inl (SqL.of hp4), by show 1 ≤ 1000; decide, fun b hb => ⟨b, z, by rw [List.length_map, ez]; rfl, by omega, upd_same, raise1 hb (Vk.Same.trans s0 s) fun dd H' h1 h2 h3 => k dd H' h1 h2 h3⟩⟩
      · rename_i h9 pD hD
        rw [List.length_map] at h9
        omega
end
end
section
set_option Elab.async false
set_option linter.all false
set_option maxRecDepth 100000
set_option maxHeartbeats 4000000
open PySem PySem.Spec PyProof.Rows L2 NSet

local macro_rules | `(tactic| walk_at "side") => `(tactic| exact .inl (by assumption))
local macro_rules | `(tactic| walk_at "go1") => `(tactic| (with_reducible refine iGTup (by assumption) rfl ?_))
local macro_rules | `(tactic| walk_at "go1") => `(tactic| (with_reducible refine iGCons ?_))
local macro_rules | `(tactic| walk_at "go1") => `(tactic| (with_reducible refine iGNil ?_))
local macro_rules | `(tactic| walk_at "go1") => `(tactic| (with_reducible refine iMakeV ?_))
local macro_rules | `(tactic| walk_at "go1") => `(tactic| (with_reducible refine iMakeD ?_))
local macro_rules | `(tactic| walk_at "go1") => `(tactic| (with_reducible refine iLc2S ?_))
local macro_rules | `(tactic| walk_at "go1") => `(tactic| (with_reducible refine iLc2L ?_))
local macro_rules | `(tactic| walk_at "go1") => `(tactic| (with_reducible refine iIStr ?_))
local macro_rules | `(tactic| walk_at "go1") => `(tactic| (with_reducible refine iIxI ?_))
local macro_rules | `(tactic| walk_at "go1") => `(tactic| (with_reducible refine iCMeth ?_))

section
variable {P : Program} {w : World} {K : PySem.W.Frag} {mg : Str → Option Value} {base : Heap} {a : Ad} {d : Fd}
local macro_rules | `(tactic| walk_at "go1") => `(tactic| (with_reducible refine iMakeV ?_))
theorem due_neg {sg : List Nat} {es : List (List Nat)} (h : Due sg es (-1)) : (∀ j, ¬ badAt sg es j) ∧ es.length = sg.length := by
  rcases h with ⟨k, _, _, e⟩ | ⟨h, e⟩
  · omega
  · refine ⟨h, ?_⟩
    by_cases h1 : es.length < sg.length
    · rw [if_pos h1] at e
      omega
    · rw [if_neg h1] at e
      by_cases h2 : sg.length < es.length
      · rw [if_pos h2] at e
        omega
      · omega
def outE (t : List Nat) : List Nat := (t.drop 2).filter fun o => decide (o ≠ 46)
def entP (es : List (List Nat)) : List (Nat × Nat) := es.flatMap fun t => (outE t).map fun o => (t.headD 0, o)
theorem entP_len {es : List (List Nat)} (h : ∀ t ∈ es, t.length ≤ 60) : (entP es).length ≤ es.length * 60 := by
  induction es with
  | nil => simp [entP]
  | cons t es ih =>
    have h1 := ih fun t ht => h t (List.mem_cons_of_mem _ ht)
    have h2 := List.length_filter_le (fun o => decide (o ≠ 46)) (t.drop 2)
    have h3 := h t List.mem_cons_self
    rw [List.length_drop] at h2
    unfold entP at h1 ⊢
    rw [List.flatMap_cons, List.length_append, List.length_map, List.length_cons]
    unfold outE at h1 ⊢
    omega
theorem ent_shape {sg : List Nat} {c : Nat} {t : List Nat} (h : entB sg c t = true) : t = c :: 62 :: t.drop 2 ∧ ∀ o ∈ outE t, o ∈ sg := by
  unfold entB at h
  rw [Bool.and_eq_true, decide_eq_true_iff] at h
  refine ⟨?_, fun o ho => ?_⟩
  · have := List.take_append_drop 2 t
    rw [h.1] at this
    exact this.symm
  · unfold outE at ho
    obtain ⟨h1, h2⟩ := List.mem_filter.mp ho
    rw [decide_eq_true_iff] at h2
    rcases Bool.or_eq_true_iff.mp h.2 with e | e
    · rw [decide_eq_true_iff] at e
      rw [e] at h1
      exact absurd (List.mem_singleton.mp h1) h2
    · rw [Bool.and_eq_true] at e
      exact (ascB_iff.mp e.2).1 o h1
def spRead (a : Ad) : Sp := fun vs H Q _ => ∃ (al : Addr) (wr sg W : List Nat) (es : List (List Nat)), vs = [.ref a.cTable, .ref al, .str (S wr)] ∧ AlG a.cAlphabet H al sg W ∧ SgOk sg ∧ wr.length ≤ 2000 ∧ Txt.split (S wr) (S [32]) = es.map S ∧ (∀ t ∈ es, t.length ≤ 60 ∧ ∀ c ∈ t, c < 128) ∧ Due sg es (-1) ∧
  ∀ t H', Same H H' → Tb a H' t al sg W (relQ (entP es)) → Q (.ref t) H'
theorem ok_read (T : Fns K mg a d) (MT : Mk K a.cTable a.aTInit) (bTInit : Binds K d.dTInit ["self", "alphabet", "pairs"] []) : FnOk P w K mg base (L2.CX P w) 5 a.aTRead d.dTRead ["cls", "alphabet", "written"] (spRead a) := by
  have GPIsEntry := ok_entry (P := P) (w := w) (base := base) T
  have GTInit := ok_init (P := P) (w := w) (base := base) T
  have GBadEntry : FnOk P w K mg base CX0 1 a.eBadEntry d.eBadEntry ["self", "index"] (fun _ _ _ _ => False) := ⟨fun _ _ _ _ h => h.elim, fun _ _ _ _ _ _ _ _ _ _ _ _ _ h => h.elim⟩
  refine T.FTRead.okX scTRead (fun vs H Q E h => ?_) (fun cdv A outer s H vs Q E hr h => ?_)
  · obtain ⟨al, wr, sg, W, es, rfl, _⟩ := h
    rfl
  · obtain ⟨al, wr, sg, W, es, rfl, hal, hsg, hwl, hsp, het, hdue, k⟩ := h
    obtain ⟨hn, hel⟩ := due_neg hdue
    have clA := T.clA
    have hl5 := hsg.l
    obtain ⟨dxa, ll, vv, hi⟩ := hal.ins
    have nS := T.nS
    have good : ∀ (i c : Nat) (t : List Nat), sg[i]? = some c → es[i]? = some t → entB sg c t = true := fun i c t h1 h2 => by
      cases hb : entB sg c t with
      | true => rfl
      | false => exact absurd ⟨c, t, h1, h2, hb⟩ (hn i)
    refine ⟨_, ((pss_cons (ps_set (i := 3) scTRead.nd rfl (Or.inl rfl) (pe_split (pv 2) (pe_strS (l := [32]) (by decide +kernel))))
      (pss_cons (ps_set (i := 4) scTRead.nd rfl (Or.inl rfl) (pe_fld (pv 1) rfl))
      (pss_cons (ps_for (passes_of rfl) rfl (pi_enum (by rfl) T.z_enum (pa_cons (pv 3) pa_nil)) (pg_tup rfl (pgs_cons (pg_name (i := 5) scTRead.nd rfl (Or.inl rfl)) (pgs_cons (pg_name (i := 6) scTRead.nd rfl (Or.inl rfl)) pgs_nil))) (pss_one (ps_if (PW.pt (pw_or (pt_cmpR op_ge (pv 5) (pe_callB call_lenS (by rfl) T.z_len (by decide +kernel) (pa_cons (pv 4) pa_nil)) (nomark _)) (pw_or1 (pt_not (pt_val (pe_call GPIsEntry (hr.mono (by decide)) (by rfl) T.gPIsEntry T.FPIsEntry.kp T.bPIsEntry .nil pass0 (pa_cons (pv 1) (pa_cons (pe_ix ix_str (pv 4) (pv 5) (fun _ _ => rfl)) (pa_cons (pv 6) pa_nil))))))))) (pss_one (ps_raise rfl (takes_of rfl rfl rfl rfl) (pmk_oex T.xBadEntry.ox T.xBadEntry.iC T.xBadEntry.tI GBadEntry (hr.mono (by decide)) T.xBadEntry.bB .nil pass0 (by rfl) T.xBadEntry.gB (pa_cons (pv 5) pa_nil)))) pss_nil)))
      (pss_cons (ps_if (pt_cmpR op_lt (pe_callB call_len_seq (by rfl) T.z_len (by decide +kernel) (pa_cons (pv 3) pa_nil)) (pe_callB call_lenS (by rfl) T.z_len (by decide +kernel) (pa_cons (pv 4) pa_nil)) (nomark _)) (pss_one (ps_raise rfl (takes_of rfl rfl rfl rfl) (pmk_oex T.xBadEntry.ox T.xBadEntry.iC T.xBadEntry.tI GBadEntry (hr.mono (by decide)) T.xBadEntry.bB .nil pass0 (by rfl) T.xBadEntry.gB (pa_cons (pe_callB call_len_seq (by rfl) T.z_len (by decide +kernel) (pa_cons (pv 3) pa_nil)) pa_nil)))) pss_nil)
      (pss_one (ps_ret (pe_makeV (pv 0) MT GTInit (hr.mono (by decide)) bTInit .nil (passes_call (takes_of rfl rfl rfl rfl) (fun _ _ _ _ h => h)) (pa_cons (pv 1) (pa_cons (pe_lc2 (own := [("entry", 6), ("out", 7)]) (vs1 := [7]) (g := (gName 6)) (g1 := (gName 7)) (by rfl) scTRead.nd (pi_list (pv 3)) (blkOk_by (own := [("entry", 6), ("out", 7)]) (N := ["cls", "alphabet", "written", "entries", "signs", "index", "entry", "out"]) (sc := defScope sTRead) (by decide +kernel)) (by decide) (fun _ _ _ _ _ => (pg_name (i := 6) scTRead.nd rfl (Or.inl rfl))) (fun _ _ _ _ _ => pts_nil) (fun _ _ _ _ _ => (pi_str (pe_slice sl_str (pv 6) (po_some pe_int) po_none))) (fun _ _ _ _ _ => (pg_name (i := 7) scTRead.nd rfl (Or.inl rfl))) (fun _ _ _ _ _ => (pts_one (pt_cmpR op_ne (pv 7) (pe_strS (l := [46]) (by decide +kernel)) (nomark _)))) (fun _ _ _ _ _ => (pe_tup (pa_cons (pe_ix ix_str (pv 6) pe_int (fun _ _ => rfl)) (pa_cons (pv 7) pa_nil))))) pa_nil)))))))))), ?_⟩
    walk_at "go"
    rename_i p hpn
    have hpl : (upd H p (.lst ((Txt.split (S wr) (S [32])).map V.str))) p = some (.lst (es.map fun t => V.str (S t))) := by
      rw [upd_same, hsp, List.map_map]
      rfl
    have s0 : Same H (upd H p (.lst ((Txt.split (S wr) (S [32])).map V.str))) := Same.upd_new hpn
    generalize upd H p (.lst ((Txt.split (S wr) (S [32])).map V.str)) = H0 at hpl s0 ⊢
    refine ⟨_, rfl, p, _, rfl, SqL.of hpl, for_it (walk_enum (K := K) (a := p) (xs := es.map fun t => V.str (S t))) (fun i σ H' => Stop (∃ (v5 v6 v7 : Option V), σ = [some (.ref a.cTable), some (.ref al), some (.str (S wr)), some (.ref p), some (.str (S sg)), v5, v6, v7] ∧ Same H0 H')) ⟨none, none, none, rfl, fun _ _ h => h⟩ (fun i σ H' _ hP => ?_) ?_ ?_⟩
    · obtain ⟨_, _, _, rfl, s⟩ := hP
      exact SqL.of (s _ _ hpl)
    · rintro i x σ H4 H5 hi ⟨v5, v6, v7, rfl, s⟩ ⟨Tp, x1, y1, rfl, hTp, rfl, hx1, hy1⟩
      cases hx1
      have hy1 : (es.map fun t => V.str (S t))[i]? = some y1 := hy1
      rw [List.getElem?_map] at hy1
      obtain ⟨t, ht, rfl⟩ := Option.map_eq_some_iff.mp hy1
      have hil := (List.getElem?_eq_some_iff.mp ht).1
      have htm := het t (List.mem_of_getElem? ht)
      have s5 := Vk.Same.trans s (Same.upd_new (o := .tup [.int (i : Nat), .str (S t)]) hTp)
      have hT5 : (upd H4 Tp (.tup [.int (i : Nat), .str (S t)])) Tp = some (.tup [.int (i : Nat), .str (S t)]) := upd_same
      generalize upd H4 Tp (.tup [.int (i : Nat), .str (S t)]) = H5 at s5 hT5 ⊢
      have s05 := Vk.Same.trans s0 s5
      have hal5 := hal.same s05
      have hlt : i < sg.length := by omega
      have hc : sg[i]? = some sg[i] := List.getElem?_eq_getElem hlt
      generalize sg[i] = c at hc
      have hb := good i c t hc ht
      walk_at "go"
      refine ⟨al, c, t, sg, W, rfl, hal5, hsg, htm.1, fun c hc => Nat.lt_trans (htm.2 c hc) (by decide), fun H6 s6 => ?_⟩
      rw [hb]
      walk_at "go"
      exact ⟨_, _, _, rfl, Vk.Same.trans s5 s6⟩
    · rintro σ H4 ⟨v5, v6, v7, rfl, s⟩
      have hp4 := s _ _ hpl
      have hal4 := hal.same (Vk.Same.trans s0 s)
      walk_at "go"
      · rename_i h9
        rw [List.length_map] at h9
        omega
      rename_i h9 D hD
      refine lc2_it (walk_list (K := K) (a := p) (xs := es.map fun t => V.str (S t))) (fun i H' => NewP H4 D (entP (es.take i)) H') (NewP.start hD) (fun i H' _ h => SqL.of (by obtain ⟨_, _, _, s9⟩ := h; exact s9 _ _ hp4)) ?_ (fun H' hP => ?_)
      · rintro i x H5 H6 hii hP ⟨rfl, hx⟩
        rw [List.getElem?_map] at hx
        obtain ⟨t, ht, rfl⟩ := Option.map_eq_some_iff.mp hx
        have hil := (List.getElem?_eq_some_iff.mp ht).1
        have htm := het t (List.mem_of_getElem? ht)
        have hlt : i < sg.length := by omega
        have hc : sg[i]? = some sg[i] := List.getElem?_eq_getElem hlt
        generalize sg[i] = c at hc
        have hb := good i c t hc ht
        obtain ⟨esh, hin⟩ := ent_shape hb
        obtain ⟨r, er⟩ : ∃ r, t = c :: 62 :: r := ⟨_, esh⟩
        have eit : entP (es.take (i + 1)) = entP (es.take i) ++ (r.filter fun o => decide (o ≠ 46)).map fun o => (c, o) := by
          unfold entP
          rw [List.take_add_one, ht, List.flatMap_append]
          subst er
          congr 1
          exact List.append_nil _
        subst er
        have hrl : r.length ≤ 60 := by have := htm.1; simp only [List.length_cons] at this; omega
        have htl := htm.1
        have hd2 : (c :: 62 :: r).drop 2 = r := rfl
        have h00 : (c :: 62 :: r)[0]? = some c := rfl
        walk_at "go"
        refine inner_it walk_S (fun j H' => NewP H4 D (entP (es.take i) ++ ((r.take j).filter fun o => decide (o ≠ 46)).map fun o => (c, o)) H') (by rw [List.take_zero, List.filter_nil, List.map_nil, List.append_nil]; exact hP) (fun _ _ _ _ => trivial) ?_ (fun H' hP2 => ?_)
        · rintro j x H7 H8 hj hP2 ⟨rfl, c2, hc2, rfl⟩
          obtain ⟨ms, hms, ems, s5⟩ := id hP2
          have hc2 : r[j]? = some c2 := hc2
          have hjl := (List.getElem?_eq_some_iff.mp hc2).1
          have step : (r.take (j + 1)).filter (fun o => decide (o ≠ 46)) = (r.take j).filter (fun o => decide (o ≠ 46)) ++ if c2 = 46 then [] else [c2] := by
            rw [List.take_add_one, hc2, List.filter_append]
            congr 1
            by_cases h : c2 = 46
            · rw [if_pos h]
              simp [h]
            · rw [if_neg h]
              simp [h]
          walk_at "go"
          · rename_i h46 pp hpp
            rw [if_neg h46] at step
            exact newp_put (l' := entP (es.take i) ++ ((r.take (j + 1)).filter fun o => decide (o ≠ 46)).map fun o => (c, o)) hms ems s5 hD hpp (by
              have h1 := entP_len (es := es.take i) fun t ht => (het t (List.mem_of_mem_take ht)).1
              rw [List.length_take] at h1
              have h2 := List.length_filter_le (fun o => decide (o ≠ 46)) (r.take j)
              rw [List.length_take] at h2
              rw [List.length_append, List.length_map]
              omega) c c2 (by
              rw [step, List.map_append, ← List.append_assoc]
              rfl)
          · rename_i h46
            rw [if_pos h46, List.append_nil] at step
            rw [step]
            exact hP2
        · rw [hd2, List.take_length] at hP2
          rw [eit]
          exact hP2
      · obtain ⟨ms, hms, ems, s5⟩ := hP
        rw [List.length_map, List.take_length] at ems
        walk_at "go"
        intro x dx hx hd hnn
        have hel2 := entP_len fun t ht => (het t ht).1
        refine iMk (qs := ms) hx hd hnn (hal4.same s5) hsg hms ?_ (fun q hq => ?_) fun lp ns H' h1 h2 h3 => k _ _ (Vk.Same.trans s0 (Vk.Same.trans s (Vk.Same.trans s5 h2))) (Tb.agr ⟨lp, ns, h3⟩ hsg.a fun s hs t ht => ?_)
        · rw [← List.length_map (f := (·.2)), ems]
          omega
        · obtain ⟨t, ht, h⟩ := List.mem_flatMap.mp (mem_ms ems hq)
          obtain ⟨o, ho, e⟩ := List.mem_map.mp h
          obtain ⟨i, hil, hi'⟩ := List.getElem_of_mem ht
          have hlt : i < sg.length := by omega
          have hc : sg[i]? = some sg[i] := List.getElem?_eq_getElem hlt
          have hcm := List.getElem_mem hlt
          generalize sg[i] = c at hc hcm
          obtain ⟨esh, hin⟩ := ent_shape (good i c t hc (by rw [List.getElem?_eq_getElem hil, hi']))
          rw [← e]
          refine ⟨?_, hin o ho⟩
          show t.headD 0 ∈ sg
          rw [esh]
          exact hcm
        · unfold relP
          rw [ems]
end
end
section
set_option Elab.async false
set_option linter.all false
set_option maxRecDepth 100000
set_option maxHeartbeats 4000000
open PySem PySem.Spec PyProof.Rows L2 NSet

local macro_rules | `(tactic| walk_at "side") => `(tactic| exact .inl (by assumption))
local macro_rules | `(tactic| walk_at "go1") => `(tactic| (with_reducible refine iGTup (by assumption) rfl ?_))
local macro_rules | `(tactic| walk_at "go1") => `(tactic| (with_reducible refine iGCons ?_))
local macro_rules | `(tactic| walk_at "go1") => `(tactic| (with_reducible refine iGNil ?_))
local macro_rules | `(tactic| walk_at "go1") => `(tactic| (with_reducible refine iMakeV ?_))
local macro_rules | `(tactic| walk_at "go1") => `(tactic| (with_reducible refine iMakeD ?_))
local macro_rules | `(tactic| walk_at "go1") => `(tactic| (with_reducible refine iLc2S ?_))
local macro_rules | `(tactic| walk_at "go1") => `(tactic| (with_reducible refine iLc2L ?_))
local macro_rules | `(tactic| walk_at "go1") => `(tactic| (with_reducible refine iIStr ?_))
local macro_rules | `(tactic| walk_at "go1") => `(tactic| (with_reducible refine iIxI ?_))
local macro_rules | `(tactic| walk_at "go1") => `(tactic| (with_reducible refine iCMeth ?_))

section
variable {P : Program} {w : World} {K : PySem.W.Frag} {mg : Str → Option Value} {base : Heap} {a : Ad} {d : Fd}
theorem FnOk.or {CX : CXT} {n : Nat} {f : Addr} {fd : FuncData} {ps : List Str} {sp1 sp2 : Sp} (A : FnOk P w K mg base CX n f fd ps sp1) (B : FnOk P w K mg base CX n f fd ps sp2) : FnOk P w K mg base CX n f fd ps (fun vs H Q E => sp1 vs H Q E ∨ sp2 vs H Q E) := by
  refine ⟨fun a b c d h => h.elim (A.1 a b c d) (B.1 a b c d), ?_⟩
  intro a b c d e f g i j k l m n h
  rcases h with h | h
  · exact A.2 a b c d e f g i j k l m n h
  · exact B.2 a b c d e f g i j k l m n h
theorem ok_readA (T : Fns K mg a d) (MT : Mk K a.cTable a.aTInit) (bTInit : Binds K d.dTInit ["self", "alphabet", "pairs"] []) (GBadEntry : FnOk P w K mg base CX0 1 a.eBadEntry d.eBadEntry ["self", "index"] (spErrI a.cBadEntry "index")) : FnOk P w K mg base (L2N.CX P w) 5 a.aTRead d.dTRead ["cls", "alphabet", "written"] (fun vs H Q E => spRead a vs H Q E ∨ spReadX a vs H Q E) :=
  FnOk.or ((ok_read T MT bTInit).cx (fun _ _ _ _ h => h) fun _ _ _ _ _ => cx_no) (ok_readX T MT bTInit GBadEntry)
end
end
section
set_option Elab.async false
set_option linter.all false
set_option maxRecDepth 100000
set_option maxHeartbeats 4000000
open PySem PySem.Spec PyProof.Rows L2 NSet

local macro_rules | `(tactic| walk_at "side") => `(tactic| exact .inl (by assumption))
local macro_rules | `(tactic| walk_at "go1") => `(tactic| (with_reducible refine iGTup (by assumption) rfl ?_))
local macro_rules | `(tactic| walk_at "go1") => `(tactic| (with_reducible refine iGCons ?_))
local macro_rules | `(tactic| walk_at "go1") => `(tactic| (with_reducible refine iGNil ?_))
local macro_rules | `(tactic| walk_at "go1") => `(tactic| (with_reducible refine iMakeV ?_))
local macro_rules | `(tactic| walk_at "go1") => `(tactic| (with_reducible refine iMakeD ?_))
local macro_rules | `(tactic| walk_at "go1") => `(tactic| (with_reducible refine iLc2S ?_))
local macro_rules | `(tactic| walk_at "go1") => `(tactic| (with_reducible refine iLc2L ?_))
local macro_rules | `(tactic| walk_at "go1") => `(tactic| (with_reducible refine iIStr ?_))
local macro_rules | `(tactic| walk_at "go1") => `(tactic| (with_reducible refine iIxI ?_))
local macro_rules | `(tactic| walk_at "go1") => `(tactic| (with_reducible refine iCMeth ?_))

section
variable {P : Program} {w : World} {K : PySem.W.Frag} {mg : Str → Option Value} {base : Heap} {a : Ad} {d : Fd}
local macro_rules | `(tactic| walk_at "go1") => `(tactic| (with_reducible refine iCMethS ?_))
local macro_rules | `(tactic| walk_at "go1") => `(tactic| (with_reducible refine iCallSH ?_))
local macro_rules | `(tactic| walk_at "go1") => `(tactic| (with_reducible refine iMakeS ?_))
def upq (q : Addr × Nat × Nat) : Addr × List Nat × List Nat := (q.1, [q.2.1], [q.2.2])
theorem PrAt.up {H : Hp} {p : Addr} {qs : List (Addr × Nat × Nat)} (h : PrAt H p qs) : PtAt H p (qs.map upq) := ⟨by rw [List.map_map]; exact h.l, fun q hq => by
  obtain ⟨z, hz, rfl⟩ := List.mem_map.mp hq
  exact h.t z hz⟩
def dt (q : Addr × List Nat × List Nat) : PyData := dq2 q.2.1 q.2.2
theorem dp_allt {K : PySem.W.Frag} {H : Hp} : ∀ qs : List (Addr × List Nat × List Nat), (∀ q ∈ qs, H q.1 = some (.tup [.str (S q.2.1), .str (S q.2.2)])) → DpAll K H (qs.map fun q => V.ref q.1) (qs.map dt)
  | [], _ => .nil
  | q :: qs, h => .cons (.tup (SqT.of (h q List.mem_cons_self)) (.cons (.str _) (.cons (.str _) .nil))) (dp_allt qs fun z hz => h z (List.mem_cons_of_mem _ hz))
theorem PtAt.dp {K : PySem.W.Frag} {H : Hp} {p : Addr} {qs : List (Addr × List Nat × List Nat)} (h : PtAt H p qs) : Dp K H (.ref p) (.list (qs.map dt)) := .lst (SqL.of h.l) (dp_allt qs h.t)
theorem can_dts : ∀ l : List (Addr × List Nat × List Nat), (∀ q ∈ l, (∀ c ∈ q.2.1, c < 128) ∧ ∀ c ∈ q.2.2, c < 128) → PyData.canLayAll0 (l.map dt) = true
  | [], _ => by simp [PyData.canLayAll0]
  | q :: l, h => by
    have h1 := can_dts l fun z hz => h z (List.mem_cons_of_mem _ hz)
    have h2 : PyData.canLay0 (dt q) = true := can_dq2 (h q List.mem_cons_self).1 (h q List.mem_cons_self).2
    rw [List.map_cons]
    simp [PyData.canLayAll0, h1, h2]
theorem dep_dts : ∀ l : List (Addr × List Nat × List Nat), PyData.depthAll (l.map dt) ≤ 1
  | [] => by simp [PyData.depthAll]
  | q :: l => by
    have := dep_dts l
    have h2 : PyData.depth (dt q) = 1 := by simp [dt, dq2, PyData.depth, PyData.depthAll]
    simp [PyData.depthAll, h2]
    omega
theorem shaped_dts {l : List (Addr × List Nat × List Nat)} (h : ∀ q ∈ l, (∀ c ∈ q.2.1, c < 128) ∧ ∀ c ∈ q.2.2, c < 128) : SeqAt.shaped (.list (l.map dt)) = true := by
  have := dep_dts l
  simp [SeqAt.shaped, PyData.canLay0, PyData.depth, can_dts l h]
  omega
theorem eqv_dts : ∀ l : List (Addr × List Nat × List Nat), PyData.eqv (.list (l.map dt)) (.list (l.map dt)) = true := by
  have key : ∀ l : List (Addr × List Nat × List Nat), PyData.eqvAll (l.map dt) (l.map dt) = true := fun l => by
    induction l with
    | nil => simp [PyData.eqvAll]
    | cons q l ih =>
      have : PyData.eqv (dt q) (dt q) = true := by simp [dt, dq2, PyData.eqv, PyData.eqvAll]
      simp [PyData.eqvAll, this, ih]
  exact fun l => key l
theorem ok_integerH (T : Fns K mg a d) : L2H.FnH P w K mg base CX0 1 a.aInteger d.dInteger ["_law_told"] spInteger := by
  refine okH T.FInteger scInteger (fun vs H Q E h => ?_) (fun cdv A outer s H vs Q E p hp hr h => ?_)
  · obtain ⟨n, rfl, _⟩ := h
    rfl
  · obtain ⟨n, rfl, k⟩ := h
    refine ⟨_, ((pss_one (ps_ret (pe_and (pe_callB call_isi (by rfl) T.z_isinstance (by decide +kernel) (pa_cons (pv 0) (pa_cons (pe_bltn (v := .ty "int") (by rfl) T.z_int (by decide +kernel) rfl) pa_nil))) (pe_one (pe_not (pe_callB call_isi (by rfl) T.z_isinstance (by decide +kernel) (pa_cons (pv 0) (pa_cons (pe_bltn (v := .ty "bool") (by rfl) T.z_bool (by decide +kernel) rfl) pa_nil))))))))), ?_⟩
    walk_at "go"
    exact k
theorem BagB.nt {H : Hp} {b g u x : Addr} {xs : List V} (hB : BagB H b g u) (h : H x = some (.tup xs)) : x ∉ [b, g] := by
  obtain ⟨gl, sl, n, r, h1, h2, _⟩ := hB
  simp only [List.mem_cons, List.not_mem_nil, or_false, not_or]
  exact ⟨fun e => (by rw [e, h1] at h; cases h), fun e => (by rw [e, h2] at h; cases h)⟩
theorem BagB.ni {H : Hp} {b g u x C dx : Addr} {fs : List (Str × V)} (hB : BagB H b g u) (h : H x = some (.ins C dx fs)) : x ∉ [b, g] := by
  obtain ⟨gl, sl, n, r, h1, h2, _⟩ := hB
  simp only [List.mem_cons, List.not_mem_nil, or_false, not_or]
  exact ⟨fun e => (by rw [e, h1] at h; cases h), fun e => (by rw [e, h2] at h; cases h)⟩
theorem AlG.fr {H H' : Hp} {C al b g u : Addr} {sg W : List Nat} (h : AlG C H al sg W) (hB : BagB H b g u) (f : Fr [b, g] H H') : AlG C H' al sg W := by
  obtain ⟨l, v, ⟨dx, e⟩, z⟩ := h
  exact ⟨l, v, ⟨dx, f _ _ (hB.ni e) e⟩, z⟩
theorem PrAt.frB {H H' : Hp} {p b g u : Addr} {qs : List (Addr × Nat × Nat)} (h : PrAt H p qs) (hB : BagB H b g u) (hp : p ∉ [b, g]) (f : Fr [b, g] H H') : PrAt H' p qs := h.fr f hp fun q hq => hB.nt (h.t q hq)
def spBadPair (a : Ad) : Sp := fun vs H Q _ => ∃ (b g u al p : Addr) (sg W : List Nat) (qs : List (Addr × Nat × Nat)), vs = [.ref b, .ref al, .str (S sg), .ref p] ∧ BagB H b g u ∧ AlG a.cAlphabet H al sg W ∧ SgOk sg ∧ SgL sg ∧ PrAt H p qs ∧ qs.length ≤ 30 ∧ (∀ q ∈ qs, q.2.1 ∈ sg ∧ q.2.2 ∈ sg) ∧ p ∉ [b, g] ∧
  ∀ H', BagB H' b g u → Fr [b, g] H H' → Q (.bl true) H'
theorem made_B {H : Hp} {x dx al p : Addr} {sg W : List Nat} {qs : List (Addr × List Nat × List Nat)} {k0 : Nat} {q0 : Addr × List Nat × List Nat} {R : VK} {E : XK} (hx : H x = none) (hdx : H dx = none) (hne : dx ≠ x) (hal : AlG a.cAlphabet H al sg W) (hsg : SgOk sg) (hp : PtAt H p qs) (hl : qs.length ≤ 4000)
    (hm : ∀ q ∈ qs, q.2.1.length ≤ 10 ∧ q.2.2.length ≤ 10) (hk : k0 ≤ 31) (h0 : qs[k0]? = some q0) (hb : goodP sg q0 = false) (hg : ∀ j q, j < k0 → qs[j]? = some q → goodP sg q = true)
    (k : ∀ dd H', H dd = none → H' dd = some (.xd [("index", .int (k0 : Int))]) → Same H H' → E (.ref a.cBadPair) (some dd) H') :
    spInitB a ([V.ref x, .ref al, .ref p] ++ []) (upd (upd H dx (.own x)) x (.ins a.cTable dx [])) R E := by
  have s : Same H (upd (upd H dx (.own x)) x (.ins a.cTable dx [])) := Vk.Same.trans (Same.upd_new hdx) (Same.upd_new (by rw [upd_ne hne.symm]; exact hx))
  refine ⟨x, al, p, dx, sg, W, qs, k0, q0, rfl, upd_same, hal.same s, hsg, hp.same s, hl, hm, hk, h0, hb, hg, fun dd H' h1 h2 h3 => k dd H' ?_ h2 (Vk.Same.trans s h3)⟩
  cases hh : H dd with
  | none => rfl
  | some o =>
    rw [s _ _ hh] at h1
    cases h1
namespace BP
theorem scBadPair : FnScope ["_law_bag_here", "_law_alphabet", "_law_signs_here", "_law_pairs_here", "_law_sign", "_law_strange_here", "_law_bad", "_law_at", "_law_rows", "_law_kept", "_law_told", "e"] ["_law_bag_here", "_law_alphabet", "_law_signs_here", "_law_pairs_here"] (defScope sBadPair) := ⟨rfl, rfl, rfl, by decide +kernel, rfl, by decide +kernel, by decide +kernel⟩
theorem ok_badPair (T : Fns K mg a d) (MT : Mk K a.cTable a.aTInit) (bTInit : Binds K d.dTInit ["self", "alphabet", "pairs"] []) (BBadPair : ErrX K a a.cBadPair a.cBadEntry "index") (GBadPair : FnOk P w K mg base CX0 1 a.eBadPair d.eBadPair ["self", "index"] (spErrI a.cBadPair "index")) : FnOk P w K mg base CX0 5 a.aBadPair d.dBadPair ["_law_bag_here", "_law_alphabet", "_law_signs_here", "_law_pairs_here"] (spBadPair a) := by
  have GTake := ok_take (P := P) (w := w) (base := base) T
  have GStrange := ok_strange (P := P) (w := w) (base := base) T
  have HInteger := ok_integerH (P := P) (w := w) (base := base) T
  have GTInit := ok_initB (P := P) (w := w) (base := base) T GBadPair
  refine T.FBadPair.ok scBadPair (fun vs H Q E h => ?_) (fun cdv A0 outer s H vs Q E hr h => ?_)
  · obtain ⟨b, g, u, al, p, sg, W, qs, rfl, _⟩ := h
    rfl
  · obtain ⟨b, g, u, al, p, sg, W, qs, rfl, hB, hal, hsg, hs, hp, hql, hq, hpb, kq⟩ := h
    have hl5 := hsg.l
    have hl0 := hsg.p
    refine ⟨_, ((pss_cons (ps_set (i := 4) scBadPair.nd rfl (Or.inl rfl) (pe_ix ix_str (pv 2) (pe_call GTake (hr.mono (by decide)) (by rfl) T.gTake T.FTake.kp T.bTake .nil pass0 (pa_cons (pv 0) (pa_cons (pe_callB call_lenS (by rfl) T.z_len (by decide +kernel) (pa_cons (pv 2) pa_nil)) pa_nil))) (fun _ _ => rfl)))
      (pss_cons (ps_set (i := 5) scBadPair.nd rfl (Or.inl rfl) (pe_call GStrange (hr.mono (by decide)) (by rfl) T.gStrange T.FStrange.kp T.bStrange .nil pass0 (pa_cons (pv 0) (pa_cons (pv 2) pa_nil))))
      (pss_cons (ps_set (i := 6) scBadPair.nd rfl (Or.inl rfl) (pe_ix (r := rIxL K) ix_list (pe_lst (pa_cons (pe_tup (pa_cons (pv 5) (pa_cons (pv 4) pa_nil))) (pa_cons (pe_tup (pa_cons (pv 4) (pa_cons (pv 5) pa_nil))) (pa_cons (pe_tup (pa_cons (pv 5) (pa_cons (pv 5) pa_nil))) pa_nil)))) (pe_call GTake (hr.mono (by decide)) (by rfl) T.gTake T.FTake.kp T.bTake .nil pass0 (pa_cons (pv 0) (pa_cons pe_int pa_nil))) (fun _ _ => rfl)))
      (pss_cons (ps_set (i := 7) scBadPair.nd rfl (Or.inl rfl) (pe_call GTake (hr.mono (by decide)) (by rfl) T.gTake T.FTake.kp T.bTake .nil pass0 (pa_cons (pv 0) (pa_cons (pe_op op_add (pe_callB call_len_seq (by rfl) T.z_len (by decide +kernel) (pa_cons (pv 3) pa_nil)) pe_int) pa_nil))))
      (pss_cons (ps_set (i := 8) scBadPair.nd rfl (Or.inl rfl) (pe_op op_cat (pe_op op_cat (pe_slice sl_list (pv 3) po_none (po_some (pv 7))) (pe_lst (pa_cons (pv 6) pa_nil))) (pe_slice sl_list (pv 3) (po_some (pv 7)) po_none)))
      (pss_cons (ps_if (pt_cmpR op_eq (pe_call GTake (hr.mono (by decide)) (by rfl) T.gTake T.FTake.kp T.bTake .nil pass0 (pa_cons (pv 0) (pa_cons pe_int pa_nil))) pe_int (nomark _)) (pss_one (ps_expr (pe_bm PySem.F.plainAttrs_list PySem.F.slot_list_append PySem.F.type_list_append mt_append (pv 8) (pa_cons (pe_tup (pa_cons (pe_call GStrange (hr.mono (by decide)) (by rfl) T.gStrange T.FStrange.kp T.bStrange .nil pass0 (pa_cons (pv 0) (pa_cons (pv 2) pa_nil))) (pa_cons (pv 4) pa_nil))) pa_nil)))) pss_nil)
      (pss_cons (ps_set (i := 9) scBadPair.nd rfl (Or.inl rfl) (pe_callTy call_list_of (by rfl) T.z_list (by decide +kernel) (pa_cons (pv 8) pa_nil)))
      (pss_cons (L2N.ps_try_as (i := 11) (tb := _) (ts := _) (Wout := fun _ _ _ _ => False) rfl rfl scBadPair.nd rfl rfl ⟨rfl, by decide, Or.inl T.gcBadPair⟩ takes0N (fun W pn xe tk _ => (pss_one (ps_set (i := 10) scBadPair.nd rfl (Or.inl rfl) (pe_makeS MT GTInit (hr.mono (by decide)) (by rfl) T.gcTable bTInit .nil (fun σ => L2N.passAt tk σ) (pa_cons (pv 1) (pa_cons (pv 8) pa_nil)))))) (fun ab oe cls db pn hz hf => (pss_cons (ps_if (PW.pt (pw_or (pt_not (pt_val (pe_callB (call_isX hz.zc hf) (by rfl) T.z_isinstance (by decide +kernel) (pa_cons (pv 11) (pa_cons (pe_glob (v := .ref a.cTale) (by rfl) T.gcTaleError rfl) pa_nil))))) (pw_or (pt_not (pt_val (pe_callB (call_isX hz.zc hf) (by rfl) T.z_isinstance (by decide +kernel) (pa_cons (pv 11) (pa_cons (pe_bltn (v := .ty "ValueError") (by rfl) T.z_VE (by decide +kernel) rfl) pa_nil))))) (pw_or1 (pt_val (pe_callB (call_isX hz.zc hf) (by rfl) T.z_isinstance (by decide +kernel) (pa_cons (pv 11) (pa_cons (pe_glob (v := .ref a.cBadEntry) (by rfl) T.gcBadEntry rfl) pa_nil)))))))) (pss_one (ps_ret pe_bl)) pss_nil)
      (pss_one (ps_ret (pe_and (pe_cmpR (r := rEqD K) (op_eqD (by exact hr.units)) (pv 8) (pv 9) (nomark _)) (pe_and (L2H.pe_callH (E := fun _ => E0) HInteger (roomH_mark (hr.mono (by decide)) _) (hot_of hz hf) (by rfl) T.gInteger T.FInteger.kp T.bInteger passH (pa_cons (pe_xf BBadPair.xf BBadPair.np hz.zc hf (pv 11)) pa_nil)) (pe_one (pe_cmpR op_eq (pe_xf BBadPair.xf BBadPair.np hz.zc hf (pv 11)) (pv 7) (nomark _))))))))))
      (pss_one (ps_ret pe_bl))))))))))), ?_⟩
    walk_at "go"
    refine ⟨b, g, u, sg.length, rfl, hB, hl0, by omega, fun r1 H1 hr1 hB1 f1 => ?_⟩
    obtain ⟨c1, hc1⟩ : ∃ c, sg[r1]? = some c := ⟨_, List.getElem?_eq_getElem hr1⟩
    have hm1 := List.mem_of_getElem? hc1
    have hp1 := hp.frB hB hpb f1
    have hal1 := hal.fr hB f1
    walk_at "go"
    refine ⟨b, g, u, sg, rfl, hB1, hsg, hs, fun st H2 hst hB2 f2 => ?_⟩
    have hp2 := hp1.frB hB1 hpb f2
    have hal2 := hal1.fr hB1 f2
    walk_at "go"
    rename_i p1 g1 p2 g2 p3 g3 M gM
    have sM : Same H2 (upd (upd (upd (upd H2 p1 (.tup [.str (S st), .str (S [c1])])) p2 (.tup [.str (S [c1]), .str (S st)])) p3 (.tup [.str (S st), .str (S st)])) M (.lst [.ref p1, .ref p2, .ref p3])) := Vk.Same.trans (Same.upd_new g1) (Vk.Same.trans (Same.upd_new g2) (Vk.Same.trans (Same.upd_new g3) (Same.upd_new gM)))
    have k1 : (upd (upd (upd (upd H2 p1 (.tup [.str (S st), .str (S [c1])])) p2 (.tup [.str (S [c1]), .str (S st)])) p3 (.tup [.str (S st), .str (S st)])) M (.lst [.ref p1, .ref p2, .ref p3])) p1 = some (.tup [.str (S st), .str (S [c1])]) := upd_old gM (upd_old g3 (upd_old g2 upd_same))
    have k2 : (upd (upd (upd (upd H2 p1 (.tup [.str (S st), .str (S [c1])])) p2 (.tup [.str (S [c1]), .str (S st)])) p3 (.tup [.str (S st), .str (S st)])) M (.lst [.ref p1, .ref p2, .ref p3])) p2 = some (.tup [.str (S [c1]), .str (S st)]) := upd_old gM (upd_old g3 upd_same)
    have k3 : (upd (upd (upd (upd H2 p1 (.tup [.str (S st), .str (S [c1])])) p2 (.tup [.str (S [c1]), .str (S st)])) p3 (.tup [.str (S st), .str (S st)])) M (.lst [.ref p1, .ref p2, .ref p3])) p3 = some (.tup [.str (S st), .str (S st)]) := upd_old gM upd_same
    have kM : (upd (upd (upd (upd H2 p1 (.tup [.str (S st), .str (S [c1])])) p2 (.tup [.str (S [c1]), .str (S st)])) p3 (.tup [.str (S st), .str (S st)])) M (.lst [.ref p1, .ref p2, .ref p3])) M = some (.lst [.ref p1, .ref p2, .ref p3]) := upd_same
    generalize upd (upd (upd (upd H2 p1 (.tup [.str (S st), .str (S [c1])])) p2 (.tup [.str (S [c1]), .str (S st)])) p3 (.tup [.str (S st), .str (S st)])) M (.lst [.ref p1, .ref p2, .ref p3]) = H3 at sM k1 k2 k3 kM ⊢
    have hc1l := hsg.c c1 hm1
    have one : ∀ x ∈ [c1], x < 128 := fun x hx => by rw [List.mem_singleton.mp hx]; exact hc1l
    have hst1 : signB sg st = false := hst.1
    have hbad : ∀ (i : Nat) (x : Addr), ([p1, p2, p3] : List Addr)[i]? = some x → ∃ y z, H3 x = some (.tup [.str (S y), .str (S z)]) ∧ y.length ≤ 10 ∧ z.length ≤ 10 ∧ (∀ c ∈ y, c < 128) ∧ (∀ c ∈ z, c < 128) ∧ (signB sg y && signB sg z) = false := fun i x hx => by
      rcases i with _ | _ | _ | i
      · cases hx
        exact ⟨_, _, k1, hst.2.1, by simp, hst.2.2, one, by rw [hst1, Bool.false_and]⟩
      · cases hx
        exact ⟨_, _, k2, by simp, hst.2.1, one, hst.2.2, by rw [hst1, Bool.and_false]⟩
      · cases hx
        exact ⟨_, _, k3, hst.2.1, hst.2.1, hst.2.2, hst.2.2, by rw [hst1, Bool.false_and]⟩
      · simp at hx
    have Mb := (((hB2.laid g1).laid g2).laid g3).ne gM
    refine ⟨b, g, u, 3, rfl, hB2.same sM, by decide, by decide, fun r3 H4 hr3 hB4 f4 => ?_⟩
    obtain ⟨x, hx⟩ : ∃ x, ([p1, p2, p3] : List Addr)[r3]? = some x := ⟨_, List.getElem?_eq_getElem (by simpa using hr3)⟩
    obtain ⟨y, z, hxt, hy10, hz10, hyc, hzc, hng⟩ := hbad r3 x hx
    have hxv : ([.ref p1, .ref p2, .ref p3] : List V)[r3]? = some (.ref x) := by
      have : ([.ref p1, .ref p2, .ref p3] : List V) = [p1, p2, p3].map V.ref := rfl
      rw [this, List.getElem?_map, hx]
      rfl
    have hM4 : H4 M = some (.lst [.ref p1, .ref p2, .ref p3]) := f4 _ _ (by simp [Mb.1, Mb.2.1]) kM
    have hx4 := f4 _ _ ((hB2.same sM).nt hxt) hxt
    have f14 : Fr [b, g] H H4 := f1.trans (f2.trans ((Fr.of_same sM).trans f4))
    have hp4 := hp.frB hB hpb f14
    have hal4 := hal.fr hB f14
    have hpl4 := hp4.l
    clear k1 k2 k3 kM hbad
    walk_at "go"
    refine ⟨b, g, u, qs.length + 1, by simp, hB4, by omega, by omega, fun at0 H5 hat hB5 f5 => ?_⟩
    have hx5 := f5 _ _ (hB4.nt hx4) hx4
    have hp5 := hp4.frB hB4 hpb f5
    have hpl5 := hp5.l
    have hal5 := hal4.fr hB4 f5
    have f15 := f14.trans f5
    clear hx4 hM4
    walk_at "go"
    rename_i q1 e1 q2 e2
    rw [cut_toN] at e2 ⊢
    refine iCat (upd_old e2 upd_same) upd_same (by rw [List.length_take, List.length_map, sizeLine_eq]; simp; omega) fun q3 e3 => ?_
    have s1 : Same H5 (upd (upd (upd H5 q1 (.lst ((qs.map fun q => V.ref q.1).take at0))) q2 (.lst [.ref x])) q3 (.lst ((qs.map fun q => V.ref q.1).take at0 ++ [.ref x]))) := Vk.Same.trans (Same.upd_new e1) (Vk.Same.trans (Same.upd_new e2) (Same.upd_new e3))
    have h1 : (upd (upd (upd H5 q1 (.lst ((qs.map fun q => V.ref q.1).take at0))) q2 (.lst [.ref x])) q3 (.lst ((qs.map fun q => V.ref q.1).take at0 ++ [.ref x]))) q3 = some (.lst ((qs.map fun q => V.ref q.1).take at0 ++ [.ref x])) := upd_same
    generalize (upd (upd (upd H5 q1 (.lst ((qs.map fun q => V.ref q.1).take at0))) q2 (.lst [.ref x])) q3 (.lst ((qs.map fun q => V.ref q.1).take at0 ++ [.ref x]))) = H6 at s1 h1 ⊢
    have hpl6 := s1 _ _ hpl5
    walk_at "go"
    rename_i q4 e4
    rw [cut_fromN]
    refine iCat (upd_old e4 h1) upd_same (by simp only [List.length_append, List.length_take, List.length_drop, List.length_map, sizeLine_eq, List.length_cons, List.length_nil]; omega) fun L eL => ?_
    obtain ⟨qs7, hq7⟩ : ∃ qs7, qs7 = (qs.map upq).take at0 ++ [(x, y, z)] ++ (qs.map upq).drop at0 := ⟨_, rfl⟩
    have hup5 := hp5.up
    have s7 : Same H5 (upd (upd H6 q4 (.lst ((qs.map fun q => V.ref q.1).drop at0))) L (.lst ((qs.map fun q => V.ref q.1).take at0 ++ [.ref x] ++ (qs.map fun q => V.ref q.1).drop at0))) := Vk.Same.trans s1 (Vk.Same.trans (Same.upd_new e4) (Same.upd_new eL))
    have hmm : (qs.map fun q => V.ref q.1) = (qs.map upq).map fun q => V.ref q.1 := by
      rw [List.map_map]
      rfl
    have hp7 : PtAt (upd (upd H6 q4 (.lst ((qs.map fun q => V.ref q.1).drop at0))) L (.lst ((qs.map fun q => V.ref q.1).take at0 ++ [.ref x] ++ (qs.map fun q => V.ref q.1).drop at0))) L qs7 := by
      refine ⟨?_, fun q hqm => ?_⟩
      · rw [upd_same, hq7, List.map_append, List.map_append, List.map_take, List.map_drop, hmm]
        rfl
      · refine s7 _ _ ?_
        rw [hq7] at hqm
        rcases List.mem_append.mp hqm with h | h
        · rcases List.mem_append.mp h with h | h
          · exact hup5.t q (List.mem_of_mem_take h)
          · rw [List.mem_singleton.mp h]
            exact hx5
        · exact hup5.t q (List.mem_of_mem_drop h)
    have hLb := ((hB5.same s1).laid e4).ne eL
    have hHL : H L = none := (f15.trans (Fr.of_same (Vk.Same.trans s1 (Same.upd_new e4)))).none (by simp [hLb.1, hLb.2.1]) eL
    generalize (upd (upd H6 q4 (.lst ((qs.map fun q => V.ref q.1).drop at0))) L (.lst ((qs.map fun q => V.ref q.1).take at0 ++ [.ref x] ++ (qs.map fun q => V.ref q.1).drop at0))) = H7 at s7 hp7 ⊢
    have hsm : ∀ q ∈ qs, q.2.1 < 128 ∧ q.2.2 < 128 := fun q h => ⟨hsg.c _ (hq q h).1, hsg.c _ (hq q h).2⟩
    have hl7 : qs7.length = qs.length + 1 := by
      rw [hq7]
      simp only [List.length_append, List.length_take, List.length_drop, List.length_map, List.length_cons, List.length_nil]
      omega
    have hm7 : ∀ q ∈ qs7, (q.2.1.length ≤ 10 ∧ q.2.2.length ≤ 10) ∧ (∀ c ∈ q.2.1, c < 128) ∧ ∀ c ∈ q.2.2, c < 128 := fun q hqm => by
      have low : q ∈ qs.map upq → (q.2.1.length ≤ 10 ∧ q.2.2.length ≤ 10) ∧ (∀ c ∈ q.2.1, c < 128) ∧ ∀ c ∈ q.2.2, c < 128 := fun h => by
        obtain ⟨q', hq', rfl⟩ := List.mem_map.mp h
        have := hsm q' hq'
        exact ⟨⟨by simp [upq], by simp [upq]⟩, by simp [upq, this.1], by simp [upq, this.2]⟩
      rw [hq7] at hqm
      rcases List.mem_append.mp hqm with h | h
      · rcases List.mem_append.mp h with h | h
        · exact low (List.mem_of_mem_take h)
        · rw [List.mem_singleton.mp h]
          exact ⟨⟨hy10, hz10⟩, hyc, hzc⟩
      · exact low (List.mem_of_mem_drop h)
    have h07 : qs7[at0]? = some (x, y, z) := by
      rw [hq7, List.append_assoc, List.getElem?_append_right (by rw [List.length_take, List.length_map]; omega)]
      rw [List.length_take, List.length_map, Nat.min_eq_left (by omega), Nat.sub_self]
      rfl
    have hg7 : ∀ j q, j < at0 → qs7[j]? = some q → goodP sg q = true := fun j q hj hjq => by
      rw [hq7, List.append_assoc, List.getElem?_append_left (by rw [List.length_take, List.length_map]; omega), List.getElem?_take_of_lt hj, List.getElem?_map] at hjq
      obtain ⟨q', hq', rfl⟩ := Option.map_eq_some_iff.mp hjq
      have := hq q' (List.mem_of_getElem? hq')
      show (decide (q'.2.1 ∈ sg) && decide (q'.2.2 ∈ sg)) = true
      rw [decide_eq_true this.1, decide_eq_true this.2]
      rfl
    have hB7 := hB5.same s7
    have f17 := f15.trans (Fr.of_same s7)
    have hal7 := hal5.same s7
    clear hq7 hup5 hmm
    walk_at "go"
    refine ⟨b, g, u, 2, rfl, hB7, by decide, by decide, fun r8 H8 hr8 hB8 f8 => ?_⟩
    have hp8 : PtAt H8 L qs7 := ⟨f8 _ _ (by simp [hLb.1, hLb.2.1]) hp7.l, fun q h => f8 _ _ (hB7.nt (hp7.t q h)) (hp7.t q h)⟩
    have hpl8 := hp8.l
    have hal8 := hal7.fr hB7 f8
    have f18 := f17.trans f8
    walk_at "go"
    · refine ⟨b, g, u, sg, rfl, hB8, hsg, hs, fun st2 H9 hst2 hB9 f9 => ?_⟩
      have hp9 : PtAt H9 L qs7 := ⟨f9 _ _ (by simp [hLb.1, hLb.2.1]) hp8.l, fun q h => f9 _ _ (hB8.nt (hp8.t q h)) (hp8.t q h)⟩
      have hpl9 := hp9.l
      have hal9 := hal8.fr hB8 f9
      walk_at "go"
      rename_i T9 gT
      refine iAppend (upd_old gT hpl9) (by rw [List.length_map, sizeLine_eq]; omega) ?_
      have nTL : T9 ≠ L := (ne_of_none hpl9 gT).symm
      obtain ⟨qs10, hqs10⟩ : ∃ qs10, qs10 = qs7 ++ [(T9, st2, [c1])] := ⟨_, rfl⟩
      have hp10 : PtAt (upd (upd H9 T9 (.tup [.str (S st2), .str (S [c1])])) L (.lst ((qs7.map fun q => V.ref q.1) ++ [.ref T9]))) L qs10 := by
        refine ⟨by rw [upd_same, hqs10, List.map_append]; rfl, fun q h => ?_⟩
        rw [hqs10] at h
        rcases List.mem_append.mp h with h | h
        · have h1 := hp9.t q h
          rw [upd_ne (fun e => by rw [e, hpl9] at h1; cases h1), upd_ne (ne_of_none h1 gT)]
          exact h1
        · rw [List.mem_singleton.mp h, upd_ne nTL, upd_same]
      have f10 : Fr [b, g] H (upd (upd H9 T9 (.tup [.str (S st2), .str (S [c1])])) L (.lst ((qs7.map fun q => V.ref q.1) ++ [.ref T9]))) := fun c o hc hco => by
        rw [upd_ne (fun e => by rw [e, hHL] at hco; cases hco)]
        have h9 := f18.trans f9 _ _ hc hco
        rw [upd_ne (ne_of_none h9 gT)]
        exact h9
      have hB10 : BagB (upd (upd H9 T9 (.tup [.str (S st2), .str (S [c1])])) L (.lst ((qs7.map fun q => V.ref q.1) ++ [.ref T9]))) b g u := (hB9.laid gT).upd hLb.1 hLb.2.1 hLb.2.2
      have hal10 : AlG a.cAlphabet (upd (upd H9 T9 (.tup [.str (S st2), .str (S [c1])])) L (.lst ((qs7.map fun q => V.ref q.1) ++ [.ref T9]))) al sg W := hal.fr hB f10
      generalize (upd (upd H9 T9 (.tup [.str (S st2), .str (S [c1])])) L (.lst ((qs7.map fun q => V.ref q.1) ++ [.ref T9]))) = H10 at hp10 f10 hB10 hal10 ⊢
      have hm10 : ∀ q ∈ qs10, (q.2.1.length ≤ 10 ∧ q.2.2.length ≤ 10) ∧ (∀ c ∈ q.2.1, c < 128) ∧ ∀ c ∈ q.2.2, c < 128 := fun q h => by
        rw [hqs10] at h
        rcases List.mem_append.mp h with h | h
        · exact hm7 q h
        · rw [List.mem_singleton.mp h]
          exact ⟨⟨hst2.2.1, by simp⟩, hst2.2.2, one⟩
      have h010 : qs10[at0]? = some (x, y, z) := by rw [hqs10, List.getElem?_append_left (by omega), h07]
      have hg10 : ∀ j q, j < at0 → qs10[j]? = some q → goodP sg q = true := fun j q hj hjq => hg7 j q hj (by
        rw [hqs10, List.getElem?_append_left (by omega)] at hjq
        exact hjq)
      have hl10 : qs10.length ≤ 4000 := by rw [hqs10, List.length_append, hl7]; simp; omega
      have hpl10 := hp10.l
      walk_at "go"
      rename_i KP gK
      have sK : Same H10 (upd H10 KP (.lst (qs10.map fun q => V.ref q.1))) := Same.upd_new gK
      have hK : (upd H10 KP (.lst (qs10.map fun q => V.ref q.1))) KP = some (.lst (qs10.map fun q => V.ref q.1)) := upd_same
      generalize upd H10 KP (.lst (qs10.map fun q => V.ref q.1)) = H11 at sK hK ⊢
      intro x0 dx0 hx0 hdx0 hne0
      refine made_B hx0 hdx0 hne0 (hal10.same sK) hsg (hp10.same sK) hl10 (fun q h => (hm10 q h).1) (by omega) h010 hng hg10 fun dd H12 hd1 hd2 s12 => ?_
      refine ⟨true, BBadPair.e1, fun _ ab hab => ?_, fun q => Bool.noConfusion q⟩
      have hp12 := hp10.same (Vk.Same.trans sK s12)
      have hK12 : PtAt H12 KP qs10 := ⟨s12 _ _ hK, hp12.t⟩
      have hlow := shaped_dts fun q h => (hm10 q h).2
      walk_at "go"
      refine iIsX1 BBadPair.ec hd2 (.own a.cTale) BBadPair.k1 ?_
      walk_at "go"
      refine iIsX1 BBadPair.ec hd2 (.ty "ValueError") BBadPair.k2 ?_
      walk_at "go"
      refine iIsX1 BBadPair.ec hd2 (.own a.cBadEntry) BBadPair.k3 ?_
      walk_at "go"
      refine ⟨_, _, hp12.dp, hK12.dp, hlow, hlow, ?_⟩
      rw [eqv_dts]
      walk_at "go"
      refine ⟨_, rfl, rfl, rfl, dd, _, _, rfl, hd2, rfl, ?_⟩
      walk_at "go"
      refine ⟨_, rfl, ?_⟩
      walk_at "go"
      refine ⟨_, rfl, rfl, rfl, dd, _, _, rfl, hd2, rfl, ?_⟩
      walk_at "go"
      rw [decide_eq_true rfl]
      exact kq H12 (hB10.same (Vk.Same.trans sK s12)) (f10.trans (Fr.of_same (Vk.Same.trans sK s12)))
    · walk_at "go"
      rename_i KP gK
      have sK : Same H8 (upd H8 KP (.lst (qs7.map fun q => V.ref q.1))) := Same.upd_new gK
      have hK : (upd H8 KP (.lst (qs7.map fun q => V.ref q.1))) KP = some (.lst (qs7.map fun q => V.ref q.1)) := upd_same
      generalize upd H8 KP (.lst (qs7.map fun q => V.ref q.1)) = H11 at sK hK ⊢
      intro x0 dx0 hx0 hdx0 hne0
      refine made_B hx0 hdx0 hne0 (hal8.same sK) hsg (hp8.same sK) (by omega) (fun q h => (hm7 q h).1) (by omega) h07 hng hg7 fun dd H12 hd1 hd2 s12 => ?_
      refine ⟨true, BBadPair.e1, fun _ ab hab => ?_, fun q => Bool.noConfusion q⟩
      have hp12 := hp8.same (Vk.Same.trans sK s12)
      have hK12 : PtAt H12 KP qs7 := ⟨s12 _ _ hK, hp12.t⟩
      have hlow := shaped_dts fun q h => (hm7 q h).2
      walk_at "go"
      refine iIsX1 BBadPair.ec hd2 (.own a.cTale) BBadPair.k1 ?_
      walk_at "go"
      refine iIsX1 BBadPair.ec hd2 (.ty "ValueError") BBadPair.k2 ?_
      walk_at "go"
      refine iIsX1 BBadPair.ec hd2 (.own a.cBadEntry) BBadPair.k3 ?_
      walk_at "go"
      refine ⟨_, _, hp12.dp, hK12.dp, hlow, hlow, ?_⟩
      rw [eqv_dts]
      walk_at "go"
      refine ⟨_, rfl, rfl, rfl, dd, _, _, rfl, hd2, rfl, ?_⟩
      walk_at "go"
      refine ⟨_, rfl, ?_⟩
      walk_at "go"
      refine ⟨_, rfl, rfl, rfl, dd, _, _, rfl, hd2, rfl, ?_⟩
      walk_at "go"
      rw [decide_eq_true rfl]
      exact kq H12 (hB8.same (Vk.Same.trans sK s12)) (f18.trans (Fr.of_same (Vk.Same.trans sK s12)))
end BP
end
end
section
set_option Elab.async false
set_option linter.all false
set_option maxRecDepth 100000
set_option maxHeartbeats 4000000
open PySem PySem.Spec PyProof.Rows L2 NSet

local macro_rules | `(tactic| walk_at "side") => `(tactic| exact .inl (by assumption))
local macro_rules | `(tactic| walk_at "go1") => `(tactic| (with_reducible refine iGTup (by assumption) rfl ?_))
local macro_rules | `(tactic| walk_at "go1") => `(tactic| (with_reducible refine iGCons ?_))
local macro_rules | `(tactic| walk_at "go1") => `(tactic| (with_reducible refine iGNil ?_))
local macro_rules | `(tactic| walk_at "go1") => `(tactic| (with_reducible refine iMakeV ?_))
local macro_rules | `(tactic| walk_at "go1") => `(tactic| (with_reducible refine iMakeD ?_))
local macro_rules | `(tactic| walk_at "go1") => `(tactic| (with_reducible refine iLc2S ?_))
local macro_rules | `(tactic| walk_at "go1") => `(tactic| (with_reducible refine iLc2L ?_))
local macro_rules | `(tactic| walk_at "go1") => `(tactic| (with_reducible refine iIStr ?_))
local macro_rules | `(tactic| walk_at "go1") => `(tactic| (with_reducible refine iIxI ?_))
local macro_rules | `(tactic| walk_at "go1") => `(tactic| (with_reducible refine iCMeth ?_))
def kStrM16_0 : List Nat := [97, 98, 99, 100, 101, 102, 103, 104, 105, 106, 107, 108, 109, 110, 111, 112, 113, 114, 115, 116, 117, 118, 119, 120, 121, 122]
theorem kStrM16_0_eq : PySem.Str.ofString "abcdefghijklmnopqrstuvwxyz" = S kStrM16_0 := by decide +kernel
section
variable {P : Program} {w : World} {K : PySem.W.Frag} {mg : Str → Option Value} {base : Heap} {a : Ad} {d : Fd}
local macro_rules | `(tactic| walk_at "go1") => `(tactic| (with_reducible refine iRevS ?_))
local macro_rules | `(tactic| walk_at "go1") => `(tactic| (with_reducible refine iRevL ?_))
local macro_rules | `(tactic| walk_at "go1") => `(tactic| ((with_reducible apply iSlToN); (first | assumption | exact SqL.of (by walk_at "lk"))))
local macro_rules | `(tactic| walk_at "go1") => `(tactic| ((with_reducible apply iSlFromN); (first | assumption | exact SqL.of (by walk_at "lk"))))
local macro_rules | `(tactic| walk_at "go1") => `(tactic| ((with_reducible apply iSlToSN); (first | assumption | exact SqL.of (by walk_at "lk"))))
local macro_rules | `(tactic| walk_at "go1") => `(tactic| ((with_reducible apply iSlFromSN); (first | assumption | exact SqL.of (by walk_at "lk"))))
local macro_rules | `(tactic| walk_at "go1") => `(tactic| ((with_reducible apply iSlFrom1); (first | assumption | exact SqL.of (by walk_at "lk"))))
local macro_rules | `(tactic| walk_at "go1") => `(tactic| ((with_reducible apply iSlToL); (first | assumption | exact SqL.of (by walk_at "lk"))))
local macro_rules | `(tactic| walk_at "go1") => `(tactic| ((with_reducible apply iVar); with_reducible assumption))
theorem iM0 {r : V → List V → Hp → VK → Prop} {te : TE} {σ : L2.St} {H : Hp} {Q : VK} (h : te σ H fun x H1 => (∃ a, x = .str a) ∧ r x [] H1 Q) : tM0 r te σ H Q := h
local macro_rules | `(tactic| walk_at "go1") => `(tactic| (with_reducible refine iM0 ?_))
local macro_rules | `(tactic| walk_at "num") => `(tactic| (simp only [List.length_reverse, List.length_take, List.length_drop, List.length_append, List.length_cons, List.length_nil, List.length_map]; omega))
local macro_rules | `(tactic| walk_at "len") => `(tactic| (simp only [sizeLine_eq, List.length_reverse, List.length_take, List.length_drop, List.length_append, List.length_cons, List.length_nil, List.length_map]; omega))
theorem atI_last {l : List Nat} (h : 0 < l.length) : atI l (-1) = some (l[l.length - 1]'(by omega)) := by
  unfold atI ixN
  rw [if_neg (by decide), if_pos (by omega)]
  show l[((-1 : Int) + (l.length : Int)).toNat]? = _
  rw [show ((-1 : Int) + (l.length : Int)).toNat = l.length - 1 by omega]
  exact List.getElem?_eq_getElem _
def up1 (c : Nat) : Nat := if 97 ≤ c ∧ c ≤ 122 then c - 32 else c
theorem up_S : ∀ l : List Nat, (∀ c ∈ l, c < 128) → Txt.upper (S l) = S (l.map up1)
  | [], _ => by decide +kernel
  | c :: l, h => by
    have e : S (c :: l) = S [c] ++ S l := by rw [S_app]; rfl
    have e2 : S ((c :: l).map up1) = S [up1 c] ++ S (l.map up1) := by rw [S_app]; rfl
    rw [e, e2, PySem.W.KOpn.upper_app, up_S l fun x hx => h x (List.mem_cons_of_mem _ hx)]
    congr 1
    exact PySem.W.KOpn.upper_one (h c List.mem_cons_self)
/-- a text that may be an entry -/
structure EnT (t : List Nat) : Prop where
  l : t.length ≤ 20
  c : ∀ c ∈ t, c < 128
  s : 32 ∉ t
theorem EnT.app {t u : List Nat} (h : EnT t) (g : EnT u) (hl : t.length + u.length ≤ 20) : EnT (t ++ u) := ⟨by rw [List.length_append]; exact hl, fun c hc => (List.mem_append.mp hc).elim (h.c c) (g.c c), fun z => (List.mem_append.mp z).elim h.s g.s⟩
theorem EnT.sub {t u : List Nat} (h : EnT t) (g : ∀ c ∈ u, c ∈ t) (hl : u.length ≤ 20) : EnT u := ⟨hl, fun c hc => h.c c (g c hc), fun z => h.s (g _ z)⟩
theorem EnT.one {c : Nat} (h : c < 128) (n : c ≠ 32) : EnT [c] := ⟨by simp, fun x hx => by rw [List.mem_singleton.mp hx]; exact h, fun z => n (List.mem_singleton.mp z).symm⟩
theorem EnT.up {t : List Nat} (h : EnT t) : EnT (t.map up1) := by
  refine ⟨by rw [List.length_map]; exact h.l, fun c hc => ?_, fun z => ?_⟩
  · obtain ⟨x, hx, rfl⟩ := List.mem_map.mp hc
    have := h.c x hx
    unfold up1
    split <;> omega
  · obtain ⟨x, hx, e⟩ := List.mem_map.mp z
    have hne : x ≠ 32 := fun q => h.s (q ▸ hx)
    unfold up1 at e
    split at e <;> omega
abbrev tS (t : List Nat) : V := V.str (S t)
def tRows : TE := fun σ H Q => ∃ (p M : Addr) (es ms : List (List Nat)) (at0 n : Nat), σ[2]? = some (some (.ref p)) ∧ σ[10]? = some (some (.ref M)) ∧ σ[4]? = some (some (.int (at0 : Int))) ∧ σ[1]? = some (some (.int (n : Int))) ∧ H p = some (.lst (es.map fun t => V.str (S t))) ∧ H M = some (.lst (ms.map fun t => V.str (S t))) ∧ ms.length = 15 ∧ es.length ≤ 10 ∧
  ∀ t ∈ ms, ∀ p' H', Same H H' → H' p' = some (.lst ((es.take at0 ++ [t] ++ es.drop (at0 + 1)).map fun t => V.str (S t))) → Q (.ref p') H'
theorem menu_ok {hd tl sg : List Nat} {o2 cl c0 sc at0 : Nat} (h1 : EnT hd) (l1 : hd.length ≤ 2) (h2 : EnT tl) (l2 : tl.length ≤ 5) (h3 : EnT sg) (l3 : sg.length ≤ 5) (h4 : EnT [o2]) (hcl : cl ∈ tl) (hc0 : c0 ∈ hd) (hsc : sc ∈ sg) :
    ∀ t ∈ ([hd ++ tl, [o2] ++ [62] ++ tl, tl, hd ++ tl.reverse, hd ++ tl ++ [cl], hd ++ tl ++ [46], hd, [c0] ++ [58] ++ tl, hd ++ tl ++ [10], (hd ++ tl).map up1, hd ++ tl ++ [o2], hd ++ sg, hd ++ [46], hd ++ sg.drop at0, hd ++ sg.take (at0 + 1) ++ [sc]] : List (List Nat)), EnT t := by
  have ht : EnT (hd ++ tl) := h1.app h2 (by omega)
  have one : ∀ c ∈ tl, EnT [c] := fun c hc => h2.sub (fun x hx => by rw [List.mem_singleton.mp hx]; exact hc) (by simp)
  have lt : (hd ++ tl).length ≤ 7 := by rw [List.length_append]; omega
  have tk := List.length_take_le' (at0 + 1) sg
  intro t h
  simp only [List.mem_cons, List.not_mem_nil, or_false] at h
  rcases h with rfl | rfl | rfl | rfl | rfl | rfl | rfl | rfl | rfl | rfl | rfl | rfl | rfl | rfl | rfl
  · exact ht
  · exact (h4.app (EnT.one (by decide) (by decide)) (by simp)).app h2 (by simp; omega)
  · exact h2
  · exact h1.app (h2.sub (fun c hc => List.mem_reverse.mp hc) (by rw [List.length_reverse]; omega)) (by rw [List.length_reverse]; omega)
  · exact ht.app (one cl hcl) (by simp only [List.length_cons, List.length_nil]; omega)
  · exact ht.app (EnT.one (by decide) (by decide)) (by simp only [List.length_cons, List.length_nil]; omega)
  · exact h1
  · exact ((h1.sub (fun x hx => by rw [List.mem_singleton.mp hx]; exact hc0) (by simp)).app (EnT.one (by decide) (by decide)) (by simp)).app h2 (by simp; omega)
  · exact ht.app (EnT.one (by decide) (by decide)) (by simp only [List.length_cons, List.length_nil]; omega)
  · exact ht.up
  · exact ht.app h4 (by simp only [List.length_cons, List.length_nil]; omega)
  · exact h1.app h3 (by omega)
  · exact h1.app (EnT.one (by decide) (by decide)) (by simp only [List.length_cons, List.length_nil]; omega)
  · exact h1.app (h3.sub (fun c hc => List.mem_of_mem_drop hc) (by rw [List.length_drop]; omega)) (by rw [List.length_drop]; omega)
  · exact (h1.app (h3.sub (fun c hc => List.mem_of_mem_take hc) (by omega)) (by omega)).app (h3.sub (fun x hx => by rw [List.mem_singleton.mp hx]; exact hsc) (by simp)) (by simp only [List.length_append, List.length_cons, List.length_nil]; omega)
structure EnL (sg : List Nat) (es : List (List Nat)) : Prop where
  n : es ≠ []
  l : es.length ≤ 7
  t : ∀ t ∈ es, EnT t
theorem EnL.of {sg : List Nat} {es : List (List Nat)} (h1 : 1 ≤ es.length) (h2 : es.length ≤ 7) (h3 : ∀ t ∈ es, EnT t) : EnL sg es := ⟨fun e => (by rw [e] at h1; cases h1), h2, h3⟩
theorem EnT.nil : EnT [] := ⟨by simp, (fun _ z => absurd z List.not_mem_nil), List.not_mem_nil⟩
theorem lists_ok {sg e : List Nat} {es : List (List Nat)} {at0 : Nat} (h1 : 2 ≤ es.length) (h2 : es.length ≤ 5) (h3 : ∀ t ∈ es, EnT t) (ha : at0 < es.length) (he : EnT e) :
    EnL sg (es.take (es.length - 1)) ∧ EnL sg (es.drop 1) ∧ EnL sg [[]] ∧ EnL sg (es ++ [[]]) ∧ EnL sg ([[]] ++ es) ∧ EnL sg (es.take at0 ++ [[]] ++ es.drop at0) ∧ EnL sg (es ++ [e]) ∧ EnL sg (es.take at0 ++ es.drop (at0 + 1)) ∧ EnL sg es.reverse ∧ EnL sg (es.take at0 ++ [e] ++ es.drop (at0 + 1)) := by
  have tk : ∀ n, ∀ t ∈ es.take n, EnT t := fun n t h => h3 t (List.mem_of_mem_take h)
  have dr : ∀ n, ∀ t ∈ es.drop n, EnT t := fun n t h => h3 t (List.mem_of_mem_drop h)
  have ni : ∀ t ∈ ([[]] : List (List Nat)), EnT t := fun t h => by rw [List.mem_singleton.mp h]; exact EnT.nil
  have ei : ∀ t ∈ ([e] : List (List Nat)), EnT t := fun t h => by rw [List.mem_singleton.mp h]; exact he
  have ap : ∀ {a b : List (List Nat)}, (∀ t ∈ a, EnT t) → (∀ t ∈ b, EnT t) → ∀ t ∈ a ++ b, EnT t := fun h1 h2 t h => (List.mem_append.mp h).elim (h1 t) (h2 t)
  refine ⟨EnL.of ?_ ?_ (tk _), EnL.of ?_ ?_ (dr _), EnL.of ?_ ?_ ni, EnL.of ?_ ?_ (ap h3 ni), EnL.of ?_ ?_ (ap ni h3), EnL.of ?_ ?_ (ap (ap (tk _) ni) (dr _)), EnL.of ?_ ?_ (ap h3 ei), EnL.of ?_ ?_ (ap (tk _) (dr _)), EnL.of ?_ ?_ (fun t h => h3 t (List.mem_reverse.mp h)), EnL.of ?_ ?_ (ap (ap (tk _) ei) (dr _))⟩
  all_goals
    simp only [List.length_append, List.length_take, List.length_drop, List.length_reverse, List.length_cons, List.length_nil]
    omega
def spChanged : Sp := fun vs H Q _ => ∃ (b g u p : Addr) (n : Nat) (sg : List Nat) (es : List (List Nat)), vs = [.ref b, .int (n : Int), .ref p, .str (S sg)] ∧ BagB H b g u ∧ p ∉ [b, g] ∧ n < 24 ∧ SgOk sg ∧ SgL sg ∧ H p = some (.lst (es.map fun t => V.str (S t))) ∧ es.length = sg.length ∧ (∀ t ∈ es, 3 ≤ t.length ∧ t.length ≤ 7 ∧ EnT t) ∧
  ∀ (p' : Addr) (es' : List (List Nat)) (H' : Hp), H' p' = some (.lst (es'.map fun t => V.str (S t))) → EnL sg es' → BagB H' b g u → Fr [b, g] H H' → Q (.ref p') H'
namespace Ch
theorem scChanged : FnScope ["_law_bag_here", "_law_change", "_law_entries", "_law_signs_here", "_law_at", "_law_rest", "_law_one", "_law_other", "_law_head", "_law_tail", "_law_menu", "_law_rows", "_law_lists"] ["_law_bag_here", "_law_change", "_law_entries", "_law_signs_here"] (defScope sChanged) := ⟨rfl, rfl, rfl, by decide +kernel, rfl, by decide +kernel, by decide +kernel⟩
theorem ok_changed (T : Fns K mg a d) : FnOk P w K mg base CX0 2 a.aChanged d.dChanged ["_law_bag_here", "_law_change", "_law_entries", "_law_signs_here"] spChanged := by
  have GTake := ok_take (P := P) (w := w) (base := base) T
  refine T.FChanged.ok scChanged (fun vs H Q E h => ?_) (fun cdv A0 outer s H vs Q E hr h => ?_)
  · obtain ⟨b, g, u, p, n, sg, es, rfl, _⟩ := h
    rfl
  · obtain ⟨b, g, u, p, n, sg, es, rfl, hB, hpb, hn, hsg, hs, hp, hel, het, kq⟩ := h
    have hl5 := hsg.l
    have hl0 := hs.1
    have hpl := hp
    refine ⟨_, ((pss_cons (ps_set (i := 4) scChanged.nd rfl (Or.inl rfl) (pe_call GTake (hr.mono (by decide)) (by rfl) T.gTake T.FTake.kp T.bTake .nil pass0 (pa_cons (pv 0) (pa_cons (pe_callB call_len_seq (by rfl) T.z_len (by decide +kernel) (pa_cons (pv 2) pa_nil)) pa_nil))))
      (pss_cons (ps_setLc (i := 5) (own := [("_law_one", 6)]) (g := gName 6) (by rfl) scChanged.nd rfl rfl (by rfl) (pi_str (pe_strS (l := kStrM16_0) kStrM16_0_eq)) (blkOk_by (own := [("_law_one", 6)]) (N := ["_law_bag_here", "_law_change", "_law_entries", "_law_signs_here", "_law_at", "_law_rest", "_law_one", "_law_other", "_law_head", "_law_tail", "_law_menu", "_law_rows", "_law_lists"]) (sc := defScope sChanged) (by decide +kernel)) (fun _ _ _ _ _ => pg_name (i := 6) scChanged.nd rfl (Or.inl rfl)) (fun _ _ _ _ _ => (pts_one (pt_cmpR op_notInS (pv 6) (pv 3) rfl))) (fun _ _ _ _ _ => (pv 6)))
      (pss_cons (ps_set (i := 7) scChanged.nd rfl (Or.inl rfl) (pe_ix (r := rIxL K) ix_list (pv 5) (pe_call GTake (hr.mono (by decide)) (by rfl) T.gTake T.FTake.kp T.bTake .nil pass0 (pa_cons (pv 0) (pa_cons (pe_callB call_len_seq (by rfl) T.z_len (by decide +kernel) (pa_cons (pv 5) pa_nil)) pa_nil))) (fun _ _ => rfl)))
      (pss_cons (ps_set (i := 8) scChanged.nd rfl (Or.inl rfl) (pe_slice sl_str (pe_ix (r := rIxL K) ix_list (pv 2) (pv 4) (fun _ _ => rfl)) po_none (po_some pe_int)))
      (pss_cons (ps_set (i := 9) scChanged.nd rfl (Or.inl rfl) (pe_slice sl_str (pe_ix (r := rIxL K) ix_list (pv 2) (pv 4) (fun _ _ => rfl)) (po_some pe_int) po_none))
      (pss_cons (ps_set (i := 10) scChanged.nd rfl (Or.inl rfl) (pe_lst (pa_cons (pe_op op_addS (pv 8) (pv 9)) (pa_cons (pe_op op_addS (pe_op op_addS (pv 7) (pe_strS (l := [62]) (by decide +kernel))) (pv 9)) (pa_cons (pv 9) (pa_cons (pe_op op_addS (pv 8) (pe_revS (pv 9))) (pa_cons (pe_op op_addS (pe_op op_addS (pv 8) (pv 9)) (pe_ix ix_str (pv 9) (pe_un un_neg pe_int) (fun _ _ => rfl))) (pa_cons (pe_op op_addS (pe_op op_addS (pv 8) (pv 9)) (pe_strS (l := [46]) (by decide +kernel))) (pa_cons (pv 8) pa_nil)))))))))
      (pss_cons (ps_set (i := 10) scChanged.nd rfl (Or.inl rfl) (pe_op op_cat (pv 10) (pe_lst (pa_cons (pe_op op_addS (pe_op op_addS (pe_ix ix_str (pv 8) pe_int (fun _ _ => rfl)) (pe_strS (l := [58]) (by decide +kernel))) (pv 9)) (pa_cons (pe_op op_addS (pe_op op_addS (pv 8) (pv 9)) (pe_strS (l := [10]) (by decide +kernel))) (pa_cons (pe_upper (pe_op op_addS (pv 8) (pv 9))) (pa_cons (pe_op op_addS (pe_op op_addS (pv 8) (pv 9)) (pv 7)) (pa_cons (pe_op op_addS (pv 8) (pv 3)) pa_nil))))))))
      (pss_cons (ps_set (i := 10) scChanged.nd rfl (Or.inl rfl) (pe_op op_cat (pv 10) (pe_lst (pa_cons (pe_op op_addS (pv 8) (pe_strS (l := [46]) (by decide +kernel))) (pa_cons (pe_op op_addS (pv 8) (pe_slice sl_str (pv 3) (po_some (pv 4)) po_none)) (pa_cons (pe_op op_addS (pe_op op_addS (pv 8) (pe_slice sl_str (pv 3) po_none (po_some (pe_op op_add (pv 4) pe_int)))) (pe_ix ix_str (pv 3) (pv 4) (fun _ _ => rfl))) pa_nil))))))
      (pss_cons (ps_set (i := 11) scChanged.nd rfl (Or.inl rfl) (PE.imp (t' := tRows) (pe_op op_cat (pe_op op_cat (pe_slice sl_list (pv 2) po_none (po_some (pv 4))) (pe_lst (pa_cons (pe_ifExp (pt_cmpR op_lt (pv 1) pe_int (nomark _)) (pe_ix (r := rIxL K) ix_list (pv 10) (pv 1) (fun _ _ => rfl)) (pe_ix (r := rIxL K) ix_list (pv 10) pe_int (fun _ _ => rfl))) pa_nil))) (pe_slice sl_list (pv 2) (po_some (pe_op op_add (pv 4) pe_int)) po_none)) ?h11))
      (pss_cons (ps_set (i := 12) scChanged.nd rfl (Or.inl rfl) (pe_lst (pa_cons (pe_slice sl_list (pv 2) po_none (po_some (pe_un un_neg pe_int))) (pa_cons (pe_slice sl_list (pv 2) (po_some pe_int) po_none) (pa_cons (pe_lst (pa_cons (pe_strS (l := []) (by decide +kernel)) pa_nil)) (pa_cons (pe_op op_cat (pv 2) (pe_lst (pa_cons (pe_strS (l := []) (by decide +kernel)) pa_nil))) (pa_cons (pe_op op_cat (pe_lst (pa_cons (pe_strS (l := []) (by decide +kernel)) pa_nil)) (pv 2)) (pa_cons (pe_op op_cat (pe_op op_cat (pe_slice sl_list (pv 2) po_none (po_some (pv 4))) (pe_lst (pa_cons (pe_strS (l := []) (by decide +kernel)) pa_nil))) (pe_slice sl_list (pv 2) (po_some (pv 4)) po_none)) pa_nil))))))))
      (pss_cons (ps_set (i := 12) scChanged.nd rfl (Or.inl rfl) (pe_op op_cat (pv 12) (pe_lst (pa_cons (pe_op op_cat (pv 2) (pe_lst (pa_cons (pe_ix (r := rIxL K) ix_list (pv 2) (pv 4) (fun _ _ => rfl)) pa_nil))) (pa_cons (pe_op op_cat (pe_slice sl_list (pv 2) po_none (po_some (pv 4))) (pe_slice sl_list (pv 2) (po_some (pe_op op_add (pv 4) pe_int)) po_none)) (pa_cons (pe_revL (pv 2)) pa_nil))))))
      (pss_one (ps_ret (pe_ifExp (pt_cmpR op_lt (pv 1) pe_int (nomark _)) (pv 11) (pe_ix (r := rIxL K) ix_list (pv 12) (pe_op op_sub (pv 1) pe_int) (fun _ _ => rfl))))))))))))))))), ?_⟩
    case h11 =>
      rintro σ H Q ⟨p, M, es, ms, at0, n, e2, e10, e4, e1, hp, hM, hml, hel, k⟩
      obtain ⟨t0, ht0⟩ : ∃ t, ms[0]? = some t := ⟨_, List.getElem?_eq_getElem (by omega)⟩
      have hv0 : atI (ms.map fun t => V.str (S t)) 0 = some (V.str (S t0)) := atI_nat (j := 0) (by rw [List.getElem?_map, ht0]; rfl)
      have hl1 := List.length_take_le at0 (es.map fun t => V.str (S t))
      have fin : ∀ (t : List Nat) (G : Hp) (q : Addr), t ∈ ms → Same H G → G q = some (.lst ((es.map fun t => V.str (S t)).take at0 ++ [V.str (S t)] ++ (es.map fun t => V.str (S t)).drop (at0 + 1))) → Q (.ref q) G := fun t G q ht hs hq => k t ht q G hs (by
        rw [hq, List.map_append, List.map_append, List.map_take, List.map_drop]
        rfl)
      by_cases hn : n < 15
      · obtain ⟨t1, ht1⟩ : ∃ t, ms[n]? = some t := ⟨_, List.getElem?_eq_getElem (by omega)⟩
        have hv1 : (ms.map fun t => V.str (S t))[n]? = some (V.str (S t1)) := by rw [List.getElem?_map, ht1]; rfl
        walk_at "go"
        exact fin t1 _ _ (List.mem_of_getElem? ht1) (fun c o hc => by walk_at "lk") upd_same
      · walk_at "go"
        exact fin t0 _ _ (List.mem_of_getElem? ht0) (fun c o hc => by walk_at "lk") upd_same
    walk_at "go"
    refine ⟨b, g, u, es.length, by simp, hB, by omega, by omega, fun at0 H1 hat hB1 f1 => ?_⟩
    have hp1 := f1 _ _ hpb hp
    obtain ⟨e, he⟩ : ∃ e, es[at0]? = some e := ⟨_, List.getElem?_eq_getElem hat⟩
    have hem := het e (List.mem_of_getElem? he)
    have hev : (es.map fun t => V.str (S t))[at0]? = some (V.str (S e)) := by rw [List.getElem?_map, he]; rfl
    walk_at "go"
    rename_i D hD
    have eaz : kStrM16_0 = azL := by decide +kernel
    rw [eaz]
    have hrl := List.length_filter_le (fun c => decide (c ∉ sg)) azL
    rw [az_len] at hrl
    refine lcg_S (fun j H' => Stop (H' D = some (.lst (((azL.take j).filter fun c => decide (c ∉ sg)).map fun c => V.str (S [c]))) ∧ Same H1 H')) ⟨upd_same, Same.upd_new hD⟩ (fun _ => rfl) (fun j c H' hc hP2 => ?_) (fun H' hP2 => ?_)
    · obtain ⟨h8, s8⟩ := hP2
      have hjl := (List.getElem?_eq_some_iff.mp hc).1
      have hfl := List.length_filter_le (fun c => decide (c ∉ sg)) (azL.take j)
      rw [List.length_take, az_len] at hfl
      by_cases hcs : c ∈ sg
      · walk_at "go"
        refine ⟨?_, s8⟩
        rw [h8, List.take_add_one, hc, List.filter_append, show List.filter (fun c => decide (c ∉ sg)) (some c).toList = [] from by simp [hcs], List.append_nil]
      · walk_at "go"
        refine ⟨?_, fun b o hb => ?_⟩
        · rw [upd_same, List.take_add_one, hc, List.filter_append, show List.filter (fun c => decide (c ∉ sg)) (some c).toList = [c] from by simp [hcs], List.map_append]
          rfl
        · rw [upd_ne (fun z => by rw [z, hD] at hb; cases hb)]
          exact s8 _ _ hb
    · obtain ⟨h8, s8⟩ := hP2
      have hpos := restO_pos hl5
      rw [show azL.take azL.length = azL from List.take_length] at h8
      have hmr : ∀ c ∈ azL.filter (fun c => decide (c ∉ sg)), c ∉ sg ∧ c ∈ azL := fun c hc => ⟨by simpa using (List.mem_filter.mp hc).2, (List.mem_filter.mp hc).1⟩
      generalize (azL.filter fun c => decide (c ∉ sg)) = rest at h8 hpos hrl hmr
      have hB2 : BagB H' b g u := hB1.same s8
      walk_at "go"
      refine ⟨b, g, u, rest.length, by rw [List.length_map], hB2, hpos, by omega, fun r2 H3 hr3 hB3 f3 => ?_⟩
      obtain ⟨o2, hd⟩ : ∃ d, rest[r2]? = some d := ⟨_, List.getElem?_eq_getElem hr3⟩
      have hdm := hmr o2 (List.mem_of_getElem? hd)
      have Db := hB1.ne hD
      have hD3 : H3 D = some (.lst (rest.map fun c => V.str (S [c]))) := f3 _ _ (by simp [Db.1, Db.2.1]) h8
      have hdv : (rest.map fun c => V.str (S [c]))[r2]? = some (V.str (S [o2])) := by rw [List.getElem?_map, hd]; rfl
      have hp3 := f3 _ _ hpb (s8 _ _ hp1)
      have f03 := f1.trans ((Fr.of_same s8).trans f3)
      have he7 := hem.2.1
      have he3 := hem.1
      obtain ⟨cl, hcl, hclm⟩ : ∃ c, atI (List.drop 2 e) (-1) = some c ∧ c ∈ List.drop 2 e := ⟨(List.drop 2 e)[(List.drop 2 e).length - 1]'(by rw [List.length_drop]; omega), atI_last (by rw [List.length_drop]; omega), List.getElem_mem _⟩
      obtain ⟨c0, hc0⟩ : ∃ c, e[0]? = some c := ⟨_, List.getElem?_eq_getElem (by omega)⟩
      have hc02 : (List.take 2 e)[0]? = some c0 := by rw [List.getElem?_take_of_lt (by decide), hc0]
      have hc0i : atI (List.take 2 e) 0 = some c0 := atI_nat (j := 0) hc02
      obtain ⟨sc, hsc⟩ : ∃ c, sg[at0]? = some c := ⟨_, List.getElem?_eq_getElem (by omega)⟩
      walk_at "go"
      have hE : EnT (List.take 2 e ++ List.drop 2 e) := by rw [List.take_append_drop]; exact hem.2.2
      rename_i M1 g1 M2 g2 M3 g3 M4 g4 M5 g5
      rw [up_S _ hE.c] at g3 g4 g5 ⊢
      have hsgE : EnT sg := ⟨by omega, hsg.c, fun z => by have := hs.2 32 z; omega⟩
      have hhd : EnT (List.take 2 e) := hem.2.2.sub (fun c hc => List.mem_of_mem_take hc) (by rw [List.length_take]; omega)
      have htl : EnT (List.drop 2 e) := hem.2.2.sub (fun c hc => List.mem_of_mem_drop hc) (by rw [List.length_drop]; omega)
      have ho2 : 97 ≤ o2 ∧ o2 ≤ 122 := (by decide +kernel : ∀ c ∈ azL, 97 ≤ c ∧ c ≤ 122) o2 hdm.2
      have hmn := menu_ok (at0 := at0) hhd (by rw [List.length_take]; omega) htl (by rw [List.length_drop]; omega) hsgE hl5 (EnT.one (show o2 < 128 by omega) (by omega)) hclm (List.mem_of_getElem? hc02) (List.mem_of_getElem? hsc)
      refine ⟨p, M5, es, ([List.take 2 e ++ List.drop 2 e, [o2] ++ [62] ++ List.drop 2 e, List.drop 2 e, List.take 2 e ++ (List.drop 2 e).reverse, List.take 2 e ++ List.drop 2 e ++ [cl], List.take 2 e ++ List.drop 2 e ++ [46], List.take 2 e, [c0] ++ [58] ++ List.drop 2 e, List.take 2 e ++ List.drop 2 e ++ [10], (List.take 2 e ++ List.drop 2 e).map up1, List.take 2 e ++ List.drop 2 e ++ [o2], List.take 2 e ++ sg, List.take 2 e ++ [46], List.take 2 e ++ sg.drop at0, List.take 2 e ++ sg.take (at0 + 1) ++ [sc]] : List (List Nat)), at0, n, rfl, rfl, rfl, rfl, by walk_at "lk", upd_same, rfl, by omega, fun t ht R0 H4 s4 hR => ?_⟩
      have hte := hmn t ht
      have s34 : Same H3 H4 := fun c o hc => s4 _ _ (by walk_at "lk")
      clear s4 hmn ht
      have hp4 := s34 _ _ hp3
      have hB4 := hB3.same s34
      have f04 := f03.trans (Fr.of_same s34)
      clear hD3 hdv hcl hc0i hc02 hE g1 g2 g3 g4 g5
      have hok := lists_ok (sg := sg) (e := e) (at0 := at0) (es := es) (by omega) (by omega) (fun t h => (het t h).2.2) hat hem.2.2
      have hok2 := lists_ok (sg := sg) (e := t) (at0 := at0) (es := es) (by omega) (by omega) (fun t h => (het t h).2.2) hat hte
      have fin : ∀ (es' : List (List Nat)) (q : Addr) (xs : List V) (G : Hp), EnL sg es' → Same H4 G → G q = some (.lst xs) → xs = (es'.map fun t => V.str (S t)) → Q (.ref q) G := fun es' q xs G h1 h3 h4 h2 => kq q es' G (by rw [h4, h2]) h1 (hB4.same h3) (f04.trans (Fr.of_same h3))
      clear kq hmr hpos hrl hB hB1 hB2 hB3 f1 f3 f03 hp hp1 hp3 hpl
      walk_at "go"
      · exact fin (es.take at0 ++ [t] ++ es.drop (at0 + 1)) _ _ _ hok2.2.2.2.2.2.2.2.2.2 (fun c o hc => by walk_at "lk") (by walk_at "lk") rfl
      · obtain ⟨m, rfl⟩ : ∃ m, n = 15 + m := ⟨n - 15, by omega⟩
        rw [show ((15 + m : Nat) : Int) - 15 = (m : Int) by omega]
        have hm9 : m < 9 := by omega
        obtain ⟨k0, k1, k2, k3, k4, k5, k6, k7, k8, _⟩ := hok
        have hd1 : (es.map fun t => V.str (S t)).length - 1 = es.length - 1 := by rw [List.length_map]
        rcases m with _ | _ | _ | _ | _ | _ | _ | _ | _ | m
        · exact iIxL (SqL.of upd_same) (atI_nat (j := 0) rfl) (fin _ _ _ _ k0 (fun c o hc => by walk_at "lk") (by walk_at "lk") (by rw [hd1, List.map_take]))
        · exact iIxL (SqL.of upd_same) (atI_nat (j := 1) rfl) (fin _ _ _ _ k1 (fun c o hc => by walk_at "lk") (by walk_at "lk") (by rw [List.map_drop]))
        · exact iIxL (SqL.of upd_same) (atI_nat (j := 2) rfl) (fin _ _ _ _ k2 (fun c o hc => by walk_at "lk") (by walk_at "lk") rfl)
        · exact iIxL (SqL.of upd_same) (atI_nat (j := 3) rfl) (fin _ _ _ _ k3 (fun c o hc => by walk_at "lk") (by walk_at "lk") (by rw [List.map_append]; try rfl))
        · exact iIxL (SqL.of upd_same) (atI_nat (j := 4) rfl) (fin _ _ _ _ k4 (fun c o hc => by walk_at "lk") (by walk_at "lk") (by rw [List.map_append]; try rfl))
        · exact iIxL (SqL.of upd_same) (atI_nat (j := 5) rfl) (fin _ _ _ _ k5 (fun c o hc => by walk_at "lk") (by walk_at "lk") (by rw [List.map_append, List.map_append, List.map_take, List.map_drop]; rfl))
        · exact iIxL (SqL.of upd_same) (atI_nat (j := 6) rfl) (fin _ _ _ _ k6 (fun c o hc => by walk_at "lk") (by walk_at "lk") (by rw [List.map_append]; try rfl))
        · exact iIxL (SqL.of upd_same) (atI_nat (j := 7) rfl) (fin _ _ _ _ k7 (fun c o hc => by walk_at "lk") (by walk_at "lk") (by rw [List.map_append, List.map_take, List.map_drop]))
        · exact iIxL (SqL.of upd_same) (atI_nat (j := 8) rfl) (fin _ _ _ _ k8 (fun c o hc => by walk_at "lk") (by walk_at "lk") (by rw [List.map_reverse]))
        · omega
end Ch
end
end
section
set_option Elab.async false
set_option linter.all false
set_option maxRecDepth 100000
set_option maxHeartbeats 4000000
open PySem PySem.Spec PyProof.Rows L2 NSet

local macro_rules | `(tactic| walk_at "side") => `(tactic| exact .inl (by assumption))
local macro_rules | `(tactic| walk_at "go1") => `(tactic| (with_reducible refine iGTup (by assumption) rfl ?_))
local macro_rules | `(tactic| walk_at "go1") => `(tactic| (with_reducible refine iGCons ?_))
local macro_rules | `(tactic| walk_at "go1") => `(tactic| (with_reducible refine iGNil ?_))
local macro_rules | `(tactic| walk_at "go1") => `(tactic| (with_reducible refine iMakeV ?_))
local macro_rules | `(tactic| walk_at "go1") => `(tactic| (with_reducible refine iMakeD ?_))
local macro_rules | `(tactic| walk_at "go1") => `(tactic| (with_reducible refine iLc2S ?_))
local macro_rules | `(tactic| walk_at "go1") => `(tactic| (with_reducible refine iLc2L ?_))
local macro_rules | `(tactic| walk_at "go1") => `(tactic| (with_reducible refine iIStr ?_))
local macro_rules | `(tactic| walk_at "go1") => `(tactic| (with_reducible refine iIxI ?_))
local macro_rules | `(tactic| walk_at "go1") => `(tactic| (with_reducible refine iCMeth ?_))

section
variable {P : Program} {w : World} {K : PySem.W.Frag} {mg : Str → Option Value} {base : Heap} {a : Ad} {d : Fd}
local macro_rules | `(tactic| walk_at "go1") => `(tactic| (with_reducible refine iCMethS ?_))
local macro_rules | `(tactic| walk_at "go1") => `(tactic| (with_reducible refine iCallSH ?_))
theorem due_ex (sg : List Nat) (es : List (List Nat)) : ∃ z, Due sg es z ∧ (z = -1 ∨ ∃ k : Nat, z = k) := by
  have dec : ∀ j, Decidable (badAt sg es j) := fun j => Classical.propDecidable _
  by_cases h : ∃ j, badAt sg es j
  · obtain ⟨j, hj⟩ := h
    have key : ∀ n j, j ≤ n → badAt sg es j → ∃ k, badAt sg es k ∧ ∀ i, i < k → ¬ badAt sg es i := by
      intro n
      induction n with
      | zero => exact fun j hj h => ⟨j, h, fun i hi => by omega⟩
      | succ n ih =>
        intro j hj h
        by_cases g : ∃ i, i < j ∧ badAt sg es i
        · obtain ⟨i, hi, hb⟩ := g
          exact ih i (by omega) hb
        · exact ⟨j, h, fun i hi hb => g ⟨i, hi, hb⟩⟩
    obtain ⟨k, hk, hn⟩ := key j j (Nat.le_refl _) hj
    exact ⟨k, .inl ⟨k, hk, hn, rfl⟩, .inr ⟨k, rfl⟩⟩
  · refine ⟨_, .inr ⟨fun j hj => h ⟨j, hj⟩, rfl⟩, ?_⟩
    split
    · exact .inr ⟨_, rfl⟩
    · split
      · exact .inr ⟨_, rfl⟩
      · exact .inl rfl
theorem ent_outs {sg : List Nat} {c : Nat} {t : List Nat} (h : entB sg c t = true) : Asc (outE t) := by
  unfold entB at h
  rw [Bool.and_eq_true, Bool.or_eq_true] at h
  unfold outE
  rcases h.2 with e | e
  · rw [decide_eq_true_iff] at e
    rw [e]
    exact List.Pairwise.nil
  · rw [Bool.and_eq_true] at e
    exact List.Pairwise.sublist List.filter_sublist (ascB_iff.mp e.2).2
theorem row_ent {sg : List Nat} {es : List (List Nat)} (hsg : SgOk sg) (h : Due sg es (-1)) : outsL sg (relQ (entP es)) = es.map outE := by
  obtain ⟨hn, hel⟩ := due_neg h
  have good : ∀ (i c : Nat) (t : List Nat), sg[i]? = some c → es[i]? = some t → entB sg c t = true := fun i c t h1 h2 => by
    cases hb : entB sg c t with
    | true => rfl
    | false => exact absurd ⟨c, t, h1, h2, hb⟩ (hn i)
  unfold outsL
  refine List.ext_getElem (by rw [List.length_map, List.length_map, hel]) fun i h1 h2 => ?_
  rw [List.length_map] at h1 h2
  rw [List.getElem_map, List.getElem_map]
  have g := good i sg[i] es[i] (List.getElem?_eq_getElem h1) (List.getElem?_eq_getElem h2)
  obtain ⟨sh, inn⟩ := ent_shape g
  refine uniqA (List.Pairwise.filter _ hsg.a) (ent_outs g) fun x => ?_
  rw [List.mem_filter]
  unfold relQ entP
  rw [decide_eq_true_iff, List.mem_flatMap]
  constructor
  · rintro ⟨hx, t, ht, h⟩
    obtain ⟨o, ho, e⟩ := List.mem_map.mp h
    obtain ⟨j, hj, rfl⟩ := List.getElem_of_mem ht
    have gj := good j sg[j] es[j] (List.getElem?_eq_getElem (by omega)) (List.getElem?_eq_getElem hj)
    have shj := (ent_shape gj).1
    have e1 : (es[j]).headD 0 = sg[i] := congrArg Prod.fst e
    have e2 : o = x := congrArg Prod.snd e
    rw [shj] at e1
    have e3 : sg[j]'(by omega) = sg[i] := e1
    have ij : j = i := by
      have pw := List.pairwise_iff_getElem.mp hsg.a
      rcases Nat.lt_trichotomy j i with q | q | q
      · have := pw j i (by omega) h1 q
        omega
      · exact q
      · have := pw i j h1 (by omega) q
        omega
    subst ij
    rw [← e2]
    exact ho
  · intro hx
    refine ⟨inn x hx, es[i], List.getElem_mem h2, List.mem_map.mpr ⟨x, hx, ?_⟩⟩
    rw [sh]
    rfl
def spReads (a : Ad) : Sp := fun vs H Q _ => ∃ (al : Addr) (sg W : List Nat) (es : List (List Nat)), vs = [.ref al, .str (S sg), .str (S (spaced es))] ∧ AlG a.cAlphabet H al sg W ∧ SgOk sg ∧ EnL sg es ∧ ∀ H', Same H H' → Q (.bl true) H'
theorem spaced_le {sg : List Nat} {es : List (List Nat)} (h : EnL sg es) : (spaced es).length ≤ 150 := by
  have h1 := spaced_len es
  have h2 : ∀ l : List (List Nat), (∀ t ∈ l, t.length ≤ 20) → wsum l ≤ 21 * l.length := fun l hl => by
    induction l with
    | nil => exact Nat.zero_le _
    | cons x l ih =>
      have := hl x List.mem_cons_self
      have := ih fun t ht => hl t (List.mem_cons_of_mem _ ht)
      rw [wsum_cons, List.length_cons]
      omega
  have := h2 es fun t ht => (h.t t ht).l
  have := h.l
  omega
theorem repl_dot {r : List Nat} : Txt.replace (S r) (PySem.Str.ofString ".") (PySem.Str.ofString "") = S (r.filter fun o => decide (o ≠ 46)) := by
  have e1 : PySem.Str.ofString "." = S [46] := by decide +kernel
  have e2 : PySem.Str.ofString "" = S [] := by decide +kernel
  rw [e1, e2, repl_S (by decide)]
  congr 1
  refine List.filter_congr fun x _ => ?_
  rw [Bool.eq_iff_iff, bne_iff_ne, decide_eq_true_iff]
namespace Rd
theorem scReads : FnScope ["_law_alphabet", "_law_signs_here", "_law_written_here", "_law_entries", "_law_due", "_law_told", "e", "_law_entry"] ["_law_alphabet", "_law_signs_here", "_law_written_here"] (defScope sReads) := ⟨rfl, rfl, rfl, by decide +kernel, rfl, by decide +kernel, by decide +kernel⟩
theorem ok_reads (T : Fns K mg a d) (MT : Mk K a.cTable a.aTInit) (bTInit : Binds K d.dTInit ["self", "alphabet", "pairs"] []) (BBadEntry : ErrX K a a.cBadEntry a.cBadPair "index") (GBadEntry : FnOk P w K mg base CX0 1 a.eBadEntry d.eBadEntry ["self", "index"] (spErrI a.cBadEntry "index")) : FnOk P w K mg base CX0 9 a.aReads d.dReads ["_law_alphabet", "_law_signs_here", "_law_written_here"] (spReads a) := by
  have HInteger := ok_integerH (P := P) (w := w) (base := base) T
  have GTRead := ok_readA (P := P) (w := w) (base := base) T MT bTInit GBadEntry
  have GIs := ok_is (P := P) (w := w) (base := base) T
  have GIndex := ok_index (P := P) (w := w) (base := base) T
  refine T.FReads.ok scReads (fun vs H Q E h => ?_) (fun cdv A0 outer s H vs Q E hr h => ?_)
  · obtain ⟨al, sg, W, es, rfl, _⟩ := h
    rfl
  · obtain ⟨al, sg, W, es, rfl, hal, hsg, hes, k⟩ := h
    have hsp := split_C (s := 32) (.inr rfl) (spaced es)
    rw [cut_spaced hes.n fun t ht => (hes.t t ht).s] at hsp
    have hwl := spaced_le hes
    generalize spaced es = wr at hsp hwl ⊢
    obtain ⟨z, hz, hz2⟩ := due_ex sg es
    have hesl := hes.l
    refine ⟨_, ((pss_cons (ps_set (i := 3) scReads.nd rfl (Or.inl rfl) (pe_split (pv 2) (pe_strS (l := [32]) (by decide +kernel))))
      (pss_cons (ps_set (i := 4) scReads.nd rfl (Or.inl rfl) (pe_call GIndex (hr.mono (by decide)) (by rfl) T.gIndex T.FIndex.kp T.bIndex .nil pass0 (pa_cons (pv 3) (pa_cons (pv 1) pa_nil))))
      (pss_cons (L2N.ps_try_as (i := 6) (tb := _) (ts := _) (Wout := fun _ _ _ _ => False) rfl rfl scReads.nd rfl rfl ⟨rfl, by decide, Or.inl T.gcBadEntry⟩ takes0N (fun W pn xe tk _ => (pss_one (ps_set (i := 5) scReads.nd rfl (Or.inl rfl) (pe_cmethS (pe_glob (v := .ref a.cTable) (by rfl) T.gcTable rfl) T.crT T.cTRead (GTRead.raw T.bTRead .nil) (hr.mono (by decide)) (fun σ => L2N.passAt tk σ) (pa_cons (pv 0) (pa_cons (pv 2) pa_nil)))))) (fun ab oe cls db pn hz hf => (pss_cons (ps_if (PW.pt (pw_or (pt_not (pt_val (pe_callB (call_isX hz.zc hf) (by rfl) T.z_isinstance (by decide +kernel) (pa_cons (pv 6) (pa_cons (pe_glob (v := .ref a.cTale) (by rfl) T.gcTaleError rfl) pa_nil))))) (pw_or (pt_not (pt_val (pe_callB (call_isX hz.zc hf) (by rfl) T.z_isinstance (by decide +kernel) (pa_cons (pv 6) (pa_cons (pe_bltn (v := .ty "ValueError") (by rfl) T.z_VE (by decide +kernel) rfl) pa_nil))))) (pw_or1 (pt_val (pe_callB (call_isX hz.zc hf) (by rfl) T.z_isinstance (by decide +kernel) (pa_cons (pv 6) (pa_cons (pe_glob (v := .ref a.cBadPair) (by rfl) T.gcBadPair rfl) pa_nil)))))))) (pss_one (ps_ret pe_bl)) pss_nil)
      (pss_one (ps_ret (pe_and (L2H.pe_callH (E := fun _ => E0) HInteger (roomH_mark (hr.mono (by decide)) _) (hot_of hz hf) (by rfl) T.gInteger T.FInteger.kp T.bInteger passH (pa_cons (pe_xf BBadEntry.xf BBadEntry.np hz.zc hf (pv 6)) pa_nil)) (pe_one (pe_cmpR op_eq (pe_xf BBadEntry.xf BBadEntry.np hz.zc hf (pv 6)) (pv 4) (nomark _)))))))))
      (pss_one (ps_ret (pe_and (pe_cmpR op_eq (pv 4) (pe_un un_neg pe_int) (nomark _)) (pe_one (pe_call GIs (hr.mono (by decide)) (by rfl) T.gIs T.FIs.kp T.bIs .nil pass0 (pa_cons (pv 5) (pa_cons (pv 1) (pa_cons (pe_lc (own := [("_law_entry", 7)]) (g := gName 7) (by rfl) scReads.nd (pi_list (pv 3)) (blkOk_by (own := [("_law_entry", 7)]) (N := ["_law_alphabet", "_law_signs_here", "_law_written_here", "_law_entries", "_law_due", "_law_told", "e", "_law_entry"]) (sc := defScope sReads) (by decide +kernel)) (fun _ _ _ _ _ => pg_name (i := 7) scReads.nd rfl (Or.inl rfl)) (fun _ _ _ _ _ => pts_nil) (fun _ _ _ _ _ => (pe_replSl (pv 7) (by decide +kernel)))) pa_nil)))))))))))), ?_⟩
    walk_at "go"
    rename_i p hpn
    have hpl : (upd H p (.lst ((Txt.split (S wr) (S [32])).map V.str))) p = some (.lst (es.map fun t => V.str (S t))) := by
      rw [upd_same, hsp, List.map_map]
      rfl
    have s0 : Same H (upd H p (.lst ((Txt.split (S wr) (S [32])).map V.str))) := Same.upd_new hpn
    generalize upd H p (.lst ((Txt.split (S wr) (S [32])).map V.str)) = H0 at hpl s0 ⊢
    refine ⟨p, sg, es, rfl, hsg, hpl, fun t ht => by have := (hes.t t ht).l; omega, by omega, fun z2 hz3 => ?_⟩
    have ez := Due.uniq hz3 hz
    subst ez
    have hal0 := hal.same s0
    have hlow : ∀ t ∈ es, t.length ≤ 60 ∧ ∀ c ∈ t, c < 128 := fun t ht => ⟨by have := (hes.t t ht).l; omega, (hes.t t ht).c⟩
    walk_at "go"
    rcases hz2 with rfl | ⟨k0, rfl⟩
    · refine .inl ⟨al, wr, sg, W, es, rfl, hal0, hsg, by omega, hsp, hlow, hz, fun t H1 s1 hT => ?_⟩
      have hp1 := s1 _ _ hpl
      walk_at "go"
      rename_i D hD
      refine lcg_L (fun i H' => Stop (H' D = some (.lst ((es.take i).map fun t => V.str (S (outE t)))) ∧ Same H1 H')) ⟨upd_same, Same.upd_new hD⟩ (fun _ => rfl) (fun i H' _ h => SqL.of (by obtain ⟨_, s⟩ := h; exact s _ _ hp1)) ?_ ?_
      · rintro i x H5 hi ⟨h8, s8⟩
        rw [List.getElem?_map] at hi
        obtain ⟨t, ht, rfl⟩ := Option.map_eq_some_iff.mp hi
        have htl := (hlow t (List.mem_of_getElem? ht)).1
        have hil := (List.getElem?_eq_some_iff.mp ht).1
        walk_at "go"
        refine ⟨by rw [S_len, List.length_drop, show (PySem.Str.ofString "").length = 0 from by decide +kernel]; omega, _, h8, by rw [List.length_map, List.length_take, sizeLine_eq]; omega, ?_, fun c o hc => ?_⟩
        · rw [upd_same, repl_dot, List.take_add_one, ht, List.map_append]
          rfl
        · rw [upd_ne (fun z => by rw [z, hD] at hc; cases hc)]
          exact s8 _ _ hc
      · rintro H5 ⟨h8, s8⟩
        rw [List.length_map, List.take_length] at h8
        have hrow : RowAt H5 D sg (relQ (entP es)) := by
          unfold RowAt
          rw [row_ent hsg hz, h8, List.map_map]
          rfl
        walk_at "go"
        refine ⟨t, al, D, sg, W, _, rfl, hT.same s8, hsg, hrow, fun H6 s6 => ?_⟩
        walk_at "go"
        exact k _ (Vk.Same.trans s0 (Vk.Same.trans s1 (Vk.Same.trans s8 s6)))
    · refine .inr ⟨al, wr, sg, W, es, k0, rfl, hal0, hsg, by omega, hsp, by omega, hlow, hz, fun dd H1 h1 h2 s1 => ?_⟩
      refine ⟨true, BBadEntry.e1, fun _ ab hab => ?_, fun q => Bool.noConfusion q⟩
      walk_at "go"
      refine iIsX1 BBadEntry.ec h2 (.own a.cTale) BBadEntry.k1 ?_
      walk_at "go"
      refine iIsX1 BBadEntry.ec h2 (.ty "ValueError") BBadEntry.k2 ?_
      walk_at "go"
      refine iIsX1 BBadEntry.ec h2 (.own a.cBadPair) BBadEntry.k3 ?_
      walk_at "go"
      refine ⟨_, rfl, rfl, rfl, dd, _, _, rfl, h2, rfl, ?_⟩
      walk_at "go"
      refine ⟨_, rfl, ?_⟩
      walk_at "go"
      refine ⟨_, rfl, rfl, rfl, dd, _, _, rfl, h2, rfl, ?_⟩
      walk_at "go"
      rw [decide_eq_true rfl]
      exact k H1 (Vk.Same.trans s0 s1)
end Rd
end
end
section
set_option Elab.async false
set_option linter.all false
set_option maxRecDepth 100000
set_option maxHeartbeats 4000000
open PySem PySem.Spec PyProof.Rows L2 NSet

local macro_rules | `(tactic| walk_at "side") => `(tactic| exact .inl (by assumption))
local macro_rules | `(tactic| walk_at "go1") => `(tactic| (with_reducible refine iGTup (by assumption) rfl ?_))
local macro_rules | `(tactic| walk_at "go1") => `(tactic| (with_reducible refine iGCons ?_))
local macro_rules | `(tactic| walk_at "go1") => `(tactic| (with_reducible refine iGNil ?_))
local macro_rules | `(tactic| walk_at "go1") => `(tactic| (with_reducible refine iMakeV ?_))
local macro_rules | `(tactic| walk_at "go1") => `(tactic| (with_reducible refine iMakeD ?_))
local macro_rules | `(tactic| walk_at "go1") => `(tactic| (with_reducible refine iLc2S ?_))
local macro_rules | `(tactic| walk_at "go1") => `(tactic| (with_reducible refine iLc2L ?_))
local macro_rules | `(tactic| walk_at "go1") => `(tactic| (with_reducible refine iIStr ?_))
local macro_rules | `(tactic| walk_at "go1") => `(tactic| (with_reducible refine iIxI ?_))
local macro_rules | `(tactic| walk_at "go1") => `(tactic| (with_reducible refine iCMeth ?_))

section
variable {P : Program} {w : World} {K : PySem.W.Frag} {mg : Str → Option Value} {base : Heap} {a : Ad} {d : Fd}
theorem iBM0 {T : String} {K : PySem.W.Frag} {r : V → List V → Hp → VK → Prop} {te : TE} {σ : L2.St} {H : Hp} {Q : VK} (h : te σ H fun x H1 => tyV K T x H1 ∧ r x [] H1 Q) : tBM0 K T r te σ H Q := h
theorem iRevrs {l : Addr} {xs : List V} {H : Hp} {Q : VK} (h : H l = some (.lst xs)) (k : Q .non (upd H l (.lst xs.reverse))) : rReverse (.ref l) [] H Q := ⟨l, xs, rfl, rfl, h, k⟩
theorem iJoinSp {K : PySem.W.Frag} {p : Addr} {us : List (List Nat)} {H : Hp} {R : Str → List Str → Prop} (hp : H p = some (.lst (us.map fun t => V.str (S t)))) (hl : wsum us ≤ 4000) (h : R (S [32]) (us.map S)) : ∃ a p', ∃ ys : List Str, V.str (S [32]) = .str a ∧ [V.ref p] = [.ref p'] ∧ (SqL K H p' (ys.map V.str) ∨ SqT K H p' (ys.map V.str)) ∧
      (ys.map (·.length)).sum + ys.length * a.length ≤ 16777216 ∧ R a ys :=
  ⟨S [32], p, us.map S, rfl, rfl, .inl (SqL.of (by rw [hp, List.map_map]; rfl)), join_sum hl, h⟩
local macro_rules | `(tactic| walk_at "go1") => `(tactic| ((with_reducible apply iJoinSp); (walk_at "lk"); (walk_at "num"); (rw [join_sp])))
theorem EnL.ws {sg : List Nat} {es : List (List Nat)} (h : EnL sg es) : wsum es ≤ 4000 := by
  have h2 : ∀ l : List (List Nat), (∀ t ∈ l, t.length ≤ 20) → wsum l ≤ 21 * l.length := fun l hl => by
    induction l with
    | nil => exact Nat.zero_le _
    | cons x l ih =>
      have := hl x List.mem_cons_self
      have := ih fun t ht => hl t (List.mem_cons_of_mem _ ht)
      rw [wsum_cons, List.length_cons]
      omega
  have := h2 es fun t ht => (h.t t ht).l
  have := h.l
  omega
local macro_rules | `(tactic| walk_at "go1") => `(tactic| (with_reducible refine iCMeth ?_))
local macro_rules | `(tactic| walk_at "go1") => `(tactic| (with_reducible refine iBM0 ?_))
local macro_rules | `(tactic| walk_at "go1") => `(tactic| ((with_reducible apply iRevrs); (walk_at "lk")))
local macro_rules | `(tactic| walk_at "nrm") => `(tactic| try simp only [List.set_cons_succ, List.set_cons_zero])
theorem AlOk.due {l v : List Nat} (h : AlOk l v) : dueT l v = "" := by
  unfold dueT
  rw [if_neg (by
    rintro (q | q | q)
    · have := h.h1; omega
    · have := h.h4; omega
    · exact q h.dl), if_neg (fun q => q ⟨h.vn, h.vl⟩)]
theorem az_ge : ∀ c ∈ azL, 97 ≤ c ∧ c < 123 := by decide +kernel
theorem AlOk.ge {l v : List Nat} (h : AlOk l v) : ∀ c ∈ l, 97 ≤ c ∧ c < 123 := fun c hc => az_ge c (h.dl.2 c hc)
theorem asc_srt {l : List Nat} (h : l.Nodup) : Asc (srtL l) := ((srtL_le l).and (srtL_nodup.mpr h)).imp fun q => by omega
theorem AlOk.sg {l v : List Nat} (h : AlOk l v) : SgOk (45 :: srtL l) := by
  refine ⟨List.pairwise_cons.mpr ⟨fun c hc => ?_, asc_srt h.dl.1⟩, ?_, by simp, fun c hc => ?_⟩
  · have := h.ge c (srtL_mem.mp hc); omega
  · have := h.h4
    rw [List.length_cons, srtL_len]; omega
  · rcases List.mem_cons.mp hc with e | e
    · omega
    · have := h.ge c (srtL_mem.mp e); omega
theorem AlOk.vlen {l v : List Nat} (h : AlOk l v) : v.length ≤ 4 := by
  have := len_of_sub h.vn h.vl
  have := h.h4
  omega
theorem TbL.fr {a : Ad} {H H' : Hp} {t al lp b g u : Addr} {sg W : List Nat} {R : Rel} {qs : List (Addr × Nat × Nat)} (h : TbL a H t al sg W R lp qs) (f : Fr [b, g] H H') (hB : BagB H b g u) (lb : lp ≠ b) (lg : lp ≠ g) : TbL a H' t al sg W R lp qs := by
  obtain ⟨gl, sl, n, r, e1, e2, e3, _⟩ := hB
  have off : ∀ {x : Addr} {o : HO}, H x = some o → (∀ xs, o ≠ .lst xs) → H' x = some o := fun {x o} hx ho => f x o (by
    intro m
    rcases List.mem_cons.mp m with z | z
    · rw [z, e1] at hx; exact ho _ (Option.some.inj hx).symm
    · rw [List.mem_singleton.mp z, e2] at hx; exact ho _ (Option.some.inj hx).symm) hx
  obtain ⟨⟨dx, h1⟩, ⟨l, v, ⟨dy, h2⟩, z⟩, h3, h4⟩ := h
  exact ⟨⟨dx, off h1 fun xs z => by cases z⟩, ⟨l, v, ⟨dy, off h2 fun xs z => by cases z⟩, z⟩, ⟨f _ _ (by simp [lb, lg]) h3.l, fun q hq => off (h3.t q hq) fun xs z => by cases z⟩, h4⟩
/-- what Alphabet(..) asks -/
theorem iMkA {C B : Addr} {al dx : Addr} {H0 : Hp} {l v : List Nat} {R : Hp → Prop} {E : XK} (ht : H0 al = none) (hd : H0 dx = none) (hn : dx ≠ al) (hk : AlOk l v) (k : ∀ H', Same H0 H' → AlG C H' al (45 :: srtL l) (srtL v) → R H') :
    spAl C B [.ref al, .str (S l), .str (S v)] (upd (upd H0 dx (.own al)) al (.ins C dx [])) (fun w H2 => w = .non ∧ R H2) E := by
  have s1 : Same H0 (upd (upd H0 dx (.own al)) al (.ins C dx [])) := fun c o hc => by
    rw [upd_ne (fun z => by rw [z, ht] at hc; cases hc), upd_ne (fun z => by rw [z, hd] at hc; cases hc)]
    exact hc
  have := hk.h4
  have := hk.vlen
  refine ⟨al, dx, l, v, rfl, upd_same, by omega, by omega, fun _ H' h1 h2 => ⟨rfl, k H' (fun c o hc => h2 c o (fun z => by rw [z, ht] at hc; cases hc) (s1 c o hc)) ⟨l, v, h1, rfl, rfl⟩⟩, fun h => absurd hk.due h⟩
theorem iMkT {a : Ad} {t al p dx : Addr} {H0 : Hp} {sg W : List Nat} {qs : List (Addr × Nat × Nat)} {R : Hp → Prop} {E : XK} (ht : H0 t = none) (hd : H0 dx = none) (hn : dx ≠ t) (hal : AlG a.cAlphabet H0 al sg W) (hs : SgOk sg) (hp : PrAt H0 p qs) (hl : qs.length ≤ 4000) (hm : ∀ q ∈ qs, q.2.1 ∈ sg ∧ q.2.2 ∈ sg)
    (k : ∀ lp ms H', H0 lp = none → Same H0 H' → TbL a H' t al sg W (relP qs) lp ms → R H') : spInit a [.ref t, .ref al, .ref p] (upd (upd H0 dx (.own t)) t (.ins a.cTable dx [])) (fun v H2 => v = .non ∧ R H2) E :=
  iMk (Q := fun _ H2 => R H2) ht hd hn hal hs hp hl hm k
theorem BagB.nl {H : Hp} {b g u x : Addr} {o : HO} (h : BagB H b g u) (hx : H x = some o) (ho : ∀ xs, o ≠ .lst xs) : x ≠ b ∧ x ≠ g := by
  obtain ⟨gl, sl, n, r, e1, e2, e3, _⟩ := h
  refine ⟨fun z => ?_, fun z => ?_⟩
  · rw [z, e1] at hx; exact ho _ (Option.some.inj hx).symm
  · rw [z, e2] at hx; exact ho _ (Option.some.inj hx).symm
theorem PrAt.bag {H H' : Hp} {b g u p : Addr} {qs : List (Addr × Nat × Nat)} (h : PrAt H p qs) (f : Fr [b, g] H H') (hB : BagB H b g u) (pb : p ≠ b) (pg : p ≠ g) : PrAt H' p qs := h.fr f (by simp [pb, pg]) (fun q hq => by
  have := hB.nl (h.t q hq) (fun xs z => by cases z)
  simp [this.1, this.2])
theorem AlG.bag {C : Addr} {H H' : Hp} {b g u al : Addr} {sg W : List Nat} (h : AlG C H al sg W) (f : Fr [b, g] H H') (hB : BagB H b g u) : AlG C H' al sg W := by
  obtain ⟨l, v, ⟨dy, h2⟩, z⟩ := h
  have := hB.nl h2 (fun xs z => by cases z)
  exact ⟨l, v, ⟨dy, f _ _ (by simp [this.1, this.2]) h2⟩, z⟩
theorem TbL.tb {a : Ad} {H : Hp} {t al lp : Addr} {sg W : List Nat} {R : Rel} {qs : List (Addr × Nat × Nat)} (h : TbL a H t al sg W R lp qs) : Tb a H t al sg W R := ⟨lp, qs, h⟩
theorem RowAt.bag {H H' : Hp} {b g u p : Addr} {sg : List Nat} {R : Rel} (h : RowAt H p sg R) (f : Fr [b, g] H H') (hB : BagB H b g u) (hs : 0 < sg.length) : RowAt H' p sg R := by
  obtain ⟨gl, sl, n, r, e1, e2, e3, _⟩ := hB
  unfold RowAt outsL at h
  refine f _ _ ?_ h
  intro m
  rcases sg with _ | ⟨c, sg⟩
  · simp at hs
  · rcases List.mem_cons.mp m with z | z
    · rw [z, e1] at h
      injection (Option.some.inj h) with h2
      injection h2 with h3
      cases h3
    · rw [List.mem_singleton.mp z, e2] at h
      injection (Option.some.inj h) with h2
      rcases gl with _ | ⟨w, gl⟩
      · cases h2
      · injection h2 with h3
        cases h3

def spPairsN (a : Ad) : Sp := fun vs H Q _ => ∃ (t al : Addr) (sg W : List Nat) (R : Rel), vs = [.ref t] ∧ Tb a H t al sg W R ∧ SgOk sg ∧ ∀ p ms H', H p = none → PrAt H' p ms → ms.map (·.2) = canL sg R → Same H H' → Q (.ref p) H'
theorem ok_pairsN (T : Fns K mg a d) : FnOk P w K mg base CX0 1 a.aTPairs d.dTPairs ["self"] (spPairsN a) := by
  refine T.FTPairs.ok scTPairs (fun vs H Q E h => ?_) (fun cdv A outer s H vs Q E hr h => ?_)
  · obtain ⟨t, al, sg, W, R, rfl, _⟩ := h
    rfl
  · obtain ⟨t, al, sg, W, R, rfl, ⟨lp, qs, hT⟩, hsg, k⟩ := h
    obtain ⟨⟨dx, ht⟩, hal, hp, ec⟩ := id hT
    have clT := T.clT
    have nTp := T.nTp
    have hpl := hp.l
    refine ⟨_, ((pss_one (ps_ret (pe_callTy call_list_of (by rfl) T.z_list (by decide +kernel) (pa_cons (pe_fld (pv 0) rfl) pa_nil))))), ?_⟩
    walk_at "go"
    rename_i p hpn
    have s1 : Same H (upd H p (.lst (qs.map fun q => V.ref q.1))) := Same.upd_new hpn
    exact k p qs _ hpn ⟨upd_same, fun q hq => s1 _ _ (hp.t q hq)⟩ ec s1
theorem TbL.off {a : Ad} {H H' : Hp} {t al lp x : Addr} {sg W : List Nat} {R : Rel} {qs : List (Addr × Nat × Nat)} {xs : List V} (h : TbL a H t al sg W R lp qs) (f : Fr [x] H H') (hx : H x = some (.lst xs)) (n : lp ≠ x) : TbL a H' t al sg W R lp qs := by
  have off : ∀ {y : Addr} {o : HO}, H y = some o → (∀ xs, o ≠ .lst xs) → H' y = some o := fun {y o} hy ho => f y o (by
    intro m
    rw [List.mem_singleton.mp m, hx] at hy
    exact ho _ (Option.some.inj hy).symm) hy
  obtain ⟨⟨dx, h1⟩, ⟨l, v, ⟨dy, h2⟩, z⟩, h3, h4⟩ := h
  exact ⟨⟨dx, off h1 fun xs z => by cases z⟩, ⟨l, v, ⟨dy, off h2 fun xs z => by cases z⟩, z⟩, ⟨f _ _ (by simpa using n) h3.l, fun q hq => off (h3.t q hq) fun xs z => by cases z⟩, h4⟩
theorem PrAt.off {H H' : Hp} {p x : Addr} {qs : List (Addr × Nat × Nat)} {xs : List V} (h : PrAt H p qs) (f : Fr [x] H H') (hx : H x = some (.lst xs)) (n : p ≠ x) : PrAt H' p qs := h.fr f (by simpa using n) fun q hq m => by
  have := h.t q hq
  rw [List.mem_singleton.mp m, hx] at this
  cases this
theorem AlOk.sl {l v : List Nat} (h : AlOk l v) : SgL (45 :: srtL l) := by
  refine ⟨?_, fun c hc => ?_⟩
  · have := h.h1
    rw [List.length_cons, srtL_len]; omega
  · rcases List.mem_cons.mp hc with e | e
    · exact .inl e
    · have := h.ge c (srtL_mem.mp e); omega
theorem row_ok {sg : List Nat} {R : Rel} {c : Nat} (hsg : SgOk sg) (hs : SgL sg) (hc : c ∈ sg) : 3 ≤ (rowW sg R c).length ∧ (rowW sg R c).length ≤ 7 ∧ EnT (rowW sg R c) ∧ entB sg c (rowW sg R c) = true ∧ outE (rowW sg R c) = sg.filter (R c) := by
  have hl := List.length_filter_le (R c) sg
  have hl5 := hsg.l
  have h46 : 46 ∉ sg := fun z => by have := hs.2 46 z; omega
  have h32 : 32 ∉ sg := fun z => by have := hs.2 32 z; omega
  have hcc := hsg.c c hc
  have hf : ∀ x ∈ sg.filter (R c), x ∈ sg := fun x hx => (List.mem_filter.mp hx).1
  have hasc : Asc (sg.filter (R c)) := List.Pairwise.filter _ hsg.a
  have hdrop : (rowW sg R c).drop 2 = if sg.filter (R c) = [] then [46] else sg.filter (R c) := rfl
  have htake : (rowW sg R c).take 2 = [c, 62] := rfl
  have hout : outE (rowW sg R c) = sg.filter (R c) := by
    unfold outE
    rw [hdrop]
    by_cases he : sg.filter (R c) = []
    · rw [if_pos he, he]
      rfl
    · rw [if_neg he]
      refine List.filter_eq_self.mpr fun x hx => ?_
      rw [decide_eq_true_iff]
      intro e
      exact h46 (e ▸ hf x hx)
  have hent : entB sg c (rowW sg R c) = true := by
    unfold entB
    rw [hdrop, htake, decide_eq_true rfl, Bool.true_and, Bool.or_eq_true]
    by_cases he : sg.filter (R c) = []
    · rw [if_pos he]
      exact .inl rfl
    · rw [if_neg he]
      refine .inr ?_
      rw [Bool.and_eq_true]
      exact ⟨by simpa using he, ascB_iff.mpr ⟨hf, hasc⟩⟩
  have hlen : (rowW sg R c).length = 2 + (if sg.filter (R c) = [] then [46] else sg.filter (R c)).length := by
    unfold rowW
    simp only [List.length_cons]
    omega
  have hne : sg.filter (R c) ≠ [] → 0 < (sg.filter (R c)).length := fun h => by
    rcases Nat.eq_zero_or_pos (sg.filter (R c)).length with e | e
    · exact absurd (List.eq_nil_of_length_eq_zero e) h
    · exact e
  have hbd : 3 ≤ (rowW sg R c).length ∧ (rowW sg R c).length ≤ 7 := by
    rw [hlen]
    by_cases he : sg.filter (R c) = []
    · rw [if_pos he]
      simp
    · rw [if_neg he]
      have := hne he
      omega
  refine ⟨hbd.1, hbd.2, ⟨by omega, fun x hx => ?_, fun z => ?_⟩, hent, hout⟩
  · have hx : x ∈ c :: 62 :: (if sg.filter (R c) = [] then [46] else sg.filter (R c)) := hx
    rcases List.mem_cons.mp hx with e | hx
    · rw [e]; exact hcc
    rcases List.mem_cons.mp hx with e | hx
    · rw [e]; decide
    by_cases he : sg.filter (R c) = []
    · rw [if_pos he] at hx
      rw [List.mem_singleton.mp hx]; decide
    · rw [if_neg he] at hx
      exact hsg.c x (hf x hx)
  · have z : 32 ∈ c :: 62 :: (if sg.filter (R c) = [] then [46] else sg.filter (R c)) := z
    rcases List.mem_cons.mp z with e | z
    · exact h32 (e ▸ hc)
    rcases List.mem_cons.mp z with e | z
    · cases e
    by_cases he : sg.filter (R c) = []
    · rw [if_pos he] at z
      cases List.mem_singleton.mp z
    · rw [if_neg he] at z
      exact h32 (hf _ z)
theorem rows_due {sg : List Nat} {R : Rel} (hsg : SgOk sg) (hs : SgL sg) : Due sg (sg.map (rowW sg R)) (-1) := by
  refine .inr ⟨fun j => ?_, by rw [List.length_map, if_neg (by omega), if_neg (by omega)]⟩
  rintro ⟨c, t, h1, h2, h3⟩
  rw [List.getElem?_map, h1] at h2
  cases h2
  rw [(row_ok hsg hs (List.mem_of_getElem? h1)).2.2.2.1] at h3
  cases h3
theorem rows_agr {sg : List Nat} {R : Rel} (hsg : SgOk sg) (hs : SgL sg) : Agr sg (relQ (entP (sg.map (rowW sg R)))) R := by
  refine outs_agr.mp ?_
  rw [row_ent hsg (rows_due hsg hs), List.map_map]
  unfold outsL
  exact List.map_congr_left fun c hc => (row_ok hsg hs hc).2.2.2.2
theorem rows_enl {sg : List Nat} {R : Rel} (hsg : SgOk sg) (hs : SgL sg) : EnL sg (sg.map (rowW sg R)) := by
  have := hs.1
  have := hsg.l
  refine EnL.of (by rw [List.length_map]; omega) (by rw [List.length_map]; omega) fun t ht => ?_
  obtain ⟨c, hc, rfl⟩ := List.mem_map.mp ht
  exact (row_ok hsg hs hc).2.2.1
def spLaw (K : PySem.W.Frag) : Sp := fun vs H Q _ => ∃ (x : Addr) (ns : List Int), vs = [.ref x] ∧ SqL K H x (ns.map V.int) ∧ ns.length ≤ 63 ∧ ∀ H', Q (.bl true) H'
theorem scLaw : FnScope ["_law_script", "_law_bag_here", "_law_change", "_law_many", "_law_beside", "_law_names_here", "_law_signs_here", "_law_alphabet", "_law_pairs_here", "_law_outs_here", "_law_handed", "_law_table", "_law_told", "_law_more", "_law_strange_here", "_law_entries", "_law_written_here"] ["_law_script"] (defScope sLaw) := ⟨rfl, rfl, rfl, by decide +kernel, rfl, by decide +kernel, by decide +kernel⟩
theorem ok_law {fA B : Addr} {fdA : FuncData} {mc : Value} {tm tj tl : Tok} (T : Fns K mg a d) (GAlEq : FnOk P w K mg base CX0 1 a.aAlEq d.dAlEq ["self", "other"] (spEq a.cAlphabet)) (MT : Mk K a.cTable a.aTInit) (bTInit : Binds K d.dTInit ["self", "alphabet", "pairs"] [])
    (BUnknownSign : ErrX K a a.cUnk a.cBadPair "sign") (GUnknownSign : FnOk P w K mg base CX0 1 a.eUnk d.eUnk ["self", "sign"] (spErr a.cUnk "sign"))
    (BBadPair : ErrX K a a.cBadPair a.cBadEntry "index") (GBadPair : FnOk P w K mg base CX0 1 a.eBadPair d.eBadPair ["self", "index"] (spErrI a.cBadPair "index"))
    (BBadEntry : ErrX K a a.cBadEntry a.cBadPair "index") (GBadEntry : FnOk P w K mg base CX0 1 a.eBadEntry d.eBadEntry ["self", "index"] (spErrI a.cBadEntry "index"))
    (AV : AlV K mg a.cAlphabet mc tm tj tl) (MA : Mk K a.cAlphabet fA) (GA : FnOk P w K mg base (L2.CX P w) 3 fA fdA ["self", "letters", "vowels"] (spAl a.cAlphabet B)) (bA : Binds K fdA ["self", "letters", "vowels"] []) : FnOk P w K mg base CX0 12 a.aLaw d.dLaw ["_law_script"] (spLaw K) := by
  have GBag := ok_bag (P := P) (w := w) (base := base) T
  have GTake := ok_take (P := P) (w := w) (base := base) T
  have GNames := ok_names (P := P) (w := w) (base := base) T
  have GSigns := ok_signs (P := P) (w := w) (base := base) T
  have GPairs := ok_pairs (P := P) (w := w) (base := base) T
  have GOuts := ok_outs (P := P) (w := w) (base := base) T
  have GTInit := ok_init (P := P) (w := w) (base := base) T
  have GTEq := ok_eqM (P := P) (w := w) (base := base) T GAlEq
  have GIs := ok_is (P := P) (w := w) (base := base) T
  have GTPairs := ok_pairsN (P := P) (w := w) (base := base) T
  have GStrange := ok_strange (P := P) (w := w) (base := base) T
  have GNoSign := ok_noSign (P := P) (w := w) (base := base) T BUnknownSign GUnknownSign
  have GNoPairs := ok_noPairs (P := P) (w := w) (base := base) T
  have GBadPair := BP.ok_badPair (P := P) (w := w) (base := base) T MT bTInit BBadPair GBadPair
  have GNamed := ok_named (P := P) (w := w) (base := base) T MT bTInit
  have GWritten := ok_written (P := P) (w := w) (base := base) T
  have GTRead := ok_read (P := P) (w := w) (base := base) T MT bTInit
  have GReads := Rd.ok_reads (P := P) (w := w) (base := base) T MT bTInit BBadEntry GBadEntry
  have GChanged := Ch.ok_changed (P := P) (w := w) (base := base) T
  refine T.FLaw.ok scLaw (fun vs H Q E h => ?_) (fun cdv A0 outer s H vs Q E hr h => ?_)
  · obtain ⟨x, ns, rfl, _⟩ := h
    rfl
  · obtain ⟨x, ns, rfl, hx, hnl, k⟩ := h
    have clT := T.clT
    have nTa := T.nTa
    refine ⟨_, ((pss_cons (ps_set (i := 1) scLaw.nd rfl (Or.inl rfl) (pe_call GBag (hr.mono (by decide)) (by rfl) T.gBag T.FBag.kp T.bBag .nil pass0 (pa_cons (pv 0) pa_nil)))
      (pss_cons (ps_set (i := 2) scLaw.nd rfl (Or.inl rfl) (pe_call GTake (hr.mono (by decide)) (by rfl) T.gTake T.FTake.kp T.bTake .nil pass0 (pa_cons (pv 1) (pa_cons pe_int pa_nil))))
      (pss_cons (ps_set (i := 3) scLaw.nd rfl (Or.inl rfl) (pe_call GTake (hr.mono (by decide)) (by rfl) T.gTake T.FTake.kp T.bTake .nil pass0 (pa_cons (pv 1) (pa_cons pe_int pa_nil))))
      (pss_cons (ps_set (i := 4) scLaw.nd rfl (Or.inl rfl) (pe_call GTake (hr.mono (by decide)) (by rfl) T.gTake T.FTake.kp T.bTake .nil pass0 (pa_cons (pv 1) (pa_cons pe_int pa_nil))))
      (pss_cons (ps_set (i := 5) scLaw.nd rfl (Or.inl rfl) (pe_call GNames (hr.mono (by decide)) (by rfl) T.gNames T.FNames.kp T.bNames .nil pass0 (pa_cons (pv 1) (pa_cons (pe_op op_add pe_int (pe_call GTake (hr.mono (by decide)) (by rfl) T.gTake T.FTake.kp T.bTake .nil pass0 (pa_cons (pv 1) (pa_cons pe_int pa_nil)))) pa_nil))))
      (pss_cons (ps_set (i := 6) scLaw.nd rfl (Or.inl rfl) (pe_call GSigns (hr.mono (by decide)) (by rfl) T.gSigns T.FSigns.kp T.bSigns .nil pass0 (pa_cons (pe_ix (r := rIxL K) ix_list (pv 5) pe_int (fun _ _ => rfl)) pa_nil)))
      (pss_cons (ps_set (i := 7) scLaw.nd rfl (Or.inl rfl) (pe_make MA GA (hr.mono (by decide)) (by rfl) AV.gC bA .nil passE (pa_cons (pe_ix (r := rIxL K) ix_list (pv 5) pe_int (fun _ _ => rfl)) (pa_cons (pe_ix (r := rIxL K) ix_list (pv 5) pe_int (fun _ _ => rfl)) pa_nil))))
      (pss_cons (ps_set (i := 8) scLaw.nd rfl (Or.inl rfl) (pe_call GPairs (hr.mono (by decide)) (by rfl) T.gPairs T.FPairs.kp T.bPairs .nil pass0 (pa_cons (pv 1) (pa_cons (pv 6) (pa_cons (pv 3) pa_nil)))))
      (pss_cons (ps_set (i := 9) scLaw.nd rfl (Or.inl rfl) (pe_call GOuts (hr.mono (by decide)) (by rfl) T.gOuts T.FOuts.kp T.bOuts .nil pass0 (pa_cons (pv 6) (pa_cons (pv 8) pa_nil))))
      (pss_cons (ps_set (i := 10) scLaw.nd rfl (Or.inl rfl) (pe_callTy call_list_of (by rfl) T.z_list (by decide +kernel) (pa_cons (pv 8) pa_nil)))
      (pss_cons (ps_set (i := 11) scLaw.nd rfl (Or.inl rfl) (pe_make MT GTInit (hr.mono (by decide)) (by rfl) T.gcTable bTInit .nil passE (pa_cons (pv 7) (pa_cons (pv 10) pa_nil))))
      (pss_cons (ps_if (PW.pt (pw_or (pt_cmpR (op_neD hr.units) (pv 10) (pv 8) (nomark _)) (pw_or1 (pt_not (pt_cmpR (op_ownI (fun _ _ => rfl) T.mAlEq.at_ T.mAlEq.fn GAlEq (hr.mono (by decide)) T.bAlEq pass0) (pe_fld (pv 11) rfl) (pv 7) (nomark _)))))) (pss_one (ps_ret pe_bl)) pss_nil)
      (pss_cons (ps_expr (pe_bm PySem.F.plainAttrs_list PySem.F.slot_list_append PySem.F.type_list_append mt_append (pv 10) (pa_cons (pe_tup (pa_cons (pe_ix ix_str (pv 6) pe_int (fun _ _ => rfl)) (pa_cons (pe_ix ix_str (pv 6) pe_int (fun _ _ => rfl)) pa_nil))) pa_nil)))
      (pss_cons (ps_expr (pe_bm0 PySem.F.plainAttrs_list PySem.F.slot_list_reverse PySem.F.type_list_reverse mt_reverse (pv 10)))
      (pss_cons (ps_if (pt_not (pt_val (pe_call GIs (hr.mono (by decide)) (by rfl) T.gIs T.FIs.kp T.bIs .nil pass0 (pa_cons (pv 11) (pa_cons (pv 6) (pa_cons (pv 9) pa_nil)))))) (pss_one (ps_ret pe_bl)) pss_nil)
      (pss_cons (ps_set (i := 12) scLaw.nd rfl (Or.inl rfl) (pe_meth0 (pv 11) T.clT T.mTPairs GTPairs (hr.mono (by decide)) T.bTPairs .nil pass0))
      (pss_cons (ps_expr (pe_bm PySem.F.plainAttrs_list PySem.F.slot_list_append PySem.F.type_list_append mt_append (pv 12) (pa_cons (pe_tup (pa_cons (pe_ix ix_str (pv 6) pe_int (fun _ _ => rfl)) (pa_cons (pe_ix ix_str (pv 6) pe_int (fun _ _ => rfl)) pa_nil))) pa_nil)))
      (pss_cons (ps_expr (pe_bm0 PySem.F.plainAttrs_list PySem.F.slot_list_reverse PySem.F.type_list_reverse mt_reverse (pv 12)))
      (pss_cons (ps_set (i := 13) scLaw.nd rfl (Or.inl rfl) (pe_call GPairs (hr.mono (by decide)) (by rfl) T.gPairs T.FPairs.kp T.bPairs .nil pass0 (pa_cons (pv 1) (pa_cons (pv 6) (pa_cons (pv 4) pa_nil)))))
      (pss_cons (ps_if (pt_not (pt_val (pe_call GIs (hr.mono (by decide)) (by rfl) T.gIs T.FIs.kp T.bIs .nil pass0 (pa_cons (pe_make MT GTInit (hr.mono (by decide)) (by rfl) T.gcTable bTInit .nil passE (pa_cons (pv 7) (pa_cons (pv 13) pa_nil))) (pa_cons (pv 6) (pa_cons (pe_call GOuts (hr.mono (by decide)) (by rfl) T.gOuts T.FOuts.kp T.bOuts .nil pass0 (pa_cons (pv 6) (pa_cons (pv 13) pa_nil))) pa_nil)))))) (pss_one (ps_ret pe_bl)) pss_nil)
      (pss_cons (ps_set (i := 14) scLaw.nd rfl (Or.inl rfl) (pe_call GStrange (hr.mono (by decide)) (by rfl) T.gStrange T.FStrange.kp T.bStrange .nil pass0 (pa_cons (pv 1) (pa_cons (pv 6) pa_nil))))
      (pss_cons (ps_if (PW.pt (pw_or (pt_not (pt_val (pe_call GNoSign (hr.mono (by decide)) (by rfl) T.gNoSign T.FNoSign.kp T.bNoSign .nil pass0 (pa_cons (pv 11) (pa_cons (pv 14) pa_nil))))) (pw_or1 (pt_not (pt_val (pe_call GNoPairs (hr.mono (by decide)) (by rfl) T.gNoPairs T.FNoPairs.kp T.bNoPairs .nil pass0 (pa_cons (pv 11) (pa_cons (pv 6) (pa_cons (pv 14) pa_nil))))))))) (pss_one (ps_ret pe_bl)) pss_nil)
      (pss_cons (ps_if (PW.pt (pw_or (pt_not (pt_val (pe_call GBadPair (hr.mono (by decide)) (by rfl) T.gBadPair T.FBadPair.kp T.bBadPair .nil pass0 (pa_cons (pv 1) (pa_cons (pv 7) (pa_cons (pv 6) (pa_cons (pv 8) pa_nil))))))) (pw_or1 (pt_not (pt_val (pe_call GNamed (hr.mono (by decide)) (by rfl) T.gNamed T.FNamed.kp T.bNamed .nil pass0 (pa_cons (pv 7) (pa_cons (pv 6) pa_nil)))))))) (pss_one (ps_ret pe_bl)) pss_nil)
      (pss_cons (ps_set (i := 15) scLaw.nd rfl (Or.inl rfl) (pe_call GWritten (hr.mono (by decide)) (by rfl) T.gWritten T.FWritten.kp T.bWritten .nil pass0 (pa_cons (pv 6) (pa_cons (pv 9) pa_nil))))
      (pss_cons (ps_if (PW.pt (pw_or (pt_not (pt_cmpR (op_ownI (fun _ _ => rfl) T.mTEq.at_ T.mTEq.fn GTEq (hr.mono (by decide)) T.bTEq pass0) (ClX.pe_cmeth (pe_glob (v := .ref a.cTable) (by rfl) T.gcTable rfl) T.crT T.cTRead (GTRead.raw T.bTRead .nil) (hr.mono (by decide)) passE (pa_cons (pv 7) (pa_cons (pe_join (pe_strS (l := [32]) (by decide +kernel)) (pv 15)) pa_nil))) (pv 11) (nomark _))) (pw_or1 (pt_not (pt_val (pe_call GReads (hr.mono (by decide)) (by rfl) T.gReads T.FReads.kp T.bReads .nil pass0 (pa_cons (pv 7) (pa_cons (pv 6) (pa_cons (pe_join (pe_strS (l := [32]) (by decide +kernel)) (pv 15)) pa_nil))))))))) (pss_one (ps_ret pe_bl)) pss_nil)
      (pss_cons (ps_set (i := 16) scLaw.nd rfl (Or.inl rfl) (pe_join (pe_strS (l := [32]) (by decide +kernel)) (pe_call GChanged (hr.mono (by decide)) (by rfl) T.gChanged T.FChanged.kp T.bChanged .nil pass0 (pa_cons (pv 1) (pa_cons (pv 2) (pa_cons (pv 15) (pa_cons (pv 6) pa_nil)))))))
      (pss_one (ps_ret (pe_and (pe_call GReads (hr.mono (by decide)) (by rfl) T.gReads T.FReads.kp T.bReads .nil pass0 (pa_cons (pv 7) (pa_cons (pv 6) (pa_cons (pv 16) pa_nil)))) (pe_one (pe_call GIs (hr.mono (by decide)) (by rfl) T.gIs T.FIs.kp T.bIs .nil pass0 (pa_cons (pv 11) (pa_cons (pv 6) (pa_cons (pv 9) pa_nil))))))))))))))))))))))))))))))))))), ?_⟩
    rw [show L2.start [("_law_script" : Str), ("_law_bag_here" : Str), ("_law_change" : Str), ("_law_many" : Str), ("_law_beside" : Str), ("_law_names_here" : Str), ("_law_signs_here" : Str), ("_law_alphabet" : Str), ("_law_pairs_here" : Str), ("_law_outs_here" : Str), ("_law_handed" : Str), ("_law_table" : Str), ("_law_told" : Str), ("_law_more" : Str), ("_law_strange_here" : Str), ("_law_entries" : Str), ("_law_written_here" : Str)] [V.ref x] = [some (V.ref x), none, none, none, none, none, none, none, none, none, none, none, none, none, none, none, none] from rfl]
    walk_at "go"
    refine ⟨x, ns, rfl, hx, by omega, fun b g u H1 _ _ _ hB1 s1 => ?_⟩
    walk_at "nrm"
    walk_at "go"
    refine ⟨b, g, u, 24, rfl, hB1, by decide, by decide, fun w0 H2 hw0 hB2 f2 => ?_⟩
    walk_at "nrm"
    walk_at "go"
    refine ⟨b, g, u, 31, rfl, hB2, by decide, by decide, fun m1 H3 hm1 hB3 f3 => ?_⟩
    walk_at "nrm"
    walk_at "go"
    refine ⟨b, g, u, 12, rfl, hB3, by decide, by decide, fun m2 H4 hm2 hB4 f4 => ?_⟩
    walk_at "nrm"
    walk_at "go"
    refine ⟨b, g, u, 4, rfl, hB4, by decide, by decide, fun m4 H8 hm4 hB8 f8 => ?_⟩
    walk_at "nrm"
    walk_at "go"
    refine ⟨b, g, u, 1 + m4, rfl, hB8, by omega, by omega, fun np l v H9 _ nb ng nu hnp hok hnl4 hB9 f9 => ?_⟩
    have h4 := hok.h4
    have hv4 := hok.vlen
    walk_at "nrm"
    walk_at "go"
    refine ⟨l, rfl, h4, fun H10 s10 => ?_⟩
    have hnp10 := s10 _ _ hnp
    walk_at "nrm"
    walk_at "go"
    intro al dal hal1 hal2 hal3
    refine iMkA hal1 hal2 hal3 hok fun H11 s11 hal => ?_
    have hsg := hok.sg
    have hsl := hok.sl
    have hl5 := hsg.l
    have hB11 := hB9.same (Vk.Same.trans s10 s11)
    clear hnp10 hnp hB1 hB2 hB3 hB4 hB8 hB9 hx
    generalize 45 :: srtL l = sg at hsg hsl hl5 hal ⊢
    generalize srtL v = W at hal
    walk_at "nrm"
    walk_at "go"
    refine ⟨b, g, u, sg, m1, rfl, hB11, hsg.p, by omega, by omega, fun p8 q8 H12 hp8 hP8 hl8 hm8 d81 d82 d83 hn8 hB12 f12 => ?_⟩
    have hal12 := hal.bag f12 hB11
    walk_at "nrm"
    walk_at "go"
    refine ⟨sg, p8, q8, rfl, hsg, hP8, by omega, hm8, fun r1 H13 hr1n s13 hr1 => ?_⟩
    have hB13 := hB12.same s13
    have hP13 := hP8.same s13
    have hpl13 := hP13.l
    have hal13 := hal12.same s13
    walk_at "nrm"
    walk_at "go"
    rename_i ph gph
    have s14 : Same H13 (upd H13 ph (.lst (q8.map fun q => V.ref q.1))) := Same.upd_new gph
    have hH14 : PrAt (upd H13 ph (.lst (q8.map fun q => V.ref q.1))) ph q8 := ⟨upd_same, (hP13.same s14).t⟩
    have nph := hB13.ne gph
    have nhp : p8 ≠ ph := ne_of_none hpl13 gph
    have hr14 : ph ≠ r1 := (ne_of_none hr1 gph).symm
    generalize upd H13 ph (.lst (q8.map fun q => V.ref q.1)) = H14 at s14 hH14 ⊢
    intro t dt ht1 ht2 ht3
    refine iMkT ht1 ht2 ht3 (hal13.same s14) hsg hH14 (by omega) hm8 fun lp ms H15 hlp s15 hT => ?_
    have s1315 := Vk.Same.trans s14 s15
    have hP15 := hP13.same s1315
    have hH15 := hH14.same s15
    have hpl15 := hP15.l
    have hhl15 := hH15.l
    have low : ∀ q ∈ q8.map (·.2), q.1 < 128 ∧ q.2 < 128 := fun q hq => by
      obtain ⟨z, hz, rfl⟩ := List.mem_map.mp hq
      exact ⟨hsg.c _ (hm8 z hz).1, hsg.c _ (hm8 z hz).2⟩
    obtain ⟨dt2, ht⟩ := hT.t
    walk_at "nrm"
    walk_at "go"
    refine ⟨_, _, hH15.dp, hP15.dp, shaped_dqs low, shaped_dqs low, ?_⟩
    rw [eqv_dql, decide_eq_true rfl]
    walk_at "go"
    refine eq_al T.eqA hT.al hT.al ?_
    rw [decide_eq_true ⟨rfl, rfl⟩]
    obtain ⟨c0, hc0, c1, hc1⟩ : ∃ c0, atI sg 0 = some c0 ∧ ∃ c1, atI sg 1 = some c1 := ⟨_, atI_nat (j := 0) (List.getElem?_eq_getElem (by have := hsl.1; omega)), _, atI_nat (j := 1) (List.getElem?_eq_getElem (by have := hsl.1; omega))⟩
    walk_at "go"
    rename_i T1 gT1
    refine iAppend (upd_old gT1 hhl15) (by rw [List.length_map, sizeLine_eq]; omega) ?_
    walk_at "go"
    have hB15 := hB13.same s1315
    have nlb := (hB13.same s14).ne hlp
    have nlp : lp ≠ ph := fun e => by rw [e, hH14.l] at hlp; cases hlp
    have f16 : Fr [ph] H15 (upd (upd (upd H15 T1 (.tup [.str (S [c0]), .str (S [c1])])) ph (.lst (((q8.map fun q => V.ref q.1) : List V) ++ [V.ref T1]))) ph (.lst (((q8.map fun q => V.ref q.1) : List V) ++ [V.ref T1]).reverse)) := Fr.trans (Fr.upd_new gT1) (Fr.trans Fr.in0 Fr.in0)
    generalize (upd (upd (upd H15 T1 (.tup [.str (S [c0]), .str (S [c1])])) ph (.lst (((q8.map fun q => V.ref q.1) : List V) ++ [V.ref T1]))) ph (.lst (((q8.map fun q => V.ref q.1) : List V) ++ [V.ref T1]).reverse)) = H16 at f16 ⊢
    have hB16 := hB15.fr f16 (by simpa using nph.1.symm) (by simpa using nph.2.1.symm) (by simpa using nph.2.2.symm)
    have hT16 := hT.off f16 hhl15 nlp
    have hP16 := hP15.off f16 hhl15 nhp
    have hr16 : RowAt H16 r1 sg (relP q8) := f16 _ _ (by simpa using hr14.symm) (s1315 _ _ hr1)
    clear f16 hH15 hhl15 hpl15 hT hP15 hB15 hP13 hpl13 hal13 hP8 hB11 hB12 hB13 hal hal12 hr1 hH14 s1315 s14 s15 f12 s13 s10 s11 low ht
    obtain ⟨R, hR⟩ : ∃ R, R = relP q8 := ⟨_, rfl⟩
    rw [← hR] at hT16 hr16
    refine ⟨t, al, r1, sg, W, _, rfl, hT16.tb, hsg, hr16, fun H17 s17 => ?_⟩
    have hT17 := hT16.same s17
    obtain ⟨dt3, ht17⟩ := hT17.t
    walk_at "nrm"
    walk_at "go"
    refine ⟨t, al, sg, W, _, rfl, hT17.tb, hsg, fun p12 m12 H18 hp12 hP12 em s18 => ?_⟩
    have hm12 : m12.length ≤ 25 := by
      have := can_len (R := R) hsg.a
      rw [← em, List.length_map] at this
      have := Nat.mul_le_mul hl5 hl5
      omega
    have n12 := (hB16.same s17).ne hp12
    have hT18 := hT17.same s18
    have hB18 := (hB16.same s17).same s18
    have hP18 := (hP16.same s17).same s18
    have hr18 := (hr16.same s17).same s18
    have hl12 := hP12.l
    have nl12 : lp ≠ p12 := fun e => by
      have := hT17.p.l
      rw [e, hp12] at this
      cases this
    have np12 : p8 ≠ p12 := fun e => by
      have := (hP16.same s17).l
      rw [e, hp12] at this
      cases this
    have nr12 : r1 ≠ p12 := fun e => by
      have : H17 r1 = _ := s17 _ _ hr16
      rw [e, hp12] at this
      cases this
    walk_at "nrm"
    walk_at "go"
    rename_i T2 gT2
    refine iAppend (upd_old gT2 hl12) (by rw [List.length_map, sizeLine_eq]; omega) ?_
    walk_at "go"
    have f19 : Fr [p12] H18 (upd (upd (upd H18 T2 (.tup [.str (S [c0]), .str (S [c0])])) p12 (.lst (((m12.map fun q => V.ref q.1) : List V) ++ [V.ref T2]))) p12 (.lst (((m12.map fun q => V.ref q.1) : List V) ++ [V.ref T2]).reverse)) := Fr.trans (Fr.upd_new gT2) (Fr.trans Fr.in0 Fr.in0)
    generalize (upd (upd (upd H18 T2 (.tup [.str (S [c0]), .str (S [c0])])) p12 (.lst (((m12.map fun q => V.ref q.1) : List V) ++ [V.ref T2]))) p12 (.lst (((m12.map fun q => V.ref q.1) : List V) ++ [V.ref T2]).reverse)) = H19 at f19 ⊢
    have hB19 := hB18.fr f19 (by simpa using n12.1.symm) (by simpa using n12.2.1.symm) (by simpa using n12.2.2.symm)
    have hT19 := hT18.off f19 hl12 nl12
    have hP19 := hP18.off f19 hl12 np12
    have hr19 : RowAt H19 r1 sg R := f19 _ _ (by simpa using nr12) hr18
    clear f19 hT17 hT18 hT16 hB16 hB18 hP16 hP18 hr16 hr18 hl12 hP12 em ht17
    refine ⟨b, g, u, sg, m2, rfl, hB19, hsg.p, by omega, by omega, fun p9 q9 H20 hp9 hP9 hl9 hm9 d91 d92 d93 hn9 hB20 f20 => ?_⟩
    have hT20 := hT19.fr f20 hB19 nlb.1 nlb.2.1
    have hP20 := hP19.bag f20 hB19 d81 d82
    have hr20 := hr19.bag f20 hB19 hsg.p
    clear hT19 hP19 hr19 hB19
    walk_at "nrm"
    walk_at "go"
    intro t2 dt2' ht21 ht22 ht23
    refine iMkT ht21 ht22 ht23 hT20.al hsg hP9 (by omega) hm9 fun lp2 ms2 H21 hlp2 s21 hT2 => ?_
    have hP921 := hP9.same s21
    walk_at "nrm"
    walk_at "go"
    refine ⟨sg, p9, q9, rfl, hsg, hP921, by omega, hm9, fun r2 H22 hr2n s22 hr2 => ?_⟩
    walk_at "nrm"
    walk_at "go"
    refine ⟨t2, al, r2, sg, W, _, rfl, (hT2.same s22).tb, hsg, hr2, fun H23 s23 => ?_⟩
    have s2023 := Vk.Same.trans s21 (Vk.Same.trans s22 s23)
    have hB23 := hB20.same s2023
    have hT23 := hT20.same s2023
    have hP23 := hP20.same s2023
    have hr23 := hr20.same s2023
    clear hT20 hP20 hr20 hB20 hP921 hP9 hT2 hr2 s2023 s21 s22 s23
    walk_at "nrm"
    walk_at "go"
    refine ⟨b, g, u, sg, rfl, hB23, hsg, hsl, fun st H24 hst hB24 f24 => ?_⟩
    have hT24 := hT23.fr f24 hB23 nlb.1 nlb.2.1
    have hP24 := hP23.bag f24 hB23 d81 d82
    have hr24 := hr23.bag f24 hB23 hsg.p
    clear hT23 hP23 hr23 hB23
    walk_at "nrm"
    walk_at "go"
    refine ⟨t, al, st, sg, W, _, rfl, hT24.tb, hsg, hst, fun H25 s25 => ?_⟩
    walk_at "nrm"
    walk_at "go"
    refine ⟨t, al, sg, W, st, _, rfl, (hT24.same s25).tb, hsg, hst, fun H26 s26 => ?_⟩
    have s2426 := Vk.Same.trans s25 s26
    have hB26 := hB24.same s2426
    have hT26 := hT24.same s2426
    have hP26 := hP24.same s2426
    have hr26 := hr24.same s2426
    clear hT24 hP24 hr24 hB24
    walk_at "nrm"
    walk_at "go"
    refine ⟨b, g, u, al, p8, sg, W, q8, rfl, hB26, hT26.al, hsg, hsl, hP26, by omega, hm8, by simp [d81, d82], fun H27 hB27 f27 => ?_⟩
    have hT27 := hT26.fr f27 hB26 nlb.1 nlb.2.1
    have hr27 := hr26.bag f27 hB26 hsg.p
    clear hT26 hP26 hr26 hB26
    walk_at "nrm"
    walk_at "go"
    refine ⟨al, sg, W, rfl, hT27.al, hsg, fun H28 s28 => ?_⟩
    have hr28 := hr27.same s28
    walk_at "nrm"
    walk_at "go"
    refine ⟨r1, sg, R, rfl, hsg, hr28, fun r3 H29 hr3n s29 hr3 => ?_⟩
    have s2729 := Vk.Same.trans s28 s29
    have hB29 := hB27.same s2729
    have hT29 := hT27.same s2729
    have hr29 := hr28.same s29
    have hB27n := hB27.same s28
    clear hT27 hr27 hr28 hB27
    have hen := rows_enl (R := R) hsg hsl
    have hdue := rows_due (R := R) hsg hsl
    have hagr := rows_agr (R := R) hsg hsl
    have hrow := fun c hc => row_ok (R := R) (c := c) hsg hsl hc
    have hr3m : H29 r3 = some (.lst ((sg.map (rowW sg R)).map fun t => V.str (S t))) := by
      rw [hr3, List.map_map]
      rfl
    have hw := hen.ws
    have nr3 := hB27n.ne hr3n
    have hsp := split_C (s := 32) (.inr rfl) (spaced (sg.map (rowW sg R)))
    rw [cut_spaced hen.n fun t ht => (hen.t t ht).s] at hsp
    have hwl := spaced_le hen
    have hlow : ∀ t ∈ sg.map (rowW sg R), t.length ≤ 60 ∧ ∀ c ∈ t, c < 128 := fun t ht => ⟨by have := (hen.t t ht).l; omega, (hen.t t ht).c⟩
    walk_at "nrm"
    walk_at "go"
    refine ⟨al, _, sg, W, _, rfl, hT29.al, hsg, by omega, hsp, hlow, hdue, fun t9 H30 s30 hT9 => ?_⟩
    have hT30 := hT29.same s30
    have hr330 := s30 _ _ hr3m
    obtain ⟨dt30, ht30⟩ := hT30.t
    obtain ⟨dt9, lp9, ht9⟩ := hT9.ins
    walk_at "nrm"
    walk_at "go"
    refine ⟨t9, _, _, t, a.cTable, _, _, rfl, rfl, ht9, ht30, T.eqT, t9, al, t, al, sg, W, sg, W, _, _, rfl, hT9, hT30.tb, hsg, hsg, ?_⟩
    rw [decide_eq_true (show Alike sg W sg W from ⟨rfl, rfl⟩), decide_eq_true ((can_iff hsg.a).mpr hagr), Bool.true_and]
    walk_at "nrm"
    walk_at "go"
    refine ⟨al, sg, W, _, rfl, hT30.al, hsg, hen, fun H31 s31 => ?_⟩
    have s2931 := Vk.Same.trans s30 s31
    have hB31 := hB29.same s2931
    have hT31 := hT29.same s2931
    have hr31 := hr29.same s2931
    have hr331 := s2931 _ _ hr3m
    walk_at "nrm"
    walk_at "go"
    refine ⟨b, g, u, r3, w0, sg, _, rfl, hB31, by simp [nr3.1, nr3.2.1], hw0, hsg, hsl, hr331, by rw [List.length_map], fun t ht => ?_, fun p' es' H32 hp' hen' hB32 f32 => ?_⟩
    · obtain ⟨c, hc, rfl⟩ := List.mem_map.mp ht
      exact ⟨(hrow c hc).1, (hrow c hc).2.1, (hrow c hc).2.2.1⟩
    have hT32 := hT31.fr f32 hB31 nlb.1 nlb.2.1
    have hr32 := hr31.bag f32 hB31 hsg.p
    have hw' := hen'.ws
    walk_at "nrm"
    walk_at "go"
    refine ⟨al, sg, W, es', rfl, hT32.al, hsg, hen', fun H33 s33 => ?_⟩
    walk_at "nrm"
    walk_at "go"
    refine ⟨t, al, r1, sg, W, _, rfl, (hT32.same s33).tb, hsg, hr32.same s33, fun H34 s34 => ?_⟩
    walk_at "nrm"
    walk_at "go"
    exact k H34
end
end
section
set_option Elab.async false
set_option linter.all false
set_option maxRecDepth 100000
set_option maxHeartbeats 8000000
open PySem PySem.Spec PyProof.Rows L2
theorem find_of_cls {K : PySem.W.Frag} {C : Addr} {cd : ClassData} {name : Str} (h : PySem.W.clsIn K C = some cd) : PySem.W.findIn K (.ref C) name = PySem.W.alongIn K name cd.mro := by
  unfold PySem.W.clsIn at h
  split at h
  · rename_i ho
    cases h
    unfold PySem.W.findIn
    simp only [ho]
  · cases h
theorem kit_of {K : PySem.W.Frag} {t c : Addr} {b : Bool} (hc : PySem.W.isClsIn K c = true) (ht : PySem.W.typeIn K (.ref c) = some (.type "type")) (hs : PySem.W.subIn K (.ref t) (.ref c) = some b) (hcc : PySem.W.subIn K (.ref c) (.ref c) = some true) : PySem.W.kitOne K (.ref t) (.ref c) = some b := by
  have h1 : (PySem.W.clsIn K c).isSome = true := hc
  unfold PySem.W.kitOne
  by_cases e : (Value.ref t == Value.ref c) = true
  · rw [if_pos e]
    have e2 : Value.ref t = Value.ref c := eq_of_beq e
    rw [e2, hcc] at hs
    exact hs
  · rw [if_neg e]
    show (if ((PySem.W.clsIn K c).isSome && PySem.W.typeIn K (.ref c) == some (.type "type")) = true then PySem.W.subIn K (.ref t) (.ref c) else none) = _
    rw [h1, ht, if_pos (by rfl), hs]
theorem kit_own {K : PySem.W.Frag} {C : Addr} : PySem.W.kitOne K (.ref C) (.ref C) = some true := by
  unfold PySem.W.kitOne
  rw [if_pos (beq_self_eq_true _)]
theorem kit_any2 {K : PySem.W.Frag} {t c1 c2 : Addr} (h1 : PySem.W.kitOne K (.ref t) (.ref c1) = some false) (h2 : PySem.W.kitOne K (.ref t) (.ref c2) = some false) : PySem.W.kitAny K (.ref t) [.ref c1, .ref c2] = some false := by
  simp [PySem.W.kitAny, h1, h2]
theorem all_mk {l : PySem.W.OpenLaw} {w : World} {K : PySem.W.Frag} {h : Heap} {mg : Str → Option Value} {fa : Addr} (X : K.In h) (G : h.Ns mainGlobals mg) (hfa : mg "law" = some (.ref fa))
    {fDiff fPIsEntry fBag fTake fNames fSigns fInteger fPairs fOuts fTruth fWritten fIs fStrange fNoSign fNoPairs fBadPair fNamed fChanged fRight fIndex fReads fLaw C TB fAlEq fIsSign fAsc fTInit fTId pTId fTFull pTFull fTEmp pTEmp fTRead pTRead fTTotal pTTotal fTExact pTExact fTGet fTIn fTLen fTBool fTStr fTEq fTPairs TDA fA TE BA fBA ccBA cdaBA BP fBP ccBP cdaBP US fUS ccUS cdaUS BE fBE ccBE cdaBE : Addr} {odDiff anDiff odPIsEntry anPIsEntry odBag anBag odTake anTake odNames anNames odSigns anSigns odInteger anInteger odPairs anPairs odOuts anOuts odTruth anTruth odWritten anWritten odIs anIs odStrange anStrange odNoSign anNoSign odNoPairs anNoPairs odBadPair anBadPair odNamed anNamed odChanged anChanged odRight anRight odIndex anIndex odReads anReads odLaw anLaw odAlEq anAlEq odIsSign anIsSign odAsc anAsc odTInit anTInit odTId anTId odTFull anTFull odTEmp anTEmp odTRead anTRead odTTotal anTTotal odTExact anTExact odTGet anTGet odTIn anTIn odTLen anTLen odTBool anTBool odTStr anTStr odTEq anTEq odTPairs anTPairs odA anA odBA anBA ddccBA ddcdBA odBP anBP ddccBP ddcdBP odUS anUS ddccUS ddcdUS odBE anBE ddccBE ddcdBE : Option Addr} {slDiff slPIsEntry slBag slTake slNames slSigns slInteger slPairs slOuts slTruth slWritten slIs slStrange slNoSign slNoPairs slBadPair slNamed slChanged slRight slIndex slReads slLaw slAlEq slIsSign slAsc slTInit slTId slTFull slTEmp slTRead slTTotal slTExact slTGet slTIn slTLen slTBool slTStr slTEq slTPairs slA slBA slccBA slcdBA slBP slccBP slcdBP slUS slccUS slcdUS slBE slccBE slcdBE : Array (Option Value)} {ocDiff kVDiff dcDiff pmDiff cdDiff ctDiff ocPIsEntry kVPIsEntry dcPIsEntry pmPIsEntry cdPIsEntry ctPIsEntry ocBag kVBag dcBag pmBag cdBag ctBag ocTake kVTake dcTake pmTake cdTake ctTake ocNames kVNames dcNames pmNames cdNames ctNames ocSigns kVSigns dcSigns pmSigns cdSigns ctSigns ocInteger kVInteger dcInteger pmInteger cdInteger ctInteger ocPairs kVPairs dcPairs pmPairs cdPairs ctPairs ocOuts kVOuts dcOuts pmOuts cdOuts ctOuts ocTruth kVTruth dcTruth pmTruth cdTruth ctTruth ocWritten kVWritten dcWritten pmWritten cdWritten ctWritten ocIs kVIs dcIs pmIs cdIs ctIs ocStrange kVStrange dcStrange pmStrange cdStrange ctStrange ocNoSign kVNoSign dcNoSign pmNoSign cdNoSign ctNoSign ocNoPairs kVNoPairs dcNoPairs pmNoPairs cdNoPairs ctNoPairs ocBadPair kVBadPair dcBadPair pmBadPair cdBadPair ctBadPair ocNamed kVNamed dcNamed pmNamed cdNamed ctNamed ocChanged kVChanged dcChanged pmChanged cdChanged ctChanged ocRight kVRight dcRight pmRight cdRight ctRight ocIndex kVIndex dcIndex pmIndex cdIndex ctIndex ocReads kVReads dcReads pmReads cdReads ctReads ocLaw kVLaw dcLaw pmLaw cdLaw ctLaw ocAlEq kVAlEq dcAlEq pmAlEq cdAlEq ctAlEq ocIsSign kVIsSign dcIsSign pmIsSign cdIsSign ctIsSign ocAsc kVAsc dcAsc pmAsc cdAsc ctAsc ocTInit kVTInit dcTInit pmTInit cdTInit ctTInit ocTId kVTId dcTId pmTId cdTId ctTId ocTFull kVTFull dcTFull pmTFull cdTFull ctTFull ocTEmp kVTEmp dcTEmp pmTEmp cdTEmp ctTEmp ocTRead kVTRead dcTRead pmTRead cdTRead ctTRead ocTTotal kVTTotal dcTTotal pmTTotal cdTTotal ctTTotal ocTExact kVTExact dcTExact pmTExact cdTExact ctTExact ocTGet kVTGet dcTGet pmTGet cdTGet ctTGet ocTIn kVTIn dcTIn pmTIn cdTIn ctTIn ocTLen kVTLen dcTLen pmTLen cdTLen ctTLen ocTBool kVTBool dcTBool pmTBool cdTBool ctTBool ocTStr kVTStr dcTStr pmTStr cdTStr ctTStr ocTEq kVTEq dcTEq pmTEq cdTEq ctTEq ocTPairs kVTPairs dcTPairs pmTPairs cdTPairs ctTPairs ocA kVA dcA pmA cdA ctA ocBA kVBA dcBA pmBA ctBA clccBA clcdBA ocBP kVBP dcBP pmBP ctBP clccBP clcdBP ocUS kVUS dcUS pmUS ctUS clccUS clcdUS ocBE kVBE dcBE pmBE ctBE clccBE clcdBE : Value} {tM tJ tl tj2 : Tok} {rsTId : List Value} {rsTFull : List Value} {rsTEmp : List Value} {rsTRead : List Value} {rsTTotal : List Value} {rsTExact : List Value} {nDA : Nat} {odDA : Option Addr} {slDA : Array (Option Value)} {ocDA : Value} {tDA : Tok} {vsCBA : Array Value} {flBA : Str} {tfBA : Tok} {vsCBP : Array Value} {flBP : Str} {tfBP : Tok} {vsCUS : Array Value} {flUS : Str} {tfUS : Tok} {vsCBE : Array Value} {flBE : Str} {tfBE : Tok}
    {nmTE qTE : Str} {NTE : Addr} {bsTE : List Value} {snTE : List Str} {subTE : List Value} {abTE : Bool} {colTE : Option Bool} {ddTE : Option Addr} {m0TE m1TE m2TE m3TE m5TE : Option Value}
    {nmBA qBA : Str} {NBA : Addr} {bsBA : List Value} {snBA : List Str} {subBA : List Value} {abBA : Bool} {colBA : Option Bool} {ddBA : Option Addr} {m0BA m1BA m2BA m3BA m5BA : Option Value}
    {nmBP qBP : Str} {NBP : Addr} {bsBP : List Value} {snBP : List Str} {subBP : List Value} {abBP : Bool} {colBP : Option Bool} {ddBP : Option Addr} {m0BP m1BP m2BP m3BP m5BP : Option Value}
    {nmUS qUS : Str} {NUS : Addr} {bsUS : List Value} {snUS : List Str} {subUS : List Value} {abUS : Bool} {colUS : Option Bool} {ddUS : Option Addr} {m0US m1US m2US m3US m5US : Option Value}
    {nmBE qBE : Str} {NBE : Addr} {bsBE : List Value} {snBE : List Str} {subBE : List Value} {abBE : Bool} {colBE : Option Bool} {ddBE : Option Addr} {m0BE m1BE m2BE m3BE m5BE : Option Value}
    (lDiff : K.lookup fDiff = some ⟨ocDiff, odDiff, .func (PySem.W.fnOf "differ_within" "differ_within" (defArgs sDiff) (defBody sDiff) (defScope sDiff) .none kVDiff dcDiff pmDiff anDiff cdDiff ctDiff), slDiff⟩)
    (cDiff : PySem.W.codeIn K cdDiff "differ_within" = true)
    (aDiff : PySem.W.nsIn K mainGlobals "differ_within" = some (some (.ref fDiff)))
    (kDiff : PySem.W.keepIn K (.ref fDiff) = true)
    (lPIsEntry : K.lookup fPIsEntry = some ⟨ocPIsEntry, odPIsEntry, .func (PySem.W.fnOf "is_entry" "is_entry" (defArgs sPIsEntry) (defBody sPIsEntry) (defScope sPIsEntry) .none kVPIsEntry dcPIsEntry pmPIsEntry anPIsEntry cdPIsEntry ctPIsEntry), slPIsEntry⟩)
    (cPIsEntry : PySem.W.codeIn K cdPIsEntry "is_entry" = true)
    (aPIsEntry : PySem.W.nsIn K mainGlobals "is_entry" = some (some (.ref fPIsEntry)))
    (kPIsEntry : PySem.W.keepIn K (.ref fPIsEntry) = true)
    (lBag : K.lookup fBag = some ⟨ocBag, odBag, .func (PySem.W.fnOf "_law_bag" "_law_bag" (defArgs sBag) (defBody sBag) (defScope sBag) .none kVBag dcBag pmBag anBag cdBag ctBag), slBag⟩)
    (cBag : PySem.W.codeIn K cdBag "_law_bag" = true)
    (aBag : PySem.W.nsIn K mainGlobals "_law_bag" = some (some (.ref fBag)))
    (kBag : PySem.W.keepIn K (.ref fBag) = true)
    (lTake : K.lookup fTake = some ⟨ocTake, odTake, .func (PySem.W.fnOf "_law_take" "_law_take" (defArgs sTake) (defBody sTake) (defScope sTake) .none kVTake dcTake pmTake anTake cdTake ctTake), slTake⟩)
    (cTake : PySem.W.codeIn K cdTake "_law_take" = true)
    (aTake : PySem.W.nsIn K mainGlobals "_law_take" = some (some (.ref fTake)))
    (kTake : PySem.W.keepIn K (.ref fTake) = true)
    (lNames : K.lookup fNames = some ⟨ocNames, odNames, .func (PySem.W.fnOf "_law_names" "_law_names" (defArgs sNames) (defBody sNames) (defScope sNames) .none kVNames dcNames pmNames anNames cdNames ctNames), slNames⟩)
    (cNames : PySem.W.codeIn K cdNames "_law_names" = true)
    (aNames : PySem.W.nsIn K mainGlobals "_law_names" = some (some (.ref fNames)))
    (kNames : PySem.W.keepIn K (.ref fNames) = true)
    (lSigns : K.lookup fSigns = some ⟨ocSigns, odSigns, .func (PySem.W.fnOf "_law_signs" "_law_signs" (defArgs sSigns) (defBody sSigns) (defScope sSigns) .none kVSigns dcSigns pmSigns anSigns cdSigns ctSigns), slSigns⟩)
    (cSigns : PySem.W.codeIn K cdSigns "_law_signs" = true)
    (aSigns : PySem.W.nsIn K mainGlobals "_law_signs" = some (some (.ref fSigns)))
    (kSigns : PySem.W.keepIn K (.ref fSigns) = true)
    (lInteger : K.lookup fInteger = some ⟨ocInteger, odInteger, .func (PySem.W.fnOf "_law_integer" "_law_integer" (defArgs sInteger) (defBody sInteger) (defScope sInteger) .none kVInteger dcInteger pmInteger anInteger cdInteger ctInteger), slInteger⟩)
    (cInteger : PySem.W.codeIn K cdInteger "_law_integer" = true)
    (aInteger : PySem.W.nsIn K mainGlobals "_law_integer" = some (some (.ref fInteger)))
    (kInteger : PySem.W.keepIn K (.ref fInteger) = true)
    (lPairs : K.lookup fPairs = some ⟨ocPairs, odPairs, .func (PySem.W.fnOf "_law_pairs" "_law_pairs" (defArgs sPairs) (defBody sPairs) (defScope sPairs) .none kVPairs dcPairs pmPairs anPairs cdPairs ctPairs), slPairs⟩)
    (cPairs : PySem.W.codeIn K cdPairs "_law_pairs" = true)
    (aPairs : PySem.W.nsIn K mainGlobals "_law_pairs" = some (some (.ref fPairs)))
    (kPairs : PySem.W.keepIn K (.ref fPairs) = true)
    (lOuts : K.lookup fOuts = some ⟨ocOuts, odOuts, .func (PySem.W.fnOf "_law_outs" "_law_outs" (defArgs sOuts) (defBody sOuts) (defScope sOuts) .none kVOuts dcOuts pmOuts anOuts cdOuts ctOuts), slOuts⟩)
    (cOuts : PySem.W.codeIn K cdOuts "_law_outs" = true)
    (aOuts : PySem.W.nsIn K mainGlobals "_law_outs" = some (some (.ref fOuts)))
    (kOuts : PySem.W.keepIn K (.ref fOuts) = true)
    (lTruth : K.lookup fTruth = some ⟨ocTruth, odTruth, .func (PySem.W.fnOf "_law_truth" "_law_truth" (defArgs sTruth) (defBody sTruth) (defScope sTruth) .none kVTruth dcTruth pmTruth anTruth cdTruth ctTruth), slTruth⟩)
    (cTruth : PySem.W.codeIn K cdTruth "_law_truth" = true)
    (aTruth : PySem.W.nsIn K mainGlobals "_law_truth" = some (some (.ref fTruth)))
    (kTruth : PySem.W.keepIn K (.ref fTruth) = true)
    (lWritten : K.lookup fWritten = some ⟨ocWritten, odWritten, .func (PySem.W.fnOf "_law_written" "_law_written" (defArgs sWritten) (defBody sWritten) (defScope sWritten) .none kVWritten dcWritten pmWritten anWritten cdWritten ctWritten), slWritten⟩)
    (cWritten : PySem.W.codeIn K cdWritten "_law_written" = true)
    (aWritten : PySem.W.nsIn K mainGlobals "_law_written" = some (some (.ref fWritten)))
    (kWritten : PySem.W.keepIn K (.ref fWritten) = true)
    (lIs : K.lookup fIs = some ⟨ocIs, odIs, .func (PySem.W.fnOf "_law_is" "_law_is" (defArgs sIs) (defBody sIs) (defScope sIs) .none kVIs dcIs pmIs anIs cdIs ctIs), slIs⟩)
    (cIs : PySem.W.codeIn K cdIs "_law_is" = true)
    (aIs : PySem.W.nsIn K mainGlobals "_law_is" = some (some (.ref fIs)))
    (kIs : PySem.W.keepIn K (.ref fIs) = true)
    (lStrange : K.lookup fStrange = some ⟨ocStrange, odStrange, .func (PySem.W.fnOf "_law_strange" "_law_strange" (defArgs sStrange) (defBody sStrange) (defScope sStrange) .none kVStrange dcStrange pmStrange anStrange cdStrange ctStrange), slStrange⟩)
    (cStrange : PySem.W.codeIn K cdStrange "_law_strange" = true)
    (aStrange : PySem.W.nsIn K mainGlobals "_law_strange" = some (some (.ref fStrange)))
    (kStrange : PySem.W.keepIn K (.ref fStrange) = true)
    (lNoSign : K.lookup fNoSign = some ⟨ocNoSign, odNoSign, .func (PySem.W.fnOf "_law_no_sign" "_law_no_sign" (defArgs sNoSign) (defBody sNoSign) (defScope sNoSign) .none kVNoSign dcNoSign pmNoSign anNoSign cdNoSign ctNoSign), slNoSign⟩)
    (cNoSign : PySem.W.codeIn K cdNoSign "_law_no_sign" = true)
    (aNoSign : PySem.W.nsIn K mainGlobals "_law_no_sign" = some (some (.ref fNoSign)))
    (kNoSign : PySem.W.keepIn K (.ref fNoSign) = true)
    (lNoPairs : K.lookup fNoPairs = some ⟨ocNoPairs, odNoPairs, .func (PySem.W.fnOf "_law_no_pairs" "_law_no_pairs" (defArgs sNoPairs) (defBody sNoPairs) (defScope sNoPairs) .none kVNoPairs dcNoPairs pmNoPairs anNoPairs cdNoPairs ctNoPairs), slNoPairs⟩)
    (cNoPairs : PySem.W.codeIn K cdNoPairs "_law_no_pairs" = true)
    (aNoPairs : PySem.W.nsIn K mainGlobals "_law_no_pairs" = some (some (.ref fNoPairs)))
    (kNoPairs : PySem.W.keepIn K (.ref fNoPairs) = true)
    (lBadPair : K.lookup fBadPair = some ⟨ocBadPair, odBadPair, .func (PySem.W.fnOf "_law_bad_pair" "_law_bad_pair" (defArgs sBadPair) (defBody sBadPair) (defScope sBadPair) .none kVBadPair dcBadPair pmBadPair anBadPair cdBadPair ctBadPair), slBadPair⟩)
    (cBadPair : PySem.W.codeIn K cdBadPair "_law_bad_pair" = true)
    (aBadPair : PySem.W.nsIn K mainGlobals "_law_bad_pair" = some (some (.ref fBadPair)))
    (kBadPair : PySem.W.keepIn K (.ref fBadPair) = true)
    (lNamed : K.lookup fNamed = some ⟨ocNamed, odNamed, .func (PySem.W.fnOf "_law_named" "_law_named" (defArgs sNamed) (defBody sNamed) (defScope sNamed) .none kVNamed dcNamed pmNamed anNamed cdNamed ctNamed), slNamed⟩)
    (cNamed : PySem.W.codeIn K cdNamed "_law_named" = true)
    (aNamed : PySem.W.nsIn K mainGlobals "_law_named" = some (some (.ref fNamed)))
    (kNamed : PySem.W.keepIn K (.ref fNamed) = true)
    (lChanged : K.lookup fChanged = some ⟨ocChanged, odChanged, .func (PySem.W.fnOf "_law_changed" "_law_changed" (defArgs sChanged) (defBody sChanged) (defScope sChanged) .none kVChanged dcChanged pmChanged anChanged cdChanged ctChanged), slChanged⟩)
    (cChanged : PySem.W.codeIn K cdChanged "_law_changed" = true)
    (aChanged : PySem.W.nsIn K mainGlobals "_law_changed" = some (some (.ref fChanged)))
    (kChanged : PySem.W.keepIn K (.ref fChanged) = true)
    (lRight : K.lookup fRight = some ⟨ocRight, odRight, .func (PySem.W.fnOf "_law_right" "_law_right" (defArgs sRight) (defBody sRight) (defScope sRight) .none kVRight dcRight pmRight anRight cdRight ctRight), slRight⟩)
    (cRight : PySem.W.codeIn K cdRight "_law_right" = true)
    (aRight : PySem.W.nsIn K mainGlobals "_law_right" = some (some (.ref fRight)))
    (kRight : PySem.W.keepIn K (.ref fRight) = true)
    (lIndex : K.lookup fIndex = some ⟨ocIndex, odIndex, .func (PySem.W.fnOf "_law_index" "_law_index" (defArgs sIndex) (defBody sIndex) (defScope sIndex) .none kVIndex dcIndex pmIndex anIndex cdIndex ctIndex), slIndex⟩)
    (cIndex : PySem.W.codeIn K cdIndex "_law_index" = true)
    (aIndex : PySem.W.nsIn K mainGlobals "_law_index" = some (some (.ref fIndex)))
    (kIndex : PySem.W.keepIn K (.ref fIndex) = true)
    (lReads : K.lookup fReads = some ⟨ocReads, odReads, .func (PySem.W.fnOf "_law_reads" "_law_reads" (defArgs sReads) (defBody sReads) (defScope sReads) .none kVReads dcReads pmReads anReads cdReads ctReads), slReads⟩)
    (cReads : PySem.W.codeIn K cdReads "_law_reads" = true)
    (aReads : PySem.W.nsIn K mainGlobals "_law_reads" = some (some (.ref fReads)))
    (kReads : PySem.W.keepIn K (.ref fReads) = true)
    (lLaw : K.lookup fLaw = some ⟨ocLaw, odLaw, .func (PySem.W.fnOf "law" "law" (defArgs sLaw) (defBody sLaw) (defScope sLaw) .none kVLaw dcLaw pmLaw anLaw cdLaw ctLaw), slLaw⟩)
    (cLaw : PySem.W.codeIn K cdLaw "law" = true)
    (aLaw : PySem.W.nsIn K mainGlobals "law" = some (some (.ref fLaw)))
    (kLaw : PySem.W.keepIn K (.ref fLaw) = true)
    (z_len : PySem.W.nsIn K mainGlobals "len" = some none)
    (z_set : PySem.W.nsIn K mainGlobals "set" = some none)
    (z_all : PySem.W.nsIn K mainGlobals "all" = some none)
    (z_abs : PySem.W.nsIn K mainGlobals "abs" = some none)
    (z_int : PySem.W.nsIn K mainGlobals "int" = some none)
    (z_range : PySem.W.nsIn K mainGlobals "range" = some none)
    (z_sorted : PySem.W.nsIn K mainGlobals "sorted" = some none)
    (z_isinstance : PySem.W.nsIn K mainGlobals "isinstance" = some none)
    (z_str : PySem.W.nsIn K mainGlobals "str" = some none)
    (z_bool : PySem.W.nsIn K mainGlobals "bool" = some none)
    (z_list : PySem.W.nsIn K mainGlobals "list" = some none)
    (z_tuple : PySem.W.nsIn K mainGlobals "tuple" = some none)
    (z_any : PySem.W.nsIn K mainGlobals "any" = some none)
    (z_enumerate : PySem.W.nsIn K mainGlobals "enumerate" = some none)
    (z_min : PySem.W.nsIn K mainGlobals "min" = some none)
    (z_max : PySem.W.nsIn K mainGlobals "max" = some none)
    (z_ValueError : PySem.W.nsIn K mainGlobals "ValueError" = some none)
    (aC : PySem.W.nsIn K mainGlobals "Alphabet" = some (some (.ref C)))
    (pgC : PySem.W.plainGet K C Str.empty = true)
    (hdC : PySem.W.hasDictIn K C = true)
    (poC : PySem.W.plainOver K C = true)
    (saC : PySem.W.findIn K (.ref C) "__setattr__" = some (some (.builtin "object.__setattr__")))
    (mkC : PySem.W.makesIn K C = true)
    (kC : PySem.W.keepIn K (.ref C) = true)
    (nC_letters : PySem.W.findIn K (.ref C) "letters" = some none)
    (nC_vowels : PySem.W.findIn K (.ref C) "vowels" = some none)
    (nC_consonants : PySem.W.findIn K (.ref C) "consonants" = some none)
    (nC_signs : PySem.W.findIn K (.ref C) "signs" = some none)
    (ig : PySem.W.specialIn K (.builtin "object.__class__") "__get__" = some (some (.builtin "getset_descriptor.__get__")))
    (it : PySem.W.takesIn K (.builtin "object.__class__") = some true)
    (icC : PySem.W.findIn K (.ref C) "__class__" = some (some (.builtin "object.__class__")))
    (imC : PySem.W.mroIn K C (.type "object") = some true)
    (rdC : PySem.W.readsIn K C (.type "type") = true)
    (gaC : PySem.W.specialIn K (.ref C) "__getattribute__" = some (some (.builtin "type.__getattribute__")))
    (vM : PySem.W.findCls K (.ref C) (.type "type") "MOST" = some (.val (.int 4 tM)))
    (vJ : PySem.W.findCls K (.ref C) (.type "type") "JOINT" = some (.val (.str "-" tJ)))
    (aJ : PySem.W.findIn K (.ref C) "JOINT" = some (some (.str "-" tj2)))
    (gJ : PySem.W.specialIn K (.str "-" tj2) "__get__" = some none)
    (aSL : PySem.W.nsIn K mainGlobals "SMALL_LETTERS" = some (some (.str "abcdefghijklmnopqrstuvwxyz" tl)))
    (aTB : PySem.W.nsIn K mainGlobals "Table" = some (some (.ref TB)))
    (pgTB : PySem.W.plainGet K TB Str.empty = true)
    (hdTB : PySem.W.hasDictIn K TB = true)
    (poTB : PySem.W.plainOver K TB = true)
    (saTB : PySem.W.findIn K (.ref TB) "__setattr__" = some (some (.builtin "object.__setattr__")))
    (mkTB : PySem.W.makesIn K TB = true)
    (kTB : PySem.W.keepIn K (.ref TB) = true)
    (nTB_alphabet : PySem.W.findIn K (.ref TB) "alphabet" = some none)
    (nTB_pairs : PySem.W.findIn K (.ref TB) "_pairs" = some none)
    (icTB : PySem.W.findIn K (.ref TB) "__class__" = some (some (.builtin "object.__class__")))
    (imTB : PySem.W.mroIn K TB (.type "object") = some true)
    (rdTB : PySem.W.readsIn K TB (.type "type") = true)
    (gaTB : PySem.W.specialIn K (.ref TB) "__getattribute__" = some (some (.builtin "type.__getattribute__")))
    (lAlEq : K.lookup fAlEq = some ⟨ocAlEq, odAlEq, .func (PySem.W.fnOf "__eq__" "Alphabet.__eq__" (defArgs sAlEq) (defBody sAlEq) (defScope sAlEq) .none kVAlEq dcAlEq pmAlEq anAlEq cdAlEq ctAlEq), slAlEq⟩)
    (cAlEq : PySem.W.codeIn K cdAlEq "Alphabet.__eq__" = true)
    (aAlEq : PySem.W.findIn K (.ref C) "__eq__" = some (some (.ref fAlEq)))
    (kAlEq : PySem.W.keepIn K (.ref fAlEq) = true)
    (iAlEq : PySem.W.isFn K (.ref fAlEq) = true)
    (lIsSign : K.lookup fIsSign = some ⟨ocIsSign, odIsSign, .func (PySem.W.fnOf "is_sign" "Alphabet.is_sign" (defArgs sIsSign) (defBody sIsSign) (defScope sIsSign) .none kVIsSign dcIsSign pmIsSign anIsSign cdIsSign ctIsSign), slIsSign⟩)
    (cIsSign : PySem.W.codeIn K cdIsSign "Alphabet.is_sign" = true)
    (aIsSign : PySem.W.findIn K (.ref C) "is_sign" = some (some (.ref fIsSign)))
    (kIsSign : PySem.W.keepIn K (.ref fIsSign) = true)
    (iIsSign : PySem.W.isFn K (.ref fIsSign) = true)
    (lAsc : K.lookup fAsc = some ⟨ocAsc, odAsc, .func (PySem.W.fnOf "are_ascending" "Alphabet.are_ascending" (defArgs sAsc) (defBody sAsc) (defScope sAsc) .none kVAsc dcAsc pmAsc anAsc cdAsc ctAsc), slAsc⟩)
    (cAsc : PySem.W.codeIn K cdAsc "Alphabet.are_ascending" = true)
    (aAsc : PySem.W.findIn K (.ref C) "are_ascending" = some (some (.ref fAsc)))
    (kAsc : PySem.W.keepIn K (.ref fAsc) = true)
    (iAsc : PySem.W.isFn K (.ref fAsc) = true)
    (lTInit : K.lookup fTInit = some ⟨ocTInit, odTInit, .func (PySem.W.fnOf "__init__" "Table.__init__" (defArgs sTInit) (defBody sTInit) (defScope sTInit) .none kVTInit dcTInit pmTInit anTInit cdTInit ctTInit), slTInit⟩)
    (cTInit : PySem.W.codeIn K cdTInit "Table.__init__" = true)
    (aTInit : PySem.W.findIn K (.ref TB) "__init__" = some (some (.ref fTInit)))
    (kTInit : PySem.W.keepIn K (.ref fTInit) = true)
    (iTInit : PySem.W.isFn K (.ref fTInit) = true)
    (lTId : K.lookup fTId = some ⟨ocTId, odTId, .func (PySem.W.fnOf "identity" "Table.identity" (defArgs sTId) (defBody sTId) (defScope sTId) .none kVTId dcTId pmTId anTId cdTId ctTId), slTId⟩)
    (cTId : PySem.W.codeIn K cdTId "Table.identity" = true)
    (kTId : PySem.W.keepIn K (.ref fTId) = true)
    (cmTId : PySem.W.findCls K (.ref TB) (.type "type") "identity" = some (.get (.builtin "classmethod.__get__") (.ref pTId) .none (.ref TB)))
    (rcTId : PySem.W.recIn K pTId "classmethod" = some (.ref fTId :: rsTId))
    (fiTId : PySem.W.fnIn K fTId = true)
    (lTFull : K.lookup fTFull = some ⟨ocTFull, odTFull, .func (PySem.W.fnOf "full" "Table.full" (defArgs sTFull) (defBody sTFull) (defScope sTFull) .none kVTFull dcTFull pmTFull anTFull cdTFull ctTFull), slTFull⟩)
    (cTFull : PySem.W.codeIn K cdTFull "Table.full" = true)
    (kTFull : PySem.W.keepIn K (.ref fTFull) = true)
    (cmTFull : PySem.W.findCls K (.ref TB) (.type "type") "full" = some (.get (.builtin "classmethod.__get__") (.ref pTFull) .none (.ref TB)))
    (rcTFull : PySem.W.recIn K pTFull "classmethod" = some (.ref fTFull :: rsTFull))
    (fiTFull : PySem.W.fnIn K fTFull = true)
    (lTEmp : K.lookup fTEmp = some ⟨ocTEmp, odTEmp, .func (PySem.W.fnOf "empty" "Table.empty" (defArgs sTEmp) (defBody sTEmp) (defScope sTEmp) .none kVTEmp dcTEmp pmTEmp anTEmp cdTEmp ctTEmp), slTEmp⟩)
    (cTEmp : PySem.W.codeIn K cdTEmp "Table.empty" = true)
    (kTEmp : PySem.W.keepIn K (.ref fTEmp) = true)
    (cmTEmp : PySem.W.findCls K (.ref TB) (.type "type") "empty" = some (.get (.builtin "classmethod.__get__") (.ref pTEmp) .none (.ref TB)))
    (rcTEmp : PySem.W.recIn K pTEmp "classmethod" = some (.ref fTEmp :: rsTEmp))
    (fiTEmp : PySem.W.fnIn K fTEmp = true)
    (lTRead : K.lookup fTRead = some ⟨ocTRead, odTRead, .func (PySem.W.fnOf "read" "Table.read" (defArgs sTRead) (defBody sTRead) (defScope sTRead) .none kVTRead dcTRead pmTRead anTRead cdTRead ctTRead), slTRead⟩)
    (cTRead : PySem.W.codeIn K cdTRead "Table.read" = true)
    (kTRead : PySem.W.keepIn K (.ref fTRead) = true)
    (cmTRead : PySem.W.findCls K (.ref TB) (.type "type") "read" = some (.get (.builtin "classmethod.__get__") (.ref pTRead) .none (.ref TB)))
    (rcTRead : PySem.W.recIn K pTRead "classmethod" = some (.ref fTRead :: rsTRead))
    (fiTRead : PySem.W.fnIn K fTRead = true)
    (lTTotal : K.lookup fTTotal = some ⟨ocTTotal, odTTotal, .func (PySem.W.fnOf "total" "Table.total" (defArgs sTTotal) (defBody sTTotal) (defScope sTTotal) .none kVTTotal dcTTotal pmTTotal anTTotal cdTTotal ctTTotal), slTTotal⟩)
    (cTTotal : PySem.W.codeIn K cdTTotal "Table.total" = true)
    (kTTotal : PySem.W.keepIn K (.ref fTTotal) = true)
    (aTTotal : PySem.W.findIn K (.ref TB) "total" = some (some (.ref pTTotal)))
    (gTTotal : PySem.W.specialIn K (.ref pTTotal) "__get__" = some (some (.builtin "property.__get__")))
    (tTTotal : PySem.W.takesIn K (.ref pTTotal) = some true)
    (rTTotal : PySem.W.recIn K pTTotal "property" = some (.ref fTTotal :: rsTTotal))
    (lTExact : K.lookup fTExact = some ⟨ocTExact, odTExact, .func (PySem.W.fnOf "exact" "Table.exact" (defArgs sTExact) (defBody sTExact) (defScope sTExact) .none kVTExact dcTExact pmTExact anTExact cdTExact ctTExact), slTExact⟩)
    (cTExact : PySem.W.codeIn K cdTExact "Table.exact" = true)
    (kTExact : PySem.W.keepIn K (.ref fTExact) = true)
    (aTExact : PySem.W.findIn K (.ref TB) "exact" = some (some (.ref pTExact)))
    (gTExact : PySem.W.specialIn K (.ref pTExact) "__get__" = some (some (.builtin "property.__get__")))
    (tTExact : PySem.W.takesIn K (.ref pTExact) = some true)
    (rTExact : PySem.W.recIn K pTExact "property" = some (.ref fTExact :: rsTExact))
    (lTGet : K.lookup fTGet = some ⟨ocTGet, odTGet, .func (PySem.W.fnOf "__getitem__" "Table.__getitem__" (defArgs sTGet) (defBody sTGet) (defScope sTGet) .none kVTGet dcTGet pmTGet anTGet cdTGet ctTGet), slTGet⟩)
    (cTGet : PySem.W.codeIn K cdTGet "Table.__getitem__" = true)
    (aTGet : PySem.W.findIn K (.ref TB) "__getitem__" = some (some (.ref fTGet)))
    (kTGet : PySem.W.keepIn K (.ref fTGet) = true)
    (iTGet : PySem.W.isFn K (.ref fTGet) = true)
    (lTIn : K.lookup fTIn = some ⟨ocTIn, odTIn, .func (PySem.W.fnOf "__contains__" "Table.__contains__" (defArgs sTIn) (defBody sTIn) (defScope sTIn) .none kVTIn dcTIn pmTIn anTIn cdTIn ctTIn), slTIn⟩)
    (cTIn : PySem.W.codeIn K cdTIn "Table.__contains__" = true)
    (aTIn : PySem.W.findIn K (.ref TB) "__contains__" = some (some (.ref fTIn)))
    (kTIn : PySem.W.keepIn K (.ref fTIn) = true)
    (iTIn : PySem.W.isFn K (.ref fTIn) = true)
    (lTLen : K.lookup fTLen = some ⟨ocTLen, odTLen, .func (PySem.W.fnOf "__len__" "Table.__len__" (defArgs sTLen) (defBody sTLen) (defScope sTLen) .none kVTLen dcTLen pmTLen anTLen cdTLen ctTLen), slTLen⟩)
    (cTLen : PySem.W.codeIn K cdTLen "Table.__len__" = true)
    (aTLen : PySem.W.findIn K (.ref TB) "__len__" = some (some (.ref fTLen)))
    (kTLen : PySem.W.keepIn K (.ref fTLen) = true)
    (iTLen : PySem.W.isFn K (.ref fTLen) = true)
    (lTBool : K.lookup fTBool = some ⟨ocTBool, odTBool, .func (PySem.W.fnOf "__bool__" "Table.__bool__" (defArgs sTBool) (defBody sTBool) (defScope sTBool) .none kVTBool dcTBool pmTBool anTBool cdTBool ctTBool), slTBool⟩)
    (cTBool : PySem.W.codeIn K cdTBool "Table.__bool__" = true)
    (aTBool : PySem.W.findIn K (.ref TB) "__bool__" = some (some (.ref fTBool)))
    (kTBool : PySem.W.keepIn K (.ref fTBool) = true)
    (iTBool : PySem.W.isFn K (.ref fTBool) = true)
    (lTStr : K.lookup fTStr = some ⟨ocTStr, odTStr, .func (PySem.W.fnOf "__str__" "Table.__str__" (defArgs sTStr) (defBody sTStr) (defScope sTStr) .none kVTStr dcTStr pmTStr anTStr cdTStr ctTStr), slTStr⟩)
    (cTStr : PySem.W.codeIn K cdTStr "Table.__str__" = true)
    (aTStr : PySem.W.findIn K (.ref TB) "__str__" = some (some (.ref fTStr)))
    (kTStr : PySem.W.keepIn K (.ref fTStr) = true)
    (iTStr : PySem.W.isFn K (.ref fTStr) = true)
    (lTEq : K.lookup fTEq = some ⟨ocTEq, odTEq, .func (PySem.W.fnOf "__eq__" "Table.__eq__" (defArgs sTEq) (defBody sTEq) (defScope sTEq) .none kVTEq dcTEq pmTEq anTEq cdTEq ctTEq), slTEq⟩)
    (cTEq : PySem.W.codeIn K cdTEq "Table.__eq__" = true)
    (aTEq : PySem.W.findIn K (.ref TB) "__eq__" = some (some (.ref fTEq)))
    (kTEq : PySem.W.keepIn K (.ref fTEq) = true)
    (iTEq : PySem.W.isFn K (.ref fTEq) = true)
    (lTPairs : K.lookup fTPairs = some ⟨ocTPairs, odTPairs, .func (PySem.W.fnOf "pairs" "Table.pairs" (defArgs sTPairs) (defBody sTPairs) (defScope sTPairs) .none kVTPairs dcTPairs pmTPairs anTPairs cdTPairs ctTPairs), slTPairs⟩)
    (cTPairs : PySem.W.codeIn K cdTPairs "Table.pairs" = true)
    (aTPairs : PySem.W.findIn K (.ref TB) "pairs" = some (some (.ref fTPairs)))
    (kTPairs : PySem.W.keepIn K (.ref fTPairs) = true)
    (iTPairs : PySem.W.isFn K (.ref fTPairs) = true)
    (fnTGet : PySem.W.fnIn K fTGet = true)
    (eqC : PySem.W.notFirst K C (.ref C) = true)
    (eqTB : PySem.W.notFirst K TB (.ref TB) = true)
    (lA : K.lookup fA = some ⟨ocA, odA, .func (PySem.W.fnOf "__init__" "Alphabet.__init__" (defArgs sAI) (defBody sAI) (defScope sAI) (.ref TDA) kVA dcA pmA anA cdA ctA), slA⟩)
    (cA : PySem.W.codeIn K cdA "Alphabet.__init__" = true)
    (aA : PySem.W.findIn K (.ref C) "__init__" = some (some (.ref fA)))
    (lDA : K.lookup TDA = some ⟨ocDA, odDA, .seq [Value.str "" tDA].toArray nDA, slDA⟩)
    (kA : PySem.W.keepIn K (.ref fA) = true)
    (iA : PySem.W.isFn K (.ref fA) = true)
    (xTE : K.lookup TE = some (excClassObj nmTE qTE TE NTE bsTE [.type "ValueError", .type "Exception", .type "BaseException", .type "object"] true snTE subTE abTE colTE ddTE m0TE m1TE m2TE m3TE m5TE "ValueError.__new__"))
    (aTE : PySem.W.nsIn K mainGlobals "TaleError" = some (some (.ref TE)))
    (eTE : PySem.W.subIn K (.ref TE) (.type "BaseException") = some true)
    (tTE : PySem.W.typeIn K (.ref TE) = some (.type "type"))
    (hTE : PySem.W.hasDictIn K TE = true)
    (iTE : PySem.W.findIn K (.ref TE) "__init__" = some (some (.builtin "ValueError.__init__")))
    (noT : (l.prog.main.scope.names.lookup ("super" : Str)).isSome = false)
    (noM : PySem.W.nsIn K mainGlobals "super" = some none)
    (anyS : PySem.W.nsIn K cStatics "thirdparty.any" = some none)
    (xBA : K.lookup BA = some (excClassObj nmBA qBA BA NBA bsBA [.ref TE, .type "ValueError", .type "Exception", .type "BaseException", .type "object"] true snBA subBA abBA colBA ddBA m0BA m1BA m2BA m3BA m5BA "ValueError.__new__"))
    (aBA : PySem.W.nsIn K mainGlobals "BadAlphabet" = some (some (.ref BA)))
    (eBA : PySem.W.subIn K (.ref BA) (.type "BaseException") = some true)
    (tBA : PySem.W.typeIn K (.ref BA) = some (.type "type"))
    (hBA : PySem.W.hasDictIn K BA = true)
    (nBA_part : PySem.W.findIn K (.ref BA) "part" = some none)
    (saBA : PySem.W.findIn K (.ref BA) "__setattr__" = some (some (.builtin "object.__setattr__")))
    (gaBA : PySem.W.findIn K (.ref BA) "__getattribute__" = some (some (.builtin "BaseException.__getattribute__")))
    (ggBA : PySem.W.findIn K (.ref BA) "__getattr__" = some none)
    (aFBA : PySem.W.findIn K (.ref BA) "__init__" = some (some (.ref fBA)))
    (tFBA : PySem.W.typeIn K (.ref fBA) = some (.type "function"))
    (lBA : K.lookup fBA = some ⟨ocBA, odBA, .func (PySem.W.ksFn "__init__" "BadAlphabet.__init__" (defArgs sBA) (defBody sBA) (defScope sBA) .none kVBA dcBA pmBA anBA (.ref cdaBA) ctBA ccBA), slBA⟩)
    (cBA : PySem.W.codeIn K (.ref cdaBA) "BadAlphabet.__init__" = true)
    (kBA : PySem.W.keepIn K (.ref BA) = true)
    (lccBA : K.lookup ccBA = some ⟨clccBA, ddccBA, .cell (some (.ref BA)), slccBA⟩)
    (lcdBA : K.lookup cdaBA = some ⟨clcdBA, ddcdBA, .fields vsCBA, slcdBA⟩)
    (hvBA : vsCBA[2]? = some (.str flBA tfBA))
    (hflBA : ((l.prog.main.file : Str) == flBA) = true)
    (mmBA : PySem.W.mroIn K BA (.ref BA) = some true)
    (vBA : PySem.W.subIn K (.ref BA) (.type "ValueError") = some true)
    (xBP : K.lookup BP = some (excClassObj nmBP qBP BP NBP bsBP [.ref TE, .type "ValueError", .type "Exception", .type "BaseException", .type "object"] true snBP subBP abBP colBP ddBP m0BP m1BP m2BP m3BP m5BP "ValueError.__new__"))
    (aBP : PySem.W.nsIn K mainGlobals "BadPair" = some (some (.ref BP)))
    (eBP : PySem.W.subIn K (.ref BP) (.type "BaseException") = some true)
    (tBP : PySem.W.typeIn K (.ref BP) = some (.type "type"))
    (hBP : PySem.W.hasDictIn K BP = true)
    (nBP_index : PySem.W.findIn K (.ref BP) "index" = some none)
    (saBP : PySem.W.findIn K (.ref BP) "__setattr__" = some (some (.builtin "object.__setattr__")))
    (gaBP : PySem.W.findIn K (.ref BP) "__getattribute__" = some (some (.builtin "BaseException.__getattribute__")))
    (ggBP : PySem.W.findIn K (.ref BP) "__getattr__" = some none)
    (aFBP : PySem.W.findIn K (.ref BP) "__init__" = some (some (.ref fBP)))
    (tFBP : PySem.W.typeIn K (.ref fBP) = some (.type "function"))
    (lBP : K.lookup fBP = some ⟨ocBP, odBP, .func (PySem.W.ksFn "__init__" "BadPair.__init__" (defArgs sEBadPair) (defBody sEBadPair) (defScope sEBadPair) .none kVBP dcBP pmBP anBP (.ref cdaBP) ctBP ccBP), slBP⟩)
    (cBP : PySem.W.codeIn K (.ref cdaBP) "BadPair.__init__" = true)
    (kBP : PySem.W.keepIn K (.ref BP) = true)
    (lccBP : K.lookup ccBP = some ⟨clccBP, ddccBP, .cell (some (.ref BP)), slccBP⟩)
    (lcdBP : K.lookup cdaBP = some ⟨clcdBP, ddcdBP, .fields vsCBP, slcdBP⟩)
    (hvBP : vsCBP[2]? = some (.str flBP tfBP))
    (hflBP : ((l.prog.main.file : Str) == flBP) = true)
    (mmBP : PySem.W.mroIn K BP (.ref BP) = some true)
    (vBP : PySem.W.subIn K (.ref BP) (.type "ValueError") = some true)
    (xUS : K.lookup US = some (excClassObj nmUS qUS US NUS bsUS [.ref TE, .type "ValueError", .type "Exception", .type "BaseException", .type "object"] true snUS subUS abUS colUS ddUS m0US m1US m2US m3US m5US "ValueError.__new__"))
    (aUS : PySem.W.nsIn K mainGlobals "UnknownSign" = some (some (.ref US)))
    (eUS : PySem.W.subIn K (.ref US) (.type "BaseException") = some true)
    (tUS : PySem.W.typeIn K (.ref US) = some (.type "type"))
    (hUS : PySem.W.hasDictIn K US = true)
    (nUS_sign : PySem.W.findIn K (.ref US) "sign" = some none)
    (saUS : PySem.W.findIn K (.ref US) "__setattr__" = some (some (.builtin "object.__setattr__")))
    (gaUS : PySem.W.findIn K (.ref US) "__getattribute__" = some (some (.builtin "BaseException.__getattribute__")))
    (ggUS : PySem.W.findIn K (.ref US) "__getattr__" = some none)
    (aFUS : PySem.W.findIn K (.ref US) "__init__" = some (some (.ref fUS)))
    (tFUS : PySem.W.typeIn K (.ref fUS) = some (.type "function"))
    (lUS : K.lookup fUS = some ⟨ocUS, odUS, .func (PySem.W.ksFn "__init__" "UnknownSign.__init__" (defArgs sEUnknownSign) (defBody sEUnknownSign) (defScope sEUnknownSign) .none kVUS dcUS pmUS anUS (.ref cdaUS) ctUS ccUS), slUS⟩)
    (cUS : PySem.W.codeIn K (.ref cdaUS) "UnknownSign.__init__" = true)
    (kUS : PySem.W.keepIn K (.ref US) = true)
    (lccUS : K.lookup ccUS = some ⟨clccUS, ddccUS, .cell (some (.ref US)), slccUS⟩)
    (lcdUS : K.lookup cdaUS = some ⟨clcdUS, ddcdUS, .fields vsCUS, slcdUS⟩)
    (hvUS : vsCUS[2]? = some (.str flUS tfUS))
    (hflUS : ((l.prog.main.file : Str) == flUS) = true)
    (mmUS : PySem.W.mroIn K US (.ref US) = some true)
    (vUS : PySem.W.subIn K (.ref US) (.type "ValueError") = some true)
    (xBE : K.lookup BE = some (excClassObj nmBE qBE BE NBE bsBE [.ref TE, .type "ValueError", .type "Exception", .type "BaseException", .type "object"] true snBE subBE abBE colBE ddBE m0BE m1BE m2BE m3BE m5BE "ValueError.__new__"))
    (aBE : PySem.W.nsIn K mainGlobals "BadEntry" = some (some (.ref BE)))
    (eBE : PySem.W.subIn K (.ref BE) (.type "BaseException") = some true)
    (tBE : PySem.W.typeIn K (.ref BE) = some (.type "type"))
    (hBE : PySem.W.hasDictIn K BE = true)
    (nBE_index : PySem.W.findIn K (.ref BE) "index" = some none)
    (saBE : PySem.W.findIn K (.ref BE) "__setattr__" = some (some (.builtin "object.__setattr__")))
    (gaBE : PySem.W.findIn K (.ref BE) "__getattribute__" = some (some (.builtin "BaseException.__getattribute__")))
    (ggBE : PySem.W.findIn K (.ref BE) "__getattr__" = some none)
    (aFBE : PySem.W.findIn K (.ref BE) "__init__" = some (some (.ref fBE)))
    (tFBE : PySem.W.typeIn K (.ref fBE) = some (.type "function"))
    (lBE : K.lookup fBE = some ⟨ocBE, odBE, .func (PySem.W.ksFn "__init__" "BadEntry.__init__" (defArgs sEBadEntry) (defBody sEBadEntry) (defScope sEBadEntry) .none kVBE dcBE pmBE anBE (.ref cdaBE) ctBE ccBE), slBE⟩)
    (cBE : PySem.W.codeIn K (.ref cdaBE) "BadEntry.__init__" = true)
    (kBE : PySem.W.keepIn K (.ref BE) = true)
    (lccBE : K.lookup ccBE = some ⟨clccBE, ddccBE, .cell (some (.ref BE)), slccBE⟩)
    (lcdBE : K.lookup cdaBE = some ⟨clcdBE, ddcdBE, .fields vsCBE, slcdBE⟩)
    (hvBE : vsCBE[2]? = some (.str flBE tfBE))
    (hflBE : ((l.prog.main.file : Str) == flBE) = true)
    (mmBE : PySem.W.mroIn K BE (.ref BE) = some true)
    (vBE : PySem.W.subIn K (.ref BE) (.type "ValueError") = some true)
    (sTE_TE : PySem.W.subIn K (.ref TE) (.ref TE) = some true)
    (clTE : PySem.W.isClsIn K TE = true)
    (sUS_US : PySem.W.subIn K (.ref US) (.ref US) = some true)
    (sUS_TE : PySem.W.subIn K (.ref US) (.ref TE) = some true)
    (clUS : PySem.W.isClsIn K US = true)
    (sBP_BP : PySem.W.subIn K (.ref BP) (.ref BP) = some true)
    (sBP_TE : PySem.W.subIn K (.ref BP) (.ref TE) = some true)
    (clBP : PySem.W.isClsIn K BP = true)
    (sBE_BE : PySem.W.subIn K (.ref BE) (.ref BE) = some true)
    (sBE_TE : PySem.W.subIn K (.ref BE) (.ref TE) = some true)
    (clBE : PySem.W.isClsIn K BE = true)
    (sUS_BP : PySem.W.subIn K (.ref US) (.ref BP) = some false)
    (sBP_BE : PySem.W.subIn K (.ref BP) (.ref BE) = some false)
    (sBE_BP : PySem.W.subIn K (.ref BE) (.ref BP) = some false)
    (icUS : PySem.W.findIn K (.ref US) "__class__" = some (some (.builtin "object.__class__")))
    (imUS : PySem.W.mroIn K US (.type "object") = some true)
    (icBP : PySem.W.findIn K (.ref BP) "__class__" = some (some (.builtin "object.__class__")))
    (imBP : PySem.W.mroIn K BP (.type "object") = some true)
    (icBE : PySem.W.findIn K (.ref BE) "__class__" = some (some (.builtin "object.__class__")))
    (imBE : PySem.W.mroIn K BE (.type "object") = some true) :
    ∃ fd : FuncData, (∀ (s : Shared) (v : Value), BindsTo s fd ⟨[v], []⟩ [("_law_script", v)]) ∧ ∀ base : Heap, K.In base → base.Ns mainGlobals mg → FnOk l.prog w K mg base CX0 12 fa fd ["_law_script"] (spLaw K) := by
  have e := hfa.symm.trans (PySem.W.mg_of X G aLaw)
  cases e
  have gm : ∀ {n : Str} {v : Value}, PySem.W.nsIn K mainGlobals n = some (some v) → mg n = some v := fun e => PySem.W.mg_of X G e
  have gn : ∀ {n : Str}, PySem.W.nsIn K mainGlobals n = some none → mg n = none := fun e => PySem.W.mg_none_of X G e
  have FDiff := fun_mk (st := sDiff) lDiff cDiff kDiff
  have bDiff := FDiff.binds (ps := ["text", "allowed"]) fun _ _ _ _ _ _ us hl => match us, hl with | [_, _], _ => rfl
  have FPIsEntry := fun_mk (st := sPIsEntry) lPIsEntry cPIsEntry kPIsEntry
  have bPIsEntry := FPIsEntry.binds (ps := ["alphabet", "sign", "entry"]) fun _ _ _ _ _ _ us hl => match us, hl with | [_, _, _], _ => rfl
  have FBag := fun_mk (st := sBag) lBag cBag kBag
  have bBag := FBag.binds (ps := ["_law_script"]) fun _ _ _ _ _ _ us hl => match us, hl with | [_], _ => rfl
  have FTake := fun_mk (st := sTake) lTake cTake kTake
  have bTake := FTake.binds (ps := ["_law_bag_here", "_law_size"]) fun _ _ _ _ _ _ us hl => match us, hl with | [_, _], _ => rfl
  have FNames := fun_mk (st := sNames) lNames cNames kNames
  have bNames := FNames.binds (ps := ["_law_bag_here", "_law_count"]) fun _ _ _ _ _ _ us hl => match us, hl with | [_, _], _ => rfl
  have FSigns := fun_mk (st := sSigns) lSigns cSigns kSigns
  have bSigns := FSigns.binds (ps := ["_law_letters"]) fun _ _ _ _ _ _ us hl => match us, hl with | [_], _ => rfl
  have FInteger := fun_mk (st := sInteger) lInteger cInteger kInteger
  have bInteger := FInteger.binds (ps := ["_law_told"]) fun _ _ _ _ _ _ us hl => match us, hl with | [_], _ => rfl
  have FPairs := fun_mk (st := sPairs) lPairs cPairs kPairs
  have bPairs := FPairs.binds (ps := ["_law_bag_here", "_law_signs_here", "_law_count"]) fun _ _ _ _ _ _ us hl => match us, hl with | [_, _, _], _ => rfl
  have FOuts := fun_mk (st := sOuts) lOuts cOuts kOuts
  have bOuts := FOuts.binds (ps := ["_law_signs_here", "_law_pairs_here"]) fun _ _ _ _ _ _ us hl => match us, hl with | [_, _], _ => rfl
  have FTruth := fun_mk (st := sTruth) lTruth cTruth kTruth
  have bTruth := FTruth.binds (ps := ["_law_told", "_law_due"]) fun _ _ _ _ _ _ us hl => match us, hl with | [_, _], _ => rfl
  have FWritten := fun_mk (st := sWritten) lWritten cWritten kWritten
  have bWritten := FWritten.binds (ps := ["_law_signs_here", "_law_outs_here"]) fun _ _ _ _ _ _ us hl => match us, hl with | [_, _], _ => rfl
  have FIs := fun_mk (st := sIs) lIs cIs kIs
  have bIs := FIs.binds (ps := ["_law_table", "_law_signs_here", "_law_outs_here"]) fun _ _ _ _ _ _ us hl => match us, hl with | [_, _, _], _ => rfl
  have FStrange := fun_mk (st := sStrange) lStrange cStrange kStrange
  have bStrange := FStrange.binds (ps := ["_law_bag_here", "_law_signs_here"]) fun _ _ _ _ _ _ us hl => match us, hl with | [_, _], _ => rfl
  have FNoSign := fun_mk (st := sNoSign) lNoSign cNoSign kNoSign
  have bNoSign := FNoSign.binds (ps := ["_law_table", "_law_strange_here"]) fun _ _ _ _ _ _ us hl => match us, hl with | [_, _], _ => rfl
  have FNoPairs := fun_mk (st := sNoPairs) lNoPairs cNoPairs kNoPairs
  have bNoPairs := FNoPairs.binds (ps := ["_law_table", "_law_signs_here", "_law_strange_here"]) fun _ _ _ _ _ _ us hl => match us, hl with | [_, _, _], _ => rfl
  have FBadPair := fun_mk (st := sBadPair) lBadPair cBadPair kBadPair
  have bBadPair := FBadPair.binds (ps := ["_law_bag_here", "_law_alphabet", "_law_signs_here", "_law_pairs_here"]) fun _ _ _ _ _ _ us hl => match us, hl with | [_, _, _, _], _ => rfl
  have FNamed := fun_mk (st := sNamed) lNamed cNamed kNamed
  have bNamed := FNamed.binds (ps := ["_law_alphabet", "_law_signs_here"]) fun _ _ _ _ _ _ us hl => match us, hl with | [_, _], _ => rfl
  have FChanged := fun_mk (st := sChanged) lChanged cChanged kChanged
  have bChanged := FChanged.binds (ps := ["_law_bag_here", "_law_change", "_law_entries", "_law_signs_here"]) fun _ _ _ _ _ _ us hl => match us, hl with | [_, _, _, _], _ => rfl
  have FRight := fun_mk (st := sRight) lRight cRight kRight
  have bRight := FRight.binds (ps := ["_law_entry", "_law_sign", "_law_signs_here"]) fun _ _ _ _ _ _ us hl => match us, hl with | [_, _, _], _ => rfl
  have FIndex := fun_mk (st := sIndex) lIndex cIndex kIndex
  have bIndex := FIndex.binds (ps := ["_law_entries", "_law_signs_here"]) fun _ _ _ _ _ _ us hl => match us, hl with | [_, _], _ => rfl
  have FReads := fun_mk (st := sReads) lReads cReads kReads
  have bReads := FReads.binds (ps := ["_law_alphabet", "_law_signs_here", "_law_written_here"]) fun _ _ _ _ _ _ us hl => match us, hl with | [_, _, _], _ => rfl
  have FLaw := fun_mk (st := sLaw) lLaw cLaw kLaw
  have bLaw := FLaw.binds (ps := ["_law_script"]) fun _ _ _ _ _ _ us hl => match us, hl with | [_], _ => rfl
  have FAlEq := fun_mk (st := sAlEq) lAlEq cAlEq kAlEq
  have bAlEq := FAlEq.binds (ps := ["self", "other"]) fun _ _ _ _ _ _ us hl => match us, hl with | [_, _], _ => rfl
  have FIsSign := fun_mk (st := sIsSign) lIsSign cIsSign kIsSign
  have bIsSign := FIsSign.binds (ps := ["self", "text"]) fun _ _ _ _ _ _ us hl => match us, hl with | [_, _], _ => rfl
  have FAsc := fun_mk (st := sAsc) lAsc cAsc kAsc
  have bAsc := FAsc.binds (ps := ["self", "text"]) fun _ _ _ _ _ _ us hl => match us, hl with | [_, _], _ => rfl
  have FTInit := fun_mk (st := sTInit) lTInit cTInit kTInit
  have bTInit := FTInit.binds (ps := ["self", "alphabet", "pairs"]) fun _ _ _ _ _ _ us hl => match us, hl with | [_, _, _], _ => rfl
  have FTId := fun_mk (st := sTId) lTId cTId kTId
  have bTId := FTId.binds (ps := ["cls", "alphabet"]) fun _ _ _ _ _ _ us hl => match us, hl with | [_, _], _ => rfl
  have FTFull := fun_mk (st := sTFull) lTFull cTFull kTFull
  have bTFull := FTFull.binds (ps := ["cls", "alphabet"]) fun _ _ _ _ _ _ us hl => match us, hl with | [_, _], _ => rfl
  have FTEmp := fun_mk (st := sTEmp) lTEmp cTEmp kTEmp
  have bTEmp := FTEmp.binds (ps := ["cls", "alphabet"]) fun _ _ _ _ _ _ us hl => match us, hl with | [_, _], _ => rfl
  have FTRead := fun_mk (st := sTRead) lTRead cTRead kTRead
  have bTRead := FTRead.binds (ps := ["cls", "alphabet", "written"]) fun _ _ _ _ _ _ us hl => match us, hl with | [_, _, _], _ => rfl
  have FTTotal := fun_mk (st := sTTotal) lTTotal cTTotal kTTotal
  have bTTotal := FTTotal.binds (ps := ["self"]) fun _ _ _ _ _ _ us hl => match us, hl with | [_], _ => rfl
  have FTExact := fun_mk (st := sTExact) lTExact cTExact kTExact
  have bTExact := FTExact.binds (ps := ["self"]) fun _ _ _ _ _ _ us hl => match us, hl with | [_], _ => rfl
  have FTGet := fun_mk (st := sTGet) lTGet cTGet kTGet
  have bTGet := FTGet.binds (ps := ["self", "sign"]) fun _ _ _ _ _ _ us hl => match us, hl with | [_, _], _ => rfl
  have FTIn := fun_mk (st := sTIn) lTIn cTIn kTIn
  have bTIn := FTIn.binds (ps := ["self", "pair"]) fun _ _ _ _ _ _ us hl => match us, hl with | [_, _], _ => rfl
  have FTLen := fun_mk (st := sTLen) lTLen cTLen kTLen
  have bTLen := FTLen.binds (ps := ["self"]) fun _ _ _ _ _ _ us hl => match us, hl with | [_], _ => rfl
  have FTBool := fun_mk (st := sTBool) lTBool cTBool kTBool
  have bTBool := FTBool.binds (ps := ["self"]) fun _ _ _ _ _ _ us hl => match us, hl with | [_], _ => rfl
  have FTStr := fun_mk (st := sTStr) lTStr cTStr kTStr
  have bTStr := FTStr.binds (ps := ["self"]) fun _ _ _ _ _ _ us hl => match us, hl with | [_], _ => rfl
  have FTEq := fun_mk (st := sTEq) lTEq cTEq kTEq
  have bTEq := FTEq.binds (ps := ["self", "other"]) fun _ _ _ _ _ _ us hl => match us, hl with | [_, _], _ => rfl
  have FTPairs := fun_mk (st := sTPairs) lTPairs cTPairs kTPairs
  have bTPairs := FTPairs.binds (ps := ["self"]) fun _ _ _ _ _ _ us hl => match us, hl with | [_], _ => rfl
  have FA : FunD K "__init__" "Alphabet.__init__" (defArgs sAI) (defBody sAI) (defScope sAI) [.str ""] [] fA (PySem.W.fnOf "__init__" "Alphabet.__init__" (defArgs sAI) (defBody sAI) (defScope sAI) (.ref TDA) kVA dcA pmA anA cdA ctA) :=
    ⟨⟨_, _, _, _, _, _, _, _, _, _, rfl, lA, cA, .inr ⟨by simp, TDA, _, [Value.str "" tDA], nDA, rfl, lDA, rfl, .cons ⟨_, rfl⟩ .nil⟩, .inl rfl⟩, kA⟩
  obtain ⟨d0A, v0A, bA⟩ := FA.binds1 (ps := ["self", "letters", "vowels"]) 3 1 (by simp) rfl fun T kV doc pm an cdv ct us its h1 h2 => match us, its, h1, h2 with | [_, _, _], [_], _, _ => ⟨_, rfl, rfl⟩
  have ed0A : d0A = [] := by
    cases v0A
    rfl
  subst ed0A
  have OXBA : OexC K BA := ⟨⟨_, _, _, _, _, _, _, _, _, _, _, _, _, _, _, xBA, rfl⟩, saBA, eBA, tBA, kBA⟩
  have supBA : PySem.W.ks_superIn K BA BA "__init__" = some (some (.builtin "ValueError.__init__")) := by
    have hcl : PySem.W.clsIn K BA = some { name := nmBA, bases := bsBA, mro := .ref BA :: [.ref TE, .type "ValueError", .type "Exception", .type "BaseException", .type "object"], ns := NBA, qualname := qBA, hasDict := true, slotNames := snBA, subclasses := subBA, abstract := abBA, collection := colBA, hasDel := false } := by
      unfold PySem.W.clsIn
      rw [xBA] <;> rfl
    unfold PySem.W.ks_superIn
    rw [hcl]
    have e1 : PySem.W.findIn K (.ref TE) "__init__" = PySem.W.alongIn K "__init__" [.ref TE, .type "ValueError", .type "Exception", .type "BaseException", .type "object"] := by
      unfold PySem.W.findIn
      simp only [xTE]
    rw [← iTE, e1]
    show PySem.W.alongIn K "__init__" (((Value.ref BA :: [.ref TE, .type "ValueError", .type "Exception", .type "BaseException", .type "object"]).dropWhile (· != .ref BA)).drop 1) = _
    have hb : (Value.ref BA != .ref BA) = false := by simp
    rw [List.dropWhile_cons, hb]
    rfl
  have SCBA : SupC l.prog K mg BA ccBA cdaBA := ⟨OXBA, ⟨_, _, _, lccBA⟩, ⟨_, _, _, _, _, _, lcdBA, hvBA, hflBA⟩, mmBA, supBA, vBA, noT, gn noM, anyS⟩
  have bBA : Binds K (PySem.W.ksFn "__init__" "BadAlphabet.__init__" (defArgs sBA) (defBody sBA) (defScope sBA) .none kVBA dcBA pmBA anBA (.ref cdaBA) ctBA ccBA) ["self", "part"] [] := Binds.all fun us hl => match us, hl with | [_, _], _ => rfl
  have OXBP : OexC K BP := ⟨⟨_, _, _, _, _, _, _, _, _, _, _, _, _, _, _, xBP, rfl⟩, saBP, eBP, tBP, kBP⟩
  have supBP : PySem.W.ks_superIn K BP BP "__init__" = some (some (.builtin "ValueError.__init__")) := by
    have hcl : PySem.W.clsIn K BP = some { name := nmBP, bases := bsBP, mro := .ref BP :: [.ref TE, .type "ValueError", .type "Exception", .type "BaseException", .type "object"], ns := NBP, qualname := qBP, hasDict := true, slotNames := snBP, subclasses := subBP, abstract := abBP, collection := colBP, hasDel := false } := by
      unfold PySem.W.clsIn
      rw [xBP] <;> rfl
    unfold PySem.W.ks_superIn
    rw [hcl]
    have e1 : PySem.W.findIn K (.ref TE) "__init__" = PySem.W.alongIn K "__init__" [.ref TE, .type "ValueError", .type "Exception", .type "BaseException", .type "object"] := by
      unfold PySem.W.findIn
      simp only [xTE]
    rw [← iTE, e1]
    show PySem.W.alongIn K "__init__" (((Value.ref BP :: [.ref TE, .type "ValueError", .type "Exception", .type "BaseException", .type "object"]).dropWhile (· != .ref BP)).drop 1) = _
    have hb : (Value.ref BP != .ref BP) = false := by simp
    rw [List.dropWhile_cons, hb]
    rfl
  have SCBP : SupC l.prog K mg BP ccBP cdaBP := ⟨OXBP, ⟨_, _, _, lccBP⟩, ⟨_, _, _, _, _, _, lcdBP, hvBP, hflBP⟩, mmBP, supBP, vBP, noT, gn noM, anyS⟩
  have bBP : Binds K (PySem.W.ksFn "__init__" "BadPair.__init__" (defArgs sEBadPair) (defBody sEBadPair) (defScope sEBadPair) .none kVBP dcBP pmBP anBP (.ref cdaBP) ctBP ccBP) ["self", "index"] [] := Binds.all fun us hl => match us, hl with | [_, _], _ => rfl
  have OXUS : OexC K US := ⟨⟨_, _, _, _, _, _, _, _, _, _, _, _, _, _, _, xUS, rfl⟩, saUS, eUS, tUS, kUS⟩
  have supUS : PySem.W.ks_superIn K US US "__init__" = some (some (.builtin "ValueError.__init__")) := by
    have hcl : PySem.W.clsIn K US = some { name := nmUS, bases := bsUS, mro := .ref US :: [.ref TE, .type "ValueError", .type "Exception", .type "BaseException", .type "object"], ns := NUS, qualname := qUS, hasDict := true, slotNames := snUS, subclasses := subUS, abstract := abUS, collection := colUS, hasDel := false } := by
      unfold PySem.W.clsIn
      rw [xUS] <;> rfl
    unfold PySem.W.ks_superIn
    rw [hcl]
    have e1 : PySem.W.findIn K (.ref TE) "__init__" = PySem.W.alongIn K "__init__" [.ref TE, .type "ValueError", .type "Exception", .type "BaseException", .type "object"] := by
      unfold PySem.W.findIn
      simp only [xTE]
    rw [← iTE, e1]
    show PySem.W.alongIn K "__init__" (((Value.ref US :: [.ref TE, .type "ValueError", .type "Exception", .type "BaseException", .type "object"]).dropWhile (· != .ref US)).drop 1) = _
    have hb : (Value.ref US != .ref US) = false := by simp
    rw [List.dropWhile_cons, hb]
    rfl
  have SCUS : SupC l.prog K mg US ccUS cdaUS := ⟨OXUS, ⟨_, _, _, lccUS⟩, ⟨_, _, _, _, _, _, lcdUS, hvUS, hflUS⟩, mmUS, supUS, vUS, noT, gn noM, anyS⟩
  have bUS : Binds K (PySem.W.ksFn "__init__" "UnknownSign.__init__" (defArgs sEUnknownSign) (defBody sEUnknownSign) (defScope sEUnknownSign) .none kVUS dcUS pmUS anUS (.ref cdaUS) ctUS ccUS) ["self", "sign"] [] := Binds.all fun us hl => match us, hl with | [_, _], _ => rfl
  have OXBE : OexC K BE := ⟨⟨_, _, _, _, _, _, _, _, _, _, _, _, _, _, _, xBE, rfl⟩, saBE, eBE, tBE, kBE⟩
  have supBE : PySem.W.ks_superIn K BE BE "__init__" = some (some (.builtin "ValueError.__init__")) := by
    have hcl : PySem.W.clsIn K BE = some { name := nmBE, bases := bsBE, mro := .ref BE :: [.ref TE, .type "ValueError", .type "Exception", .type "BaseException", .type "object"], ns := NBE, qualname := qBE, hasDict := true, slotNames := snBE, subclasses := subBE, abstract := abBE, collection := colBE, hasDel := false } := by
      unfold PySem.W.clsIn
      rw [xBE] <;> rfl
    unfold PySem.W.ks_superIn
    rw [hcl]
    have e1 : PySem.W.findIn K (.ref TE) "__init__" = PySem.W.alongIn K "__init__" [.ref TE, .type "ValueError", .type "Exception", .type "BaseException", .type "object"] := by
      unfold PySem.W.findIn
      simp only [xTE]
    rw [← iTE, e1]
    show PySem.W.alongIn K "__init__" (((Value.ref BE :: [.ref TE, .type "ValueError", .type "Exception", .type "BaseException", .type "object"]).dropWhile (· != .ref BE)).drop 1) = _
    have hb : (Value.ref BE != .ref BE) = false := by simp
    rw [List.dropWhile_cons, hb]
    rfl
  have SCBE : SupC l.prog K mg BE ccBE cdaBE := ⟨OXBE, ⟨_, _, _, lccBE⟩, ⟨_, _, _, _, _, _, lcdBE, hvBE, hflBE⟩, mmBE, supBE, vBE, noT, gn noM, anyS⟩
  have bBE : Binds K (PySem.W.ksFn "__init__" "BadEntry.__init__" (defArgs sEBadEntry) (defBody sEBadEntry) (defScope sEBadEntry) .none kVBE dcBE pmBE anBE (.ref cdaBE) ctBE ccBE) ["self", "index"] [] := Binds.all fun us hl => match us, hl with | [_, _], _ => rfl
  have EBP : EF K mg "BadPair" BP fBP (PySem.W.ksFn "__init__" "BadPair.__init__" (defArgs sEBadPair) (defBody sEBadPair) (defScope sEBadPair) .none kVBP dcBP pmBP anBP (.ref cdaBP) ctBP ccBP) ["self", "index"] := ⟨OXBP, aFBP, tFBP, gm aBP, bBP⟩
  have EUS : EF K mg "UnknownSign" US fUS (PySem.W.ksFn "__init__" "UnknownSign.__init__" (defArgs sEUnknownSign) (defBody sEUnknownSign) (defScope sEUnknownSign) .none kVUS dcUS pmUS anUS (.ref cdaUS) ctUS ccUS) ["self", "sign"] := ⟨OXUS, aFUS, tFUS, gm aUS, bUS⟩
  have EBE : EF K mg "BadEntry" BE fBE (PySem.W.ksFn "__init__" "BadEntry.__init__" (defArgs sEBadEntry) (defBody sEBadEntry) (defScope sEBadEntry) .none kVBE dcBE pmBE anBE (.ref cdaBE) ctBE ccBE) ["self", "index"] := ⟨OXBE, aFBE, tFBE, gm aBE, bBE⟩
  have T : Fns K mg ⟨fDiff, fAlEq, fIsSign, fAsc, fPIsEntry, fTInit, fTId, fTFull, fTEmp, fTRead, fTTotal, fTExact, fTGet, fTIn, fTLen, fTBool, fTStr, fTEq, fTPairs, fBag, fTake, fNames, fSigns, fInteger, fPairs, fOuts, fTruth, fWritten, fIs, fStrange, fNoSign, fNoPairs, fBadPair, fNamed, fChanged, fRight, fIndex, fReads, fa, C, TB, pTTotal, pTExact, pTId, pTFull, pTEmp, pTRead, TE, US, BP, BE, fBP, fUS, fBE, tj2⟩
      ⟨(PySem.W.fnOf "differ_within" "differ_within" (defArgs sDiff) (defBody sDiff) (defScope sDiff) .none kVDiff dcDiff pmDiff anDiff cdDiff ctDiff), (PySem.W.fnOf "__eq__" "Alphabet.__eq__" (defArgs sAlEq) (defBody sAlEq) (defScope sAlEq) .none kVAlEq dcAlEq pmAlEq anAlEq cdAlEq ctAlEq), (PySem.W.fnOf "is_sign" "Alphabet.is_sign" (defArgs sIsSign) (defBody sIsSign) (defScope sIsSign) .none kVIsSign dcIsSign pmIsSign anIsSign cdIsSign ctIsSign), (PySem.W.fnOf "are_ascending" "Alphabet.are_ascending" (defArgs sAsc) (defBody sAsc) (defScope sAsc) .none kVAsc dcAsc pmAsc anAsc cdAsc ctAsc), (PySem.W.fnOf "is_entry" "is_entry" (defArgs sPIsEntry) (defBody sPIsEntry) (defScope sPIsEntry) .none kVPIsEntry dcPIsEntry pmPIsEntry anPIsEntry cdPIsEntry ctPIsEntry), (PySem.W.fnOf "__init__" "Table.__init__" (defArgs sTInit) (defBody sTInit) (defScope sTInit) .none kVTInit dcTInit pmTInit anTInit cdTInit ctTInit), (PySem.W.fnOf "identity" "Table.identity" (defArgs sTId) (defBody sTId) (defScope sTId) .none kVTId dcTId pmTId anTId cdTId ctTId), (PySem.W.fnOf "full" "Table.full" (defArgs sTFull) (defBody sTFull) (defScope sTFull) .none kVTFull dcTFull pmTFull anTFull cdTFull ctTFull), (PySem.W.fnOf "empty" "Table.empty" (defArgs sTEmp) (defBody sTEmp) (defScope sTEmp) .none kVTEmp dcTEmp pmTEmp anTEmp cdTEmp ctTEmp), (PySem.W.fnOf "read" "Table.read" (defArgs sTRead) (defBody sTRead) (defScope sTRead) .none kVTRead dcTRead pmTRead anTRead cdTRead ctTRead), (PySem.W.fnOf "total" "Table.total" (defArgs sTTotal) (defBody sTTotal) (defScope sTTotal) .none kVTTotal dcTTotal pmTTotal anTTotal cdTTotal ctTTotal), (PySem.W.fnOf "exact" "Table.exact" (defArgs sTExact) (defBody sTExact) (defScope sTExact) .none kVTExact dcTExact pmTExact anTExact cdTExact ctTExact), (PySem.W.fnOf "__getitem__" "Table.__getitem__" (defArgs sTGet) (defBody sTGet) (defScope sTGet) .none kVTGet dcTGet pmTGet anTGet cdTGet ctTGet), (PySem.W.fnOf "__contains__" "Table.__contains__" (defArgs sTIn) (defBody sTIn) (defScope sTIn) .none kVTIn dcTIn pmTIn anTIn cdTIn ctTIn), (PySem.W.fnOf "__len__" "Table.__len__" (defArgs sTLen) (defBody sTLen) (defScope sTLen) .none kVTLen dcTLen pmTLen anTLen cdTLen ctTLen), (PySem.W.fnOf "__bool__" "Table.__bool__" (defArgs sTBool) (defBody sTBool) (defScope sTBool) .none kVTBool dcTBool pmTBool anTBool cdTBool ctTBool), (PySem.W.fnOf "__str__" "Table.__str__" (defArgs sTStr) (defBody sTStr) (defScope sTStr) .none kVTStr dcTStr pmTStr anTStr cdTStr ctTStr), (PySem.W.fnOf "__eq__" "Table.__eq__" (defArgs sTEq) (defBody sTEq) (defScope sTEq) .none kVTEq dcTEq pmTEq anTEq cdTEq ctTEq), (PySem.W.fnOf "pairs" "Table.pairs" (defArgs sTPairs) (defBody sTPairs) (defScope sTPairs) .none kVTPairs dcTPairs pmTPairs anTPairs cdTPairs ctTPairs), (PySem.W.fnOf "_law_bag" "_law_bag" (defArgs sBag) (defBody sBag) (defScope sBag) .none kVBag dcBag pmBag anBag cdBag ctBag), (PySem.W.fnOf "_law_take" "_law_take" (defArgs sTake) (defBody sTake) (defScope sTake) .none kVTake dcTake pmTake anTake cdTake ctTake), (PySem.W.fnOf "_law_names" "_law_names" (defArgs sNames) (defBody sNames) (defScope sNames) .none kVNames dcNames pmNames anNames cdNames ctNames), (PySem.W.fnOf "_law_signs" "_law_signs" (defArgs sSigns) (defBody sSigns) (defScope sSigns) .none kVSigns dcSigns pmSigns anSigns cdSigns ctSigns), (PySem.W.fnOf "_law_integer" "_law_integer" (defArgs sInteger) (defBody sInteger) (defScope sInteger) .none kVInteger dcInteger pmInteger anInteger cdInteger ctInteger), (PySem.W.fnOf "_law_pairs" "_law_pairs" (defArgs sPairs) (defBody sPairs) (defScope sPairs) .none kVPairs dcPairs pmPairs anPairs cdPairs ctPairs), (PySem.W.fnOf "_law_outs" "_law_outs" (defArgs sOuts) (defBody sOuts) (defScope sOuts) .none kVOuts dcOuts pmOuts anOuts cdOuts ctOuts), (PySem.W.fnOf "_law_truth" "_law_truth" (defArgs sTruth) (defBody sTruth) (defScope sTruth) .none kVTruth dcTruth pmTruth anTruth cdTruth ctTruth), (PySem.W.fnOf "_law_written" "_law_written" (defArgs sWritten) (defBody sWritten) (defScope sWritten) .none kVWritten dcWritten pmWritten anWritten cdWritten ctWritten), (PySem.W.fnOf "_law_is" "_law_is" (defArgs sIs) (defBody sIs) (defScope sIs) .none kVIs dcIs pmIs anIs cdIs ctIs), (PySem.W.fnOf "_law_strange" "_law_strange" (defArgs sStrange) (defBody sStrange) (defScope sStrange) .none kVStrange dcStrange pmStrange anStrange cdStrange ctStrange), (PySem.W.fnOf "_law_no_sign" "_law_no_sign" (defArgs sNoSign) (defBody sNoSign) (defScope sNoSign) .none kVNoSign dcNoSign pmNoSign anNoSign cdNoSign ctNoSign), (PySem.W.fnOf "_law_no_pairs" "_law_no_pairs" (defArgs sNoPairs) (defBody sNoPairs) (defScope sNoPairs) .none kVNoPairs dcNoPairs pmNoPairs anNoPairs cdNoPairs ctNoPairs), (PySem.W.fnOf "_law_bad_pair" "_law_bad_pair" (defArgs sBadPair) (defBody sBadPair) (defScope sBadPair) .none kVBadPair dcBadPair pmBadPair anBadPair cdBadPair ctBadPair), (PySem.W.fnOf "_law_named" "_law_named" (defArgs sNamed) (defBody sNamed) (defScope sNamed) .none kVNamed dcNamed pmNamed anNamed cdNamed ctNamed), (PySem.W.fnOf "_law_changed" "_law_changed" (defArgs sChanged) (defBody sChanged) (defScope sChanged) .none kVChanged dcChanged pmChanged anChanged cdChanged ctChanged), (PySem.W.fnOf "_law_right" "_law_right" (defArgs sRight) (defBody sRight) (defScope sRight) .none kVRight dcRight pmRight anRight cdRight ctRight), (PySem.W.fnOf "_law_index" "_law_index" (defArgs sIndex) (defBody sIndex) (defScope sIndex) .none kVIndex dcIndex pmIndex anIndex cdIndex ctIndex), (PySem.W.fnOf "_law_reads" "_law_reads" (defArgs sReads) (defBody sReads) (defScope sReads) .none kVReads dcReads pmReads anReads cdReads ctReads), (PySem.W.fnOf "law" "law" (defArgs sLaw) (defBody sLaw) (defScope sLaw) .none kVLaw dcLaw pmLaw anLaw cdLaw ctLaw), (PySem.W.ksFn "__init__" "BadPair.__init__" (defArgs sEBadPair) (defBody sEBadPair) (defScope sEBadPair) .none kVBP dcBP pmBP anBP (.ref cdaBP) ctBP ccBP), (PySem.W.ksFn "__init__" "UnknownSign.__init__" (defArgs sEUnknownSign) (defBody sEUnknownSign) (defScope sEUnknownSign) .none kVUS dcUS pmUS anUS (.ref cdaUS) ctUS ccUS), (PySem.W.ksFn "__init__" "BadEntry.__init__" (defArgs sEBadEntry) (defBody sEBadEntry) (defScope sEBadEntry) .none kVBE dcBE pmBE anBE (.ref cdaBE) ctBE ccBE)⟩ :=
    { z_len := gn z_len, z_set := gn z_set, z_all := gn z_all, z_abs := gn z_abs, z_int := gn z_int, z_range := gn z_range, z_sorted := gn z_sorted, z_isinstance := gn z_isinstance, z_str := gn z_str, z_bool := gn z_bool, z_list := gn z_list, z_tuple := gn z_tuple, z_any := gn z_any, z_enum := gn z_enumerate, z_min := gn z_min, z_max := gn z_max, z_VE := gn z_ValueError,
      gDiff := gm aDiff, FDiff := FDiff, bDiff := bDiff,
      mAlEq := ⟨aAlEq, iAlEq, kAlEq⟩, FAlEq := FAlEq, bAlEq := bAlEq,
      mIsSign := ⟨aIsSign, iIsSign, kIsSign⟩, FIsSign := FIsSign, bIsSign := bIsSign,
      mAsc := ⟨aAsc, iAsc, kAsc⟩, FAsc := FAsc, bAsc := bAsc,
      gPIsEntry := gm aPIsEntry, FPIsEntry := FPIsEntry, bPIsEntry := bPIsEntry,
      mTInit := ⟨aTInit, iTInit, kTInit⟩, FTInit := FTInit, bTInit := bTInit,
      cTId := ⟨cmTId, ⟨_, rcTId⟩, fiTId⟩, FTId := FTId, bTId := bTId,
      cTFull := ⟨cmTFull, ⟨_, rcTFull⟩, fiTFull⟩, FTFull := FTFull, bTFull := bTFull,
      cTEmp := ⟨cmTEmp, ⟨_, rcTEmp⟩, fiTEmp⟩, FTEmp := FTEmp, bTEmp := bTEmp,
      cTRead := ⟨cmTRead, ⟨_, rcTRead⟩, fiTRead⟩, FTRead := FTRead, bTRead := bTRead,
      FTTotal := FTTotal, bTTotal := bTTotal,
      FTExact := FTExact, bTExact := bTExact,
      mTGet := ⟨aTGet, iTGet, kTGet⟩, FTGet := FTGet, bTGet := bTGet,
      mTIn := ⟨aTIn, iTIn, kTIn⟩, FTIn := FTIn, bTIn := bTIn,
      mTLen := ⟨aTLen, iTLen, kTLen⟩, FTLen := FTLen, bTLen := bTLen,
      mTBool := ⟨aTBool, iTBool, kTBool⟩, FTBool := FTBool, bTBool := bTBool,
      mTStr := ⟨aTStr, iTStr, kTStr⟩, FTStr := FTStr, bTStr := bTStr,
      mTEq := ⟨aTEq, iTEq, kTEq⟩, FTEq := FTEq, bTEq := bTEq,
      mTPairs := ⟨aTPairs, iTPairs, kTPairs⟩, FTPairs := FTPairs, bTPairs := bTPairs,
      gBag := gm aBag, FBag := FBag, bBag := bBag,
      gTake := gm aTake, FTake := FTake, bTake := bTake,
      gNames := gm aNames, FNames := FNames, bNames := bNames,
      gSigns := gm aSigns, FSigns := FSigns, bSigns := bSigns,
      gInteger := gm aInteger, FInteger := FInteger, bInteger := bInteger,
      gPairs := gm aPairs, FPairs := FPairs, bPairs := bPairs,
      gOuts := gm aOuts, FOuts := FOuts, bOuts := bOuts,
      gTruth := gm aTruth, FTruth := FTruth, bTruth := bTruth,
      gWritten := gm aWritten, FWritten := FWritten, bWritten := bWritten,
      gIs := gm aIs, FIs := FIs, bIs := bIs,
      gStrange := gm aStrange, FStrange := FStrange, bStrange := bStrange,
      gNoSign := gm aNoSign, FNoSign := FNoSign, bNoSign := bNoSign,
      gNoPairs := gm aNoPairs, FNoPairs := FNoPairs, bNoPairs := bNoPairs,
      gBadPair := gm aBadPair, FBadPair := FBadPair, bBadPair := bBadPair,
      gNamed := gm aNamed, FNamed := FNamed, bNamed := bNamed,
      gChanged := gm aChanged, FChanged := FChanged, bChanged := bChanged,
      gRight := gm aRight, FRight := FRight, bRight := bRight,
      gIndex := gm aIndex, FIndex := FIndex, bIndex := bIndex,
      gReads := gm aReads, FReads := FReads, bReads := bReads,
      gLaw := gm aLaw, FLaw := FLaw, bLaw := bLaw,
      gcTaleError := gm aTE,
      gcUnknownSign := gm aUS,
      gcBadPair := gm aBP,
      gcBadEntry := gm aBE,
      gcTable := gm aTB,
      xBadPair := EBP,
      xUnknownSign := EUS,
      xBadEntry := EBE,
      clA := ⟨pgC, hdC, poC, saC⟩,
      clT := ⟨pgTB, hdTB, poTB, saTB⟩,
      nL := nC_letters,
      nV := nC_vowels,
      nC := nC_consonants,
      nS := nC_signs,
      nTa := nTB_alphabet,
      nTp := nTB_pairs,
      prTotal := ⟨aTTotal, gTTotal, tTTotal, ⟨_, rTTotal⟩⟩,
      prExact := ⟨aTExact, gTExact, tTExact, ⟨_, rTExact⟩⟩,
      crT := ⟨rdTB, gaTB⟩,
      mkT := mkTB,
      kpT := kTB,
      fnTGet := fnTGet,
      eqA := eqC,
      eqT := eqTB,
      icT := icTB,
      imT := imTB,
      igO := ig,
      itO := it,
      joint := ⟨aJ, ⟨_, by rw [show S [45] = PySem.Str.ofString "-" by decide +kernel]⟩, gJ, by decide +kernel⟩ }
  have A : AlF K C := ⟨⟨pgC, hdC, poC, saC⟩, nC_letters, nC_vowels, nC_consonants, nC_signs, icC, ig, it, imC⟩
  have AV : AlV K mg C (.type "type") tM tJ tl := ⟨gm aC, by rw [← az_S]; exact gm aSL, ⟨rdC, gaC⟩, ⟨vM, ⟨_, rfl⟩⟩, ⟨vJ, ⟨_, rfl⟩⟩⟩
  have BA' : BaF l.prog K mg BA fBA := ⟨OXBA, aFBA, tFBA, gm aBA⟩
  have XeUS : ErrX K (⟨fDiff, fAlEq, fIsSign, fAsc, fPIsEntry, fTInit, fTId, fTFull, fTEmp, fTRead, fTTotal, fTExact, fTGet, fTIn, fTLen, fTBool, fTStr, fTEq, fTPairs, fBag, fTake, fNames, fSigns, fInteger, fPairs, fOuts, fTruth, fWritten, fIs, fStrange, fNoSign, fNoPairs, fBadPair, fNamed, fChanged, fRight, fIndex, fReads, fa, C, TB, pTTotal, pTExact, pTId, pTFull, pTEmp, pTRead, TE, US, BP, BE, fBP, fUS, fBE, tj2⟩ : Ad) US BP "sign" := ⟨⟨gaUS, ggUS, eUS, hUS⟩, nUS_sign, ⟨gaUS, ggUS, eUS, hUS, icUS, ig, it, imUS⟩, PySem.W.exm_ref eUS hUS tUS sUS_US, kit_of clTE tTE sUS_TE sTE_TE, by
        unfold PySem.W.kitOne
        have hne : (Value.ref US == Value.type "ValueError") = false := beq_eq_false_iff_ne.mpr fun e => by cases e
        rw [hne, if_neg Bool.false_ne_true]
        show (if PySem.W.kitMeta "ValueError" = true then PySem.W.subIn K (.ref US) (.type "ValueError") else none) = _
        rw [if_pos (by decide +kernel), vUS], kit_of clBP tBP sUS_BP sBP_BP⟩
  have XeBP : ErrX K (⟨fDiff, fAlEq, fIsSign, fAsc, fPIsEntry, fTInit, fTId, fTFull, fTEmp, fTRead, fTTotal, fTExact, fTGet, fTIn, fTLen, fTBool, fTStr, fTEq, fTPairs, fBag, fTake, fNames, fSigns, fInteger, fPairs, fOuts, fTruth, fWritten, fIs, fStrange, fNoSign, fNoPairs, fBadPair, fNamed, fChanged, fRight, fIndex, fReads, fa, C, TB, pTTotal, pTExact, pTId, pTFull, pTEmp, pTRead, TE, US, BP, BE, fBP, fUS, fBE, tj2⟩ : Ad) BP BE "index" := ⟨⟨gaBP, ggBP, eBP, hBP⟩, nBP_index, ⟨gaBP, ggBP, eBP, hBP, icBP, ig, it, imBP⟩, PySem.W.exm_ref eBP hBP tBP sBP_BP, kit_of clTE tTE sBP_TE sTE_TE, by
        unfold PySem.W.kitOne
        have hne : (Value.ref BP == Value.type "ValueError") = false := beq_eq_false_iff_ne.mpr fun e => by cases e
        rw [hne, if_neg Bool.false_ne_true]
        show (if PySem.W.kitMeta "ValueError" = true then PySem.W.subIn K (.ref BP) (.type "ValueError") else none) = _
        rw [if_pos (by decide +kernel), vBP], kit_of clBE tBE sBP_BE sBE_BE⟩
  have XeBE : ErrX K (⟨fDiff, fAlEq, fIsSign, fAsc, fPIsEntry, fTInit, fTId, fTFull, fTEmp, fTRead, fTTotal, fTExact, fTGet, fTIn, fTLen, fTBool, fTStr, fTEq, fTPairs, fBag, fTake, fNames, fSigns, fInteger, fPairs, fOuts, fTruth, fWritten, fIs, fStrange, fNoSign, fNoPairs, fBadPair, fNamed, fChanged, fRight, fIndex, fReads, fa, C, TB, pTTotal, pTExact, pTId, pTFull, pTEmp, pTRead, TE, US, BP, BE, fBP, fUS, fBE, tj2⟩ : Ad) BE BP "index" := ⟨⟨gaBE, ggBE, eBE, hBE⟩, nBE_index, ⟨gaBE, ggBE, eBE, hBE, icBE, ig, it, imBE⟩, PySem.W.exm_ref eBE hBE tBE sBE_BE, kit_of clTE tTE sBE_TE sTE_TE, by
        unfold PySem.W.kitOne
        have hne : (Value.ref BE == Value.type "ValueError") = false := beq_eq_false_iff_ne.mpr fun e => by cases e
        rw [hne, if_neg Bool.false_ne_true]
        show (if PySem.W.kitMeta "ValueError" = true then PySem.W.subIn K (.ref BE) (.type "ValueError") else none) = _
        rw [if_pos (by decide +kernel), vBE], kit_of clBP tBP sBE_BP sBP_BP⟩
  refine ⟨PySem.W.fnOf "law" "law" (defArgs sLaw) (defBody sLaw) (defScope sLaw) .none kVLaw dcLaw pmLaw anLaw cdLaw ctLaw, fun s v => .of_eq rfl, fun base _ _ => ?_⟩
  have GA := ok_alph (P := l.prog) (w := w) (base := base) FA T.toTxA A AV BA' FDiff bDiff (ok_ba SCBA nBA_part lBA cBA) bBA
  have GAlEq := ok_eq (P := l.prog) (w := w) (base := base) FAlEq T.toTxA A (gm aC)
  exact ok_law T GAlEq ⟨mkTB, aTInit, iTInit, kTB⟩ bTInit XeUS (ok_eUnknownSign SCUS nUS_sign lUS cUS) XeBP (ok_eBadPair SCBP nBP_index lBP cBP) XeBE (ok_eBadEntry SCBE nBE_index lBE cBE) AV ⟨mkC, aA, iA, kC⟩ GA bA
theorem walk {l : PySem.W.OpenLaw} {q : Program} {loose : List Str} {XP : (Str → Option Value) → Heap → Prop} {YP : World → Heap → Prop} {d : DefRec} {K : Params → PySem.W.Frag} (hn : l.most = some 63) (hdf : d.params.defaults = [])
    (hY : ∀ (w : World) (h : Heap), YP w h → (K w.params).In h)
    (F : ∀ (w : World) (mg : Str → Option Value) (fa : Addr) (h : Heap), (K w.params).In h → h.Ns mainGlobals mg → mg d.name = some (.ref fa) →
      ∃ fd : FuncData, (∀ (s : Shared) (u : Value), BindsTo s fd ⟨[u], []⟩ [("_law_script", u)]) ∧ ∀ base : Heap, (K w.params).In base → base.Ns mainGlobals mg → FnOk l.prog w (K w.params) mg base CX0 12 fa fd ["_law_script"] (spLaw (K w.params))) :
    PySem.W.WalkO q loose XP YP l.row.toRowW d [] (fun f vs => PySem.call f vs) :=
  L2.walk_of (n := 63) (k := 12) (x := "_law_script") (CX := fun _ => CX0) (sp := fun w => spLaw (K w.params)) hn (by decide) hdf ⟨rfl, by decide, by decide⟩ hY F (fun _ _ a ns hl _ hS => ⟨a, ns, rfl, hS, hl, fun _ => rfl⟩) fun _ _ _ _ _ z => z
end
end Vk
set_option Elab.async false
open PySem PySem.W PyProof.Rows
set_option maxRecDepth 100000 in
set_option maxHeartbeats 0 in
theorem PySem.Challenge.cw_talepost_k20_tables_written_holds : PySem.Challenge.rw_talepost_k20_tables_written.Holds := by
  w_on; o_law; k_head; (case hw => w_witness2)
  k_fill
  refine Vk.walk (l := PySem.Challenge.rw_talepost_k20_tables_written) rfl rfl (fun w h Y => PySem.W.kIn_of Y) ?F
  case F =>
    intro w mg fa h KX G hmg
    refine' Vk.all_mk KX G hmg ?lDiff ?cDiff ?aDiff ?kDiff ?lPIsEntry ?cPIsEntry ?aPIsEntry ?kPIsEntry ?lBag ?cBag ?aBag ?kBag ?lTake ?cTake ?aTake ?kTake ?lNames ?cNames ?aNames ?kNames ?lSigns ?cSigns ?aSigns ?kSigns ?lInteger ?cInteger ?aInteger ?kInteger ?lPairs ?cPairs ?aPairs ?kPairs ?lOuts ?cOuts ?aOuts ?kOuts ?lTruth ?cTruth ?aTruth ?kTruth ?lWritten ?cWritten ?aWritten ?kWritten ?lIs ?cIs ?aIs ?kIs ?lStrange ?cStrange ?aStrange ?kStrange ?lNoSign ?cNoSign ?aNoSign ?kNoSign ?lNoPairs ?cNoPairs ?aNoPairs ?kNoPairs ?lBadPair ?cBadPair ?aBadPair ?kBadPair ?lNamed ?cNamed ?aNamed ?kNamed ?lChanged ?cChanged ?aChanged ?kChanged ?lRight ?cRight ?aRight ?kRight ?lIndex ?cIndex ?aIndex ?kIndex ?lReads ?cReads ?aReads ?kReads ?lLaw ?cLaw ?aLaw ?kLaw ?z_len ?z_set ?z_all ?z_abs ?z_int ?z_range ?z_sorted ?z_isinstance ?z_str ?z_bool ?z_list ?z_tuple ?z_any ?z_enumerate ?z_min ?z_max ?z_ValueError ?aC ?pgC ?hdC ?poC ?saC ?mkC ?kC ?nC_letters ?nC_vowels ?nC_consonants ?nC_signs ?ig ?it ?icC ?imC ?rdC ?gaC ?vM ?vJ ?aJ ?gJ ?aSL ?aTB ?pgTB ?hdTB ?poTB ?saTB ?mkTB ?kTB ?nTB_alphabet ?nTB_pairs ?icTB ?imTB ?rdTB ?gaTB ?lAlEq ?cAlEq ?aAlEq ?kAlEq ?iAlEq ?lIsSign ?cIsSign ?aIsSign ?kIsSign ?iIsSign ?lAsc ?cAsc ?aAsc ?kAsc ?iAsc ?lTInit ?cTInit ?aTInit ?kTInit ?iTInit ?lTId ?cTId ?kTId ?cmTId ?rcTId ?fiTId ?lTFull ?cTFull ?kTFull ?cmTFull ?rcTFull ?fiTFull ?lTEmp ?cTEmp ?kTEmp ?cmTEmp ?rcTEmp ?fiTEmp ?lTRead ?cTRead ?kTRead ?cmTRead ?rcTRead ?fiTRead ?lTTotal ?cTTotal ?kTTotal ?aTTotal ?gTTotal ?tTTotal ?rTTotal ?lTExact ?cTExact ?kTExact ?aTExact ?gTExact ?tTExact ?rTExact ?lTGet ?cTGet ?aTGet ?kTGet ?iTGet ?lTIn ?cTIn ?aTIn ?kTIn ?iTIn ?lTLen ?cTLen ?aTLen ?kTLen ?iTLen ?lTBool ?cTBool ?aTBool ?kTBool ?iTBool ?lTStr ?cTStr ?aTStr ?kTStr ?iTStr ?lTEq ?cTEq ?aTEq ?kTEq ?iTEq ?lTPairs ?cTPairs ?aTPairs ?kTPairs ?iTPairs ?fnTGet ?eqC ?eqTB ?lA ?cA ?aA ?lDA ?kA ?iA ?xTE ?aTE ?eTE ?tTE ?hTE ?iTE ?noT ?noM ?anyS ?xBA ?aBA ?eBA ?tBA ?hBA ?nBA_part ?saBA ?gaBA ?ggBA ?aFBA ?tFBA ?lBA ?cBA ?kBA ?lccBA ?lcdBA ?hvBA ?hflBA ?mmBA ?vBA ?xBP ?aBP ?eBP ?tBP ?hBP ?nBP_index ?saBP ?gaBP ?ggBP ?aFBP ?tFBP ?lBP ?cBP ?kBP ?lccBP ?lcdBP ?hvBP ?hflBP ?mmBP ?vBP ?xUS ?aUS ?eUS ?tUS ?hUS ?nUS_sign ?saUS ?gaUS ?ggUS ?aFUS ?tFUS ?lUS ?cUS ?kUS ?lccUS ?lcdUS ?hvUS ?hflUS ?mmUS ?vUS ?xBE ?aBE ?eBE ?tBE ?hBE ?nBE_index ?saBE ?gaBE ?ggBE ?aFBE ?tFBE ?lBE ?cBE ?kBE ?lccBE ?lcdBE ?hvBE ?hflBE ?mmBE ?vBE ?sTE_TE ?clTE ?sUS_US ?sUS_TE ?clUS ?sBP_BP ?sBP_TE ?clBP ?sBE_BE ?sBE_TE ?clBE ?sUS_BP ?sBP_BE ?sBE_BP ?icUS ?imUS ?icBP ?imBP ?icBE ?imBE
    (case aDiff => k_is)
    (case aPIsEntry => k_is)
    (case aBag => k_is)
    (case aTake => k_is)
    (case aNames => k_is)
    (case aSigns => k_is)
    (case aInteger => k_is)
    (case aPairs => k_is)
    (case aOuts => k_is)
    (case aTruth => k_is)
    (case aWritten => k_is)
    (case aIs => k_is)
    (case aStrange => k_is)
    (case aNoSign => k_is)
    (case aNoPairs => k_is)
    (case aBadPair => k_is)
    (case aNamed => k_is)
    (case aChanged => k_is)
    (case aRight => k_is)
    (case aIndex => k_is)
    (case aReads => k_is)
    (case aLaw => k_is)
    (case z_len => k_is)
    (case z_set => k_is)
    (case z_all => k_is)
    (case z_abs => k_is)
    (case z_int => k_is)
    (case z_range => k_is)
    (case z_sorted => k_is)
    (case z_isinstance => k_is)
    (case z_str => k_is)
    (case z_bool => k_is)
    (case z_list => k_is)
    (case z_tuple => k_is)
    (case z_any => k_is)
    (case z_enumerate => k_is)
    (case z_min => k_is)
    (case z_max => k_is)
    (case z_ValueError => k_is)
    (case aC => k_is)
    (case aSL => k_is)
    (case aTB => k_is)
    (case aTE => k_is)
    (case noM => k_is)
    (case aBA => k_is)
    (case aBP => k_is)
    (case aUS => k_is)
    (case aBE => k_is)
    (case aAlEq => k_is)
    (case aIsSign => k_is)
    (case aAsc => k_is)
    (case aTInit => k_is)
    (case aTTotal => k_is)
    (case aTExact => k_is)
    (case aTGet => k_is)
    (case aTIn => k_is)
    (case aTLen => k_is)
    (case aTBool => k_is)
    (case aTStr => k_is)
    (case aTEq => k_is)
    (case aTPairs => k_is)
    (case aA => k_is)
    (case aFBA => k_is)
    (case aFBP => k_is)
    (case aFUS => k_is)
    (case aFBE => k_is)
    (case cmTId => k_is)
    (case cmTFull => k_is)
    (case cmTEmp => k_is)
    (case cmTRead => k_is)
    (case rcTId => k_is)
    (case rcTFull => k_is)
    (case rcTEmp => k_is)
    (case rcTRead => k_is)
    (case rTTotal => k_is)
    (case rTExact => k_is)
    (case lDiff => k_is)
    (case cDiff => k_is)
    (case kDiff => k_is)
    (case lPIsEntry => k_is)
    (case cPIsEntry => k_is)
    (case kPIsEntry => k_is)
    (case lBag => k_is)
    (case cBag => k_is)
    (case kBag => k_is)
    (case lTake => k_is)
    (case cTake => k_is)
    (case kTake => k_is)
    (case lNames => k_is)
    (case cNames => k_is)
    (case kNames => k_is)
    (case lSigns => k_is)
    (case cSigns => k_is)
    (case kSigns => k_is)
    (case lInteger => k_is)
    (case cInteger => k_is)
    (case kInteger => k_is)
    (case lPairs => k_is)
    (case cPairs => k_is)
    (case kPairs => k_is)
    (case lOuts => k_is)
    (case cOuts => k_is)
    (case kOuts => k_is)
    (case lTruth => k_is)
    (case cTruth => k_is)
    (case kTruth => k_is)
    (case lWritten => k_is)
    (case cWritten => k_is)
    (case kWritten => k_is)
    (case lIs => k_is)
    (case cIs => k_is)
    (case kIs => k_is)
    (case lStrange => k_is)
    (case cStrange => k_is)
    (case kStrange => k_is)
    (case lNoSign => k_is)
    (case cNoSign => k_is)
    (case kNoSign => k_is)
    (case lNoPairs => k_is)
    (case cNoPairs => k_is)
    (case kNoPairs => k_is)
    (case lBadPair => k_is)
    (case cBadPair => k_is)
    (case kBadPair => k_is)
    (case lNamed => k_is)
    (case cNamed => k_is)
    (case kNamed => k_is)
    (case lChanged => k_is)
    (case cChanged => k_is)
    (case kChanged => k_is)
    (case lRight => k_is)
    (case cRight => k_is)
    (case kRight => k_is)
    (case lIndex => k_is)
    (case cIndex => k_is)
    (case kIndex => k_is)
    (case lReads => k_is)
    (case cReads => k_is)
    (case kReads => k_is)
    (case lLaw => k_is)
    (case cLaw => k_is)
    (case kLaw => k_is)
    (case pgC => k_is)
    (case hdC => k_is)
    (case poC => k_is)
    (case saC => k_is)
    (case mkC => k_is)
    (case kC => k_is)
    (case nC_letters => k_is)
    (case nC_vowels => k_is)
    (case nC_consonants => k_is)
    (case nC_signs => k_is)
    (case ig => k_is)
    (case it => k_is)
    (case icC => k_is)
    (case imC => k_is)
    (case rdC => k_is)
    (case gaC => k_is)
    (case vM => k_is)
    (case vJ => k_is)
    (case aJ => k_is)
    (case gJ => k_is)
    (case pgTB => k_is)
    (case hdTB => k_is)
    (case poTB => k_is)
    (case saTB => k_is)
    (case mkTB => k_is)
    (case kTB => k_is)
    (case nTB_alphabet => k_is)
    (case nTB_pairs => k_is)
    (case icTB => k_is)
    (case imTB => k_is)
    (case rdTB => k_is)
    (case gaTB => k_is)
    (case lAlEq => k_is)
    (case cAlEq => k_is)
    (case kAlEq => k_is)
    (case iAlEq => k_is)
    (case lIsSign => k_is)
    (case cIsSign => k_is)
    (case kIsSign => k_is)
    (case iIsSign => k_is)
    (case lAsc => k_is)
    (case cAsc => k_is)
    (case kAsc => k_is)
    (case iAsc => k_is)
    (case lTInit => k_is)
    (case cTInit => k_is)
    (case kTInit => k_is)
    (case iTInit => k_is)
    (case lTId => k_is)
    (case cTId => k_is)
    (case kTId => k_is)
    (case fiTId => k_is)
    (case lTFull => k_is)
    (case cTFull => k_is)
    (case kTFull => k_is)
    (case fiTFull => k_is)
    (case lTEmp => k_is)
    (case cTEmp => k_is)
    (case kTEmp => k_is)
    (case fiTEmp => k_is)
    (case lTRead => k_is)
    (case cTRead => k_is)
    (case kTRead => k_is)
    (case fiTRead => k_is)
    (case lTTotal => k_is)
    (case cTTotal => k_is)
    (case kTTotal => k_is)
    (case gTTotal => k_is)
    (case tTTotal => k_is)
    (case lTExact => k_is)
    (case cTExact => k_is)
    (case kTExact => k_is)
    (case gTExact => k_is)
    (case tTExact => k_is)
    (case lTGet => k_is)
    (case cTGet => k_is)
    (case kTGet => k_is)
    (case iTGet => k_is)
    (case lTIn => k_is)
    (case cTIn => k_is)
    (case kTIn => k_is)
    (case iTIn => k_is)
    (case lTLen => k_is)
    (case cTLen => k_is)
    (case kTLen => k_is)
    (case iTLen => k_is)
    (case lTBool => k_is)
    (case cTBool => k_is)
    (case kTBool => k_is)
    (case iTBool => k_is)
    (case lTStr => k_is)
    (case cTStr => k_is)
    (case kTStr => k_is)
    (case iTStr => k_is)
    (case lTEq => k_is)
    (case cTEq => k_is)
    (case kTEq => k_is)
    (case iTEq => k_is)
    (case lTPairs => k_is)
    (case cTPairs => k_is)
    (case kTPairs => k_is)
    (case iTPairs => k_is)
    (case fnTGet => k_is)
    (case eqC => k_is)
    (case eqTB => k_is)
    (case lA => k_is)
    (case cA => k_is)
    (case lDA => k_is)
    (case kA => k_is)
    (case iA => k_is)
    (case xTE => k_is)
    (case eTE => k_is)
    (case tTE => k_is)
    (case hTE => k_is)
    (case iTE => k_is)
    (case noT => first | rfl | decide +kernel)
    (case anyS => k_is)
    (case xBA => k_is)
    (case eBA => k_is)
    (case tBA => k_is)
    (case hBA => k_is)
    (case nBA_part => k_is)
    (case saBA => k_is)
    (case gaBA => k_is)
    (case ggBA => k_is)
    (case tFBA => k_is)
    (case lBA => k_is)
    (case cBA => k_is)
    (case kBA => k_is)
    (case lccBA => k_is)
    (case lcdBA => k_is)
    (case hvBA => rfl)
    (case hflBA => first | rfl | decide +kernel)
    (case mmBA => k_is)
    (case vBA => k_is)
    (case xBP => k_is)
    (case eBP => k_is)
    (case tBP => k_is)
    (case hBP => k_is)
    (case nBP_index => k_is)
    (case saBP => k_is)
    (case gaBP => k_is)
    (case ggBP => k_is)
    (case tFBP => k_is)
    (case lBP => k_is)
    (case cBP => k_is)
    (case kBP => k_is)
    (case lccBP => k_is)
    (case lcdBP => k_is)
    (case hvBP => rfl)
    (case hflBP => first | rfl | decide +kernel)
    (case mmBP => k_is)
    (case vBP => k_is)
    (case xUS => k_is)
    (case eUS => k_is)
    (case tUS => k_is)
    (case hUS => k_is)
    (case nUS_sign => k_is)
    (case saUS => k_is)
    (case gaUS => k_is)
    (case ggUS => k_is)
    (case tFUS => k_is)
    (case lUS => k_is)
    (case cUS => k_is)
    (case kUS => k_is)
    (case lccUS => k_is)
    (case lcdUS => k_is)
    (case hvUS => rfl)
    (case hflUS => first | rfl | decide +kernel)
    (case mmUS => k_is)
    (case vUS => k_is)
    (case xBE => k_is)
    (case eBE => k_is)
    (case tBE => k_is)
    (case hBE => k_is)
    (case nBE_index => k_is)
    (case saBE => k_is)
    (case gaBE => k_is)
    (case ggBE => k_is)
    (case tFBE => k_is)
    (case lBE => k_is)
    (case cBE => k_is)
    (case kBE => k_is)
    (case lccBE => k_is)
    (case lcdBE => k_is)
    (case hvBE => rfl)
    (case hflBE => first | rfl | decide +kernel)
    (case mmBE => k_is)
    (case vBE => k_is)
    (case sTE_TE => k_is)
    (case clTE => k_is)
    (case sUS_US => k_is)
    (case sUS_TE => k_is)
    (case clUS => k_is)
    (case sBP_BP => k_is)
    (case sBP_TE => k_is)
    (case clBP => k_is)
    (case sBE_BE => k_is)
    (case sBE_TE => k_is)
    (case clBE => k_is)
    (case sUS_BP => k_is)
    (case sBP_BE => k_is)
    (case sBE_BP => k_is)
    (case icUS => k_is)
    (case imUS => k_is)
    (case icBP => k_is)
    (case imBP => k_is)
    (case icBE => k_is)
    (case imBE => k_is)
