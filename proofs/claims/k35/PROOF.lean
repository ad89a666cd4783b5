import PyProof.Rows.All
import Wide.All
import OpenK.AllK
import Wide.FinOn
import HandS.ForMost
import HandS.More
import PyProof.CollectStr
import HandS.Walk
import HandS.IsInst
import HandS.ForExc
import HandS.Property
import HandS.Text
import HandS.Strs
import PyProof.ListStr
import HandS.Conv
import HandS.ExcOwn
import HandS.Base
import HandS.Call
import HandS.Exc
import HandS.TryMany
import HandS.Star
import KE.KStar
import HandS.ExcInit
import HandS.ExcField
import HandS.FStr
import HandS.ExcSuper
import KE.KExcSuper
import HandS.HotCalls
import HandS.RaiseFrom
import HandS.ExcInitHot
import HandS.TryOnly
import KE.KUnpackStar
import HandS.WordsExc
import HandS.ExcCtx
import HandS.SuiteRaise
import HandS.ExcIs
import HandS.SlotsOwn
import HandS.TupSets
import HandS.Zip
import HandS.ClsMeth
import HandS.Defaults
import PySem.Challenge.RW_talepost_k35_book_notes
import KE.Datum
import KE.KEqSeq
import HandS.Replace
import HandS.ReplaceList
import HandS.Sort
import HandS.NamedTupSort
import KE.KSortTupG
import PyProof.Rows.SortShell
import HandS.Iter
import KE.GoesMore
import KE.GoesEnum
import PyProof.StrLawsRepr
import HandS.DictComp
import HandS.Dict
import PyProof.Rows.StrMeet
set_option Elab.async false
set_option linter.all false
set_option maxRecDepth 100000
set_option maxHeartbeats 4000000
/-! sorted(text): the signs of a text in order; list(text) -/
namespace Vk
open PySem PySem.Spec PyProof.Rows L2
def signsOf (z : Str) : List Str := z.cps.toList.map fun c => (⟨#[c]⟩ : Str)
theorem signs_strs {z : Str} {acc : Array Value} (h : ItemsOf (SignAt z) acc z.cps.size) : StrsAre acc.toList (signsOf z) := by
  have hsz : acc.size = z.cps.size := h.1
  have hL : acc.toList.length = (signsOf z).length := by
    rw [Array.length_toList, hsz]
    unfold signsOf
    rw [List.length_map, Array.length_toList]
  refine strs_at hL fun j v e => ?_
  have e1 : acc[j]? = some v := by rw [← Array.getElem?_toList]; exact e
  obtain ⟨c, u, hc, ev⟩ := h.2 j v e1
  refine ⟨⟨#[c]⟩, u, ?_, ev⟩
  unfold signsOf
  rw [List.getElem?_map, Array.getElem?_toList, hc]
  rfl
section
variable {X : Cx}
def rSortT : List V → Hp → VK → Prop := fun vs H Q => ∃ z : Str, vs = [.str z] ∧ z.length < 64 ∧
  ∀ ys p, ys.Perm (signsOf z) → sortedS ys = true → H p = none → Q (.ref p) (upd H p (.lst (ys.map V.str)))
theorem cr_sortT (hcalm : X.calm = true) : CallR X (.builtin "sorted") rSortT := by
  intro pins s σ H xs us Q I r q
  obtain ⟨z, ex, h64, q⟩ := q
  subst ex
  obtain ⟨u, eu, rx⟩ := vals1 r
  subst eu
  obtain ⟨t, rfl⟩ := rx
  have hz2 : z.cps.size < 64 := h64
  refine Calls.call_function_entry PyProof.Rows.kind_sorted PyProof.Rows.plain_sorted PyProof.Rows.entry_sorted (PyProof.Rows.args_sorted1 _) ?_
  unfold Builtin.«sorted»
  refine wpAny_bind (m := checkCount "sorted" 1 1 _) (wpAny_pure ?_)
  refine wpAny_bind (wpAny_collect_str (A := X.A.in1) (I.ok.hd hcalm) z t (fun s1 acc hk hg hd ho hacc => ?_) (by rw [sizeLine_eq]; omega))
  obtain ⟨h1, g1, d1, tk1, os1⟩ := s1
  have eg : g1 = s.gens := hg
  have ed : d1 = s.drawn := hd
  have eo : os1 = s.os := ho
  subst eg; subst ed; subst eo
  have hS := signs_strs hacc
  have hal : acc.toList.length = z.cps.size := by rw [Array.length_toList]; exact hacc.1
  have I1 : Inv X pins σ H { s with heap := h1, toks := tk1 } := I.kept hk
  refine wpAny_bind (wpAny_newList ?_ (by rw [hal, sizeLine_eq]; omega))
  have hoL : (h1.push (seqObj "list" acc.toList.toArray 0)).get? h1.objs.size = some (seqObj "list" acc.toList.toArray 0) := Heap.get?_push_size _ rfl
  show wpAny _ _ _ _ _ { s with heap := h1.push (seqObj "list" acc.toList.toArray 0), toks := tk1 }
  refine wpAny_bind (wpAny_holding (wpAny_call_entry PyProof.Rows.slot_list_sort ⟨_, hoL, rfl⟩ PyProof.Rows.entry_list_sort
    (list_sort_treeK strKind_oneLt (s := { s with heap := h1.push (seqObj "list" acc.toList.toArray 0), toks := tk1 }) hoL hS.keysOf (fun v₁ v₂ more e => keyKind_strs (by rw [← e]; exact hS)) (by rw [hal]; exact hz2) fun st2 hp hs => ⟨_, rfl, ?_⟩)
    (PyProof.Rows.args_list_sort _)))
  obtain ⟨ys, g1, g2, g3⟩ := sorted_out_str hS hp hs
  obtain ⟨e', he'⟩ := PyProof.Rows.sortedHeap_at (vs := acc.toList) (out := (arrOf st2).map (·.2)) hoL
  have hlen : (ys.map V.str).length ≤ sizeLine := by
    rw [List.length_map, g2.length_eq]
    unfold signsOf
    rw [List.length_map, Array.length_toList, sizeLine_eq]
    omega
  refine wpAny_pure ⟨_, rfl, .ref h1.objs.size, upd H h1.objs.size (.lst (ys.map V.str)), I1.laid (t' := tk1) (fun b u e => ?_) (Nat.le_refl _)
    (show ObjOk X.prog X.w _ _ _ (.lst (ys.map V.str)) from ⟨hlen, ((arrOf st2).map (·.2)).toList, e', vals_of_strs g1, by rw [Array.toArray_toList]; exact he'⟩), rfl, q ys _ g2 g3 (I1.hok.fresh (Nat.le_refl _))⟩
  have hb : b < h1.objs.size := Heap.lt_size e
  rw [PyProof.Rows.sortedHeap_old (Nat.ne_of_lt hb) (by rw [size_push']; exact Nat.lt_succ_of_lt hb)]
  exact Heap.get?_push_of_some _ e
/-- list(x), x a text -/
def rListT : List V → Hp → VK → Prop := fun vs H Q => ∃ z : Str, vs = [.str z] ∧ z.length ≤ 4000 ∧ ∀ p, H p = none → Q (.ref p) (upd H p (.lst ((signsOf z).map V.str)))
end
/-! sorted texts: two arrangements of the same texts are one -/
theorem lt_irr (a : List Nat) : ltCps a a = false := by
  rw [ltCps_eq]
  exact decide_eq_false (List.lt_irrefl a)
end Vk
set_option Elab.async false
set_option linter.all false
set_option maxRecDepth 100000
set_option maxHeartbeats 1000000
/-! texts as lists of codes; comprehensions over a text -/
namespace Vk
open PySem PySem.Spec PyProof.Rows L2
/-- the text of these codes -/
def S (l : List Nat) : Str := ⟨l.toArray⟩
theorem S_of (z : Str) : z = S z.cps.toList := by
  obtain ⟨a⟩ := z
  simp [S]
theorem S_len (l : List Nat) : (S l).length = l.length := by
  show l.toArray.size = l.length
  simp
theorem S_cps (l : List Nat) : (S l).cps.toList = l := by simp [S]
theorem S_size (l : List Nat) : (S l).cps.size = l.length := S_len l
theorem S_inj {a b : List Nat} : S a = S b ↔ a = b := by
  constructor
  · intro h
    have := congrArg (fun z : Str => z.cps.toList) h
    simpa [S] using this
  · rintro rfl
    rfl
theorem S_one (c : Nat) : (⟨#[c]⟩ : Str) = S [c] := rfl
theorem S_app (a b : List Nat) : S a ++ S b = S (a ++ b) := by
  show (⟨a.toArray ++ b.toArray⟩ : Str) = ⟨(a ++ b).toArray⟩
  simp
theorem S_get {l : List Nat} {i c : Nat} : (S l).cps[i]? = some c ↔ l[i]? = some c := by
  show l.toArray[i]? = some c ↔ _
  simp
theorem signs_S (l : List Nat) : signsOf (S l) = l.map fun c => S [c] := by
  unfold signsOf
  rw [S_cps]
  rfl
theorem S_cut (l : List Nat) (lo hi : Option Int) : cutS (S l) lo hi = S ((l.drop (HT.sIx l.length 0 lo)).take (HT.sIx l.length l.length hi - HT.sIx l.length 0 lo)) := by
  unfold cutS
  rw [S_cps, S_len]
  rfl
theorem S_to (l : List Nat) (k : Nat) : cutS (S l) none (some (k : Int)) = S (l.take k) := by
  rw [S_cut, HT.sIx_none, HT.sIx_nat, List.drop_zero, Nat.sub_zero]
  congr 1
  rw [← List.take_take, List.take_length]
theorem S_from (l : List Nat) (k : Nat) : cutS (S l) (some (k : Int)) none = S (l.drop k) := by
  rw [S_cut, HT.sIx_none, HT.sIx_nat]
  congr 1
  by_cases h : k ≤ l.length
  · rw [Nat.min_eq_left h]
    exact List.take_of_length_le (by rw [List.length_drop]; exact Nat.le_refl _)
  · rw [Nat.min_eq_right (by omega), Nat.sub_self, List.take_zero, List.drop_eq_nil_of_le (by omega)]
/-- what join does of single signs -/
theorem join_signs : ∀ l : List Nat, Txt.join (S []) (l.map fun c => S [c]) = S l := by
  have key : ∀ l : List Nat, Str.join (S []) (l.map fun c => S [c]) = S l := by
    intro l
    induction l with
    | nil => rfl
    | cons c r ih =>
      cases r with
      | nil => rfl
      | cons d r =>
        show S [c] ++ S [] ++ Str.join (S []) ((d :: r).map fun c => S [c]) = _
        rw [ih, S_app, S_app]
        rfl
  intro l
  exact (PySem.StrLaws.glued_eq_join _ _).trans (key l)
/-! sorted -/
def srtL (l : List Nat) : List Nat := l.mergeSort fun a b => decide (a ≤ b)
theorem srtL_perm (l : List Nat) : (srtL l).Perm l := List.mergeSort_perm _ _
theorem srtL_le (l : List Nat) : (srtL l).Pairwise (· ≤ ·) := by
  have h := List.pairwise_mergeSort (le := fun a b : Nat => decide (a ≤ b)) (by simp; omega) (by simp; omega) l
  exact h.imp fun h => by simpa using h
theorem srtL_len (l : List Nat) : (srtL l).length = l.length := (srtL_perm l).length_eq
theorem srtL_mem {l : List Nat} {c : Nat} : c ∈ srtL l ↔ c ∈ l := (srtL_perm l).mem_iff
theorem srtL_nodup {l : List Nat} : (srtL l).Nodup ↔ l.Nodup := (srtL_perm l).nodup_iff
theorem srt_eq {a b : List Nat} (p : a.Perm b) (ha : a.Pairwise (· ≤ ·)) : a = srtL b :=
  List.Perm.eq_of_pairwise (le := (· ≤ ·)) (fun x y _ _ h1 h2 => Nat.le_antisymm h1 h2) ha (srtL_le b) (p.trans (srtL_perm b).symm)
theorem srtL_congr {a b : List Nat} : srtL a = srtL b ↔ a.Perm b := by
  constructor
  · intro h
    exact (srtL_perm a).symm.trans (h ▸ srtL_perm b)
  · intro p
    exact srt_eq ((srtL_perm a).trans p) (srtL_le a)
theorem rising_le : ∀ (c : Nat) (l : List Nat), risingS (S [c]) (l.map fun c => S [c]) = true → (c :: l).Pairwise (· ≤ ·)
  | c, [], _ => by simp
  | c, d :: l, h => by
    have h' : (!ltCps (S [d]).cps.toList (S [c]).cps.toList && risingS (S [d]) (l.map fun c => S [c])) = true := h
    obtain ⟨h1, h2⟩ := Bool.and_eq_true_iff.mp h'
    have ih := rising_le d l h2
    have hcd : c ≤ d := by
      rw [ltCps_eq] at h1
      simp [S] at h1
      exact Nat.le_of_not_lt fun z => of_decide_eq_false h1 (List.Lex.rel z)
    rw [List.pairwise_cons]
    refine ⟨fun x hx => ?_, ih⟩
    rcases List.mem_cons.mp hx with rfl | hx
    · exact hcd
    · exact Nat.le_trans hcd ((List.pairwise_cons.mp ih).1 x hx)
theorem sorted_signs {l : List Nat} {ys : List Str} (p : ys.Perm (l.map fun c => S [c])) (h : sortedS ys = true) : ys = (srtL l).map fun c => S [c] := by
  have hq : ∃ zs : List Nat, ys = zs.map fun c => S [c] := by
    refine ⟨ys.map fun z => z.cps.toList.headD 0, ?_⟩
    rw [List.map_map]
    refine (List.map_id ys).symm.trans (List.map_congr_left fun y hy => ?_)
    obtain ⟨c, _, rfl⟩ := List.mem_map.mp (p.mem_iff.mp hy)
    simp [S]
  obtain ⟨zs, rfl⟩ := hq
  have hp : zs.Perm l := by
    have q := p.map fun z : Str => z.cps.toList.headD 0
    rw [List.map_map, List.map_map] at q
    have e : ∀ l : List Nat, l.map ((fun z : Str => z.cps.toList.headD 0) ∘ fun c => S [c]) = l := fun l => (List.map_congr_left fun c _ => by simp [S]).trans (List.map_id l)
    rw [e, e] at q
    exact q
  have hs : zs.Pairwise (· ≤ ·) := by
    cases zs with
    | nil => exact .nil
    | cons c r => exact rising_le c r h
  rw [srt_eq hp hs]
/-! a comprehension over a text -/
theorem lc_text {l : List Nat} {j : Nat} {tt : TT} {te : TE} {vs : List Nat} {σ : L2.St} {H1 : Hp} {D : Addr} {Qd : Hp → Prop} (p : Nat → Bool) (v : Nat → V) (hl : l.length ≤ 4000)
    (hw : ∀ x, wipe ((wipe σ vs).set j (some x)) vs = wipe σ vs)
    (ht : ∀ c ∈ l, ∀ (H2 : Hp) (Q : Bool → Hp → Prop), (∀ b, b ≠ D → H2 b = H1 b) → Q (p c) H2 → tt ((wipe σ vs).set j (some (.str (S [c])))) H2 Q)
    (he : ∀ c ∈ l, p c = true → ∀ (H2 : Hp) (Q : VK), (∀ b, b ≠ D → H2 b = H1 b) → Q (v c) H2 → te ((wipe σ vs).set j (some (.str (S [c])))) H2 Q)
    (hq : Qd (upd H1 D (.lst ((l.filter p).map v)))) :
    ∃ W : Nat → Nat → Hp → Prop, (∃ m, W 0 m (upd H1 D (.lst []))) ∧ ∀ i m H, W i m H →
      ((Its (S l)).stop i H ∧ Qd H) ∨ ((Its (S l)).go i H ∧ ∃ Nx : Hp → Prop, (∀ H', Nx H' → ∃ m', m' < m ∧ W (i + 1) m' H') ∧ ∀ x H', (Its (S l)).yld i H x H' → gName j x (wipe σ vs) H' fun σ2 H2 => wipe σ2 vs = wipe σ vs ∧ tt σ2 H2 fun b H3 =>
        if b = true then te σ2 H3 fun y H4 => ∃ acc, H4 D = some (.lst acc) ∧ acc.length < sizeLine ∧ Nx (upd H4 D (.lst (acc ++ [y]))) else Nx H3) := by
  have hz : (S l).cps.size = l.length := S_size l
  refine lc_it walk_str (fun i H => H = upd H1 D (.lst (((l.take i).filter p).map v))) rfl (fun _ _ _ _ => trivial) ?_ ?_
  · rintro i x H H' hi hP ⟨rfl, c, hc, rfl⟩
    subst hP
    have hc2 : l[i]? = some c := S_get.mp hc
    have hm : c ∈ l := List.mem_of_getElem? hc2
    have off : ∀ b, b ≠ D → (upd H1 D (.lst (((l.take i).filter p).map v))) b = H1 b := fun b hb => upd_ne hb
    have e1 : l.take (i + 1) = l.take i ++ [c] := by
      rw [List.take_add_one, hc2]
      rfl
    refine ⟨hw _, ht c hm _ _ off ?_⟩
    by_cases hp : p c = true
    · rw [if_pos hp]
      refine he c hm hp _ _ off ⟨_, upd_same, ?_, ?_⟩
      · rw [List.length_map, sizeLine_eq]
        have h1 := List.length_filter_le p (l.take i)
        rw [List.length_take] at h1
        omega
      · rw [upd_upd, e1, List.filter_append, List.filter_cons_of_pos hp, List.filter_nil, List.map_append]
        rfl
    · rw [if_neg hp, e1, List.filter_append, List.filter_cons_of_neg hp, List.filter_nil, List.append_nil]
  · rintro H rfl
    rw [hz, List.take_length]
    exact hq
end Vk
set_option Elab.async false
set_option linter.all false
set_option maxRecDepth 100000
set_option maxHeartbeats 4000000
namespace Vk
open PySem PySem.Spec PyProof.Rows L2
/-! V0: the readings, one step each, said the way a walk uses them -/
section
variable {D : Ends} {σ : L2.St} {H : Hp} {t u : TS} {te ta tb : TE} {c : TT} {Q : VK} {K : PySem.W.Frag}
theorem iSeq (h : t { nx := u D, rt := D.rt, bk := D.bk, ct := D.ct } σ H) : tSeq t u D σ H := h
theorem iNext (h : D.nx σ H) : tNext D σ H := h
theorem iBreak (h : D.bk σ H) : tBreak D σ H := h
theorem iCont (h : D.ct σ H) : tCont D σ H := h
theorem iDrop (h : te σ H fun _ H1 => D.nx σ H1) : tDrop te D σ H := h
theorem iRet (h : te σ H D.rt) : tRet te D σ H := h
theorem iRetN (h : D.rt .non H) : tRetN D σ H := h
theorem iIfS (h : c σ H fun b H1 => if b = true then t D σ H1 else u D σ H1) : tIfS c t u D σ H := h
theorem iAsg {g : TG} (h : te σ H fun x H1 => g x σ H1 D.nx) : tAsg te g D σ H := h
theorem iName {i : Nat} {v : V} {Q : L2.St → Hp → Prop} (h : Q (σ.set i (some v)) H) : gName i v σ H Q := h
theorem iSub {to ti : TE} {tt : TSet} {v : V} {Q : L2.St → Hp → Prop} (h : to σ H fun o H1 => ti σ H1 fun i H2 => tt o i v H2 fun H3 => Q σ H3) : gSub to ti tt v σ H Q := h
theorem iVar {i : Nat} {v : V} (e : σ[i]? = some (some v)) (h : Q v H) : tVar i σ H Q := ⟨v, e, h⟩
theorem iC {v : V} (h : Q v H) : tC v σ H Q := h
theorem iOp {r : R2} (h : ta σ H fun x H1 => tb σ H1 fun y H2 => r x y H2 Q) : tOp r ta tb σ H Q := h
theorem iUn {r : V → Hp → VK → Prop} (h : ta σ H fun x H1 => r x H1 Q) : tUn r ta σ H Q := h
theorem iI0 {g : Int → Int → V} {i j : Int} (h : Q (g i j) H) : rI0 g (.int i) (.int j) H Q := ⟨i, j, rfl, rfl, h⟩
theorem iI {C : Int → Int → Prop} {g : Int → Int → V} {i j : Int} (hc : C i j) (h : Q (g i j) H) : rI C g (.int i) (.int j) H Q := ⟨i, j, rfl, rfl, hc, h⟩
theorem iU {g : Int → V} {i : Int} (h : Q (g i) H) : rU g (.int i) H Q := ⟨i, rfl, h⟩
theorem iEq {x y : V} (hs : scal x y = true) (h : Q (.bl (decide (x = y))) H) : rEq x y H Q := ⟨hs, h⟩
theorem iNe {x y : V} (hs : scal x y = true) (h : Q (.bl (!decide (x = y))) H) : rNe x y H Q := ⟨hs, h⟩
theorem iB {Q : Bool → Hp → Prop} (h : te σ H fun x H1 => ∃ c, x = .bl c ∧ Q c H1) : tB te σ H Q := h
theorem iTest {Q : Bool → Hp → Prop} (h : te σ H fun x H1 => ∃ c, x = .bl c ∧ Q c H1) : tTest te σ H Q := h
theorem iAnd {t u : TT} {Q : Bool → Hp → Prop} (h : t σ H fun c H1 => if c = true then u σ H1 Q else Q false H1) : tAnd t u σ H Q := h
theorem iOr {t u : TT} {Q : Bool → Hp → Prop} (h : t σ H fun c H1 => if c = true then Q true H1 else u σ H1 Q) : tOr t u σ H Q := h
theorem iNot {t : TT} {Q : Bool → Hp → Prop} (h : t σ H fun c H1 => Q (!c) H1) : tNot t σ H Q := h
theorem iAndV (h : ta σ H fun x H1 => ∃ c, x = .bl c ∧ if c = true then tb σ H1 Q else Q (.bl false) H1) : tAndV ta tb σ H Q := h
theorem iOrV (h : ta σ H fun x H1 => ∃ c, x = .bl c ∧ if c = true then Q (.bl true) H1 else tb σ H1 Q) : tOrV ta tb σ H Q := h
theorem iNotV (h : ta σ H fun x H1 => ∃ c, x = .bl c ∧ Q (.bl (!c)) H1) : tNotV ta σ H Q := h
theorem iIfE (h : c σ H fun b H1 => if b = true then ta σ H1 Q else tb σ H1 Q) : tIf c ta tb σ H Q := h
theorem iNil {Q : List V → Hp → Prop} (h : Q [] H) : tNil σ H Q := h
theorem iCons {tr : TA} {Q : List V → Hp → Prop} (h : ta σ H fun x H1 => tr σ H1 fun xs H2 => Q (x :: xs) H2) : tCons ta tr σ H Q := h
theorem iTup {ts : TA} (h : ts σ H fun xs H1 => xs.length ≤ sizeLine ∧ ∀ p, H1 p = none → Q (.ref p) (upd H1 p (.tup xs))) : tTup ts σ H Q := h
theorem iLst {ts : TA} (h : ts σ H fun xs H1 => xs.length ≤ sizeLine ∧ ∀ p, H1 p = none → Q (.ref p) (upd H1 p (.lst xs))) : tLst ts σ H Q := h
theorem iCB {r : List V → Hp → VK → Prop} {ts : TA} (h : ts σ H fun vs H1 => r vs H1 Q) : tCB r ts σ H Q := h
theorem iCall {sp : Sp} {dvs : List V} {E : XK} {ts : TA} (h : ts σ H fun vs H1 => sp (vs ++ dvs) H1 Q E) : tCall sp dvs E ts σ H Q := h
theorem iFld {f : Str} (h : ta σ H fun x H1 => ∃ a C dx fs v, x = .ref a ∧ H1 a = some (.ins C dx fs) ∧ Cls K C ∧ NoAttr K C f ∧ fs.lookup f = some v ∧ Q v H1) : tFld K ta f σ H Q := h
theorem iM1 {r : V → List V → Hp → VK → Prop} {to : TE} (h : to σ H fun x H1 => (∃ a, x = .str a) ∧ te σ H1 fun y H2 => r x [y] H2 Q) : tM1 r to te σ H Q := h
theorem iBM {T : String} {r : V → List V → Hp → VK → Prop} {to : TE} {ts : TA} (h : to σ H fun x H1 => tyV K T x H1 ∧ ts σ H1 fun xs H2 => r x xs H2 Q) : tBM K T r to ts σ H Q := h
theorem iSl {r : V → Option Int → Option Int → Hp → VK → Prop} {tl th : TO} (h : te σ H fun x H1 => tl σ H1 fun l H2 => th σ H2 fun u H3 => r x l u H3 Q) : tSl r te tl th σ H Q := h
theorem iIxL {p : Addr} {xs : List V} {i : Int} {v : V} (hq : SqL K H p xs) (e : atI xs i = some v) (h : Q v H) : rIxL K (.ref p) (.int i) H Q := ⟨p, xs, i, v, rfl, rfl, hq, e, h⟩
theorem iIxT {p : Addr} {xs : List V} {i : Int} {v : V} (hq : SqT K H p xs) (e : atI xs i = some v) (h : Q v H) : rIxT K (.ref p) (.int i) H Q := ⟨p, xs, i, v, rfl, rfl, hq, e, h⟩
theorem iIxS {l : List Nat} {i : Int} {c : Nat} (hz : l.length ≤ 100000) (e : atI l i = some c) (h : Q (.str (S [c])) H) : rIxS (.str (S l)) (.int i) H Q :=
  ⟨S l, i, c, rfl, rfl, (by rw [S_len, sizeLine_eq]; omega), (by rw [S_cps]; exact e), h⟩
theorem iSlS {l : List Nat} {lo hi : Option Int} (hz : l.length ≤ 100000) (h : Q (.str (cutS (S l) lo hi)) H) : rSlS (.str (S l)) lo hi H Q :=
  ⟨S l, rfl, (by rw [S_len, sizeLine_eq]; omega), h⟩
theorem iBd {P : Prop} [Decidable P] {A B : Prop} (h1 : P → A) (h2 : ¬ P → B) : if decide P = true then A else B := ite2 (fun h => h1 (of_decide_eq_true h)) fun h => h2 fun p => h (decide_eq_true p)
theorem iBnd {P : Prop} [Decidable P] {A B : Prop} (h1 : ¬ P → A) (h2 : P → B) : if (!decide P) = true then A else B := ite2 (fun h => h1 (by simpa using h)) fun h => h2 (by simpa using h)
theorem iBb {b : Bool} {A B : Prop} (h1 : b = true → A) (h2 : b = false → B) : if b = true then A else B := ite2 h1 fun h => h2 (by simpa using h)
theorem iBbn {b : Bool} {A B : Prop} (h1 : b = false → A) (h2 : b = true → B) : if (!b) = true then A else B := ite2 (fun h => h1 (by simpa using h)) fun h => h2 (by simpa using h)
theorem iTT {A B : Prop} (h : A) : if true = true then A else B := iteT h
theorem iFF {A B : Prop} (h : B) : if false = true then A else B := iteF h
theorem iNTT {A B : Prop} (h : B) : if (!true) = true then A else B := iteF h
theorem iNFF {A B : Prop} (h : A) : if (!false) = true then A else B := iteT h
theorem iEx {α : Sort _} {p : α → Prop} (w : α) (h : p w) : ∃ x, p x := ⟨w, h⟩
theorem iSetL {p : Addr} {xs ys : List V} {i : Int} {j : Nat} {v : V} {Q : Hp → Prop} (h : H p = some (.lst xs)) (hj : ixN xs.length i = some j) (e : xs.set j v = ys) (k : Q (upd H p (.lst ys))) : rSetL (.ref p) (.int i) v H Q :=
  ⟨p, xs, i, j, rfl, rfl, h, hj, (by rw [e]; exact k)⟩
theorem iNoPart {Q : Option Int → Hp → Prop} (h : Q none H) : tNoPart σ H Q := h
theorem iPart {Q : Option Int → Hp → Prop} (h : te σ H fun x H1 => ∃ i, x = .int i ∧ Q (some i) H1) : tPart te σ H Q := h
theorem pe_strS {X : Cx} {x : Str} {l : List Nat} {j : Nat} {pos : Pos} (h : x = S l) : PE X (.Constant (.str x) j pos) (tC (.str (S l))) := h ▸ pe_str
theorem iSFld {tv : TE} {f : Str} (h : tv σ H fun y H1 => ta σ H1 fun x H2 => ∃ a C dx fs, x = .ref a ∧ H2 a = some (.ins C dx fs) ∧ Cls K C ∧ NoAttr K C f ∧ fs.length < 1000 ∧ D.nx σ (upd H2 a (.ins C dx (putF f y fs)))) : sFld K ta tv f D σ H := h
theorem eSFld {a C dx : Addr} {fs fs' : List (Str × V)} {f : Str} {y : V} (e1 : H a = some (.ins C dx fs)) (c : Cls K C) (n : NoAttr K C f) (hl : fs.length < 1000) (ep : putF f y fs = fs') (h : D.nx σ (upd H a (.ins C dx fs'))) :
    ∃ (b C dx : Addr) (gs : List (Str × V)), V.ref a = .ref b ∧ H b = some (.ins C dx gs) ∧ Cls K C ∧ NoAttr K C f ∧ gs.length < 1000 ∧ D.nx σ (upd H b (.ins C dx (putF f y gs))) := ⟨a, C, dx, fs, rfl, e1, c, n, hl, by rw [ep]; exact h⟩
theorem iCon {f : Str} (h : ta σ H fun x H1 => ∃ a C dx fs v u, x = .ref a ∧ H1 a = some (.ins C dx fs) ∧ Cls K C ∧ Con K C f v u ∧ fs.lookup f = none ∧ Q v H1) : tCon K ta f σ H Q := h
theorem iProp {C : Addr} {sp : Sp} {dvs : List V} {E : XK} (h : ta σ H fun x H1 => ∃ a dx fs, x = .ref a ∧ H1 a = some (.ins C dx fs) ∧ sp (.ref a :: dvs) H1 Q E) : tProp C sp dvs E ta σ H Q := h
theorem iMeth {C : Addr} {m : Str} {sp : Sp} {dvs : List V} {E : XK} {t : TA} (h : ta σ H fun x H1 => ∃ a dx fs, x = .ref a ∧ H1 a = some (.ins C dx fs) ∧ fs.lookup m = none ∧ t σ H1 fun vs H2 => sp (x :: (vs ++ dvs)) H2 Q E) : tMeth C m sp dvs E ta t σ H Q := h
theorem iCall0 {sp : Sp} {E : XK} {ts : TA} (h : ts σ H fun vs H1 => sp vs H1 Q E) : tCall sp [] E ts σ H Q := by
  have e : (fun (vs : List V) (H1 : Hp) => sp (vs ++ []) H1 Q E) = fun vs H1 => sp vs H1 Q E := by
    funext vs H1
    rw [List.append_nil]
  show ts σ H fun vs H1 => sp (vs ++ []) H1 Q E
  rw [e]
  exact h
theorem iMeth0 {C : Addr} {m : Str} {sp : Sp} {E : XK} {t : TA} (h : ta σ H fun x H1 => ∃ a dx fs, x = .ref a ∧ H1 a = some (.ins C dx fs) ∧ fs.lookup m = none ∧ t σ H1 fun vs H2 => sp (x :: vs) H2 Q E) : tMeth C m sp [] E ta t σ H Q := by
  have e : (fun (x : V) (H1 : Hp) => ∃ a dx fs, x = .ref a ∧ H1 a = some (.ins C dx fs) ∧ fs.lookup m = none ∧ t σ H1 fun vs H2 => sp (x :: (vs ++ [])) H2 Q E) = fun x H1 => ∃ a dx fs, x = .ref a ∧ H1 a = some (.ins C dx fs) ∧ fs.lookup m = none ∧ t σ H1 fun vs H2 => sp (x :: vs) H2 Q E := by
    funext x H1
    simp only [List.append_nil]
  show ta σ H fun (x : V) (H1 : Hp) => ∃ a dx fs, x = .ref a ∧ H1 a = some (.ins C dx fs) ∧ fs.lookup m = none ∧ t σ H1 fun vs H2 => sp (x :: (vs ++ [])) H2 Q E
  rw [e]
  exact h
/-- here the walk stands still -/
def Stop (p : Prop) : Prop := p
/-! while, by an invariant -/
def Less (W : Nat → L2.St → Hp → Prop) (m : Nat) : L2.St → Hp → Prop := fun σ' H' => ∃ m', m' < m ∧ W m' σ' H'
def WB (W : Nat → L2.St → Hp → Prop) (m : Nat) (tb : TS) (D : Ends) (b : Bool) (σ : L2.St) (H1 : Hp) : Prop :=
  if b = true then ∃ N : L2.St → Hp → Prop, (∀ σ' H', N σ' H' → ∃ m', m' < m ∧ W m' σ' H') ∧ tb { D with nx := N, ct := N, bk := D.nx } σ H1 else D.nx σ H1
theorem iWT {W : Nat → L2.St → Hp → Prop} {m : Nat} {tb : TS} (h : tb { nx := Less W m, rt := D.rt, bk := D.nx, ct := Less W m } σ H) : WB W m tb D true σ H := iteT ⟨Less W m, fun _ _ z => z, h⟩
theorem iWF {W : Nat → L2.St → Hp → Prop} {m : Nat} {tb : TS} (h : D.nx σ H) : WB W m tb D false σ H := iteF h
theorem iWD {P : Prop} [Decidable P] {W : Nat → L2.St → Hp → Prop} {m : Nat} {tb : TS} (h1 : P → tb { nx := Less W m, rt := D.rt, bk := D.nx, ct := Less W m } σ H) (h2 : ¬ P → D.nx σ H) : WB W m tb D (decide P) σ H := by
  by_cases h : P
  · rw [decide_eq_true h]
    exact iWT (h1 h)
  · rw [decide_eq_false h]
    exact iWF (h2 h)
theorem iWDN {P : Prop} [Decidable P] {W : Nat → L2.St → Hp → Prop} {m : Nat} {tb : TS} (h1 : ¬ P → tb { nx := Less W m, rt := D.rt, bk := D.nx, ct := Less W m } σ H) (h2 : P → D.nx σ H) : WB W m tb D (!decide P) σ H := by
  by_cases h : P
  · rw [decide_eq_true h]
    exact iWF (h2 h)
  · rw [decide_eq_false h]
    exact iWT (h1 h)
theorem while_w {c : TT} {tb : TS} (W : Nat → L2.St → Hp → Prop) (h0 : ∃ m, W m σ H) (hs : ∀ m σ H, W m σ H → c σ H fun b H1 => WB W m tb D b σ H1) : tWhile c tb D σ H := ⟨W, h0, hs⟩
/-! heaps -/
theorem upd_old {p x : Addr} {o u : HO} (hp : H p = none) (h : H x = some u) : upd H p o x = some u := by
  rw [upd_ne (ne_of_none h hp)]
  exact h
theorem upd_oth {p x : Addr} {o u : HO} (hp : x ≠ p) (h : H x = some u) : upd H p o x = some u := by rw [upd_ne hp]; exact h
theorem Same.get {H' : Hp} {x : Addr} {u : HO} (s : Same H H') (h : H x = some u) : H' x = some u := s _ _ h
/-- all but the listed stand as they stood -/
def Fr (L : List Addr) (H H' : Hp) : Prop := ∀ x u, x ∉ L → H x = some u → H' x = some u
theorem Fr.get {H' : Hp} {L : List Addr} {x : Addr} {u : HO} (s : Fr L H H') (hx : x ∉ L) (h : H x = some u) : H' x = some u := s _ _ hx h
theorem Fr.refl (L : List Addr) (H : Hp) : Fr L H H := fun _ _ _ h => h
theorem Fr.trans {L : List Addr} {H H1 H2 : Hp} (a : Fr L H H1) (b : Fr L H1 H2) : Fr L H H2 := fun x u n h => b x u n (a x u n h)
theorem Fr.of_same {L : List Addr} {H H1 : Hp} (a : Same H H1) : Fr L H H1 := fun x u _ h => a x u h
theorem Fr.upd_in {L : List Addr} {H : Hp} {p : Addr} {o : HO} (hp : p ∈ L) : Fr L H (upd H p o) := fun x u n h => upd_oth (fun z => n (z ▸ hp)) h
theorem Fr.upd_new {L : List Addr} {H : Hp} {p : Addr} {o : HO} (hp : H p = none) : Fr L H (upd H p o) := fun x u _ h => upd_old hp h
theorem Fr.mono {L M : List Addr} {H H1 : Hp} (a : Fr L H H1) (h : ∀ x ∈ L, x ∈ M) : Fr M H H1 := fun x u n e => a x u (fun z => n (h x z)) e
theorem Fr.in0 {L : List Addr} {H : Hp} {p : Addr} {o : HO} : Fr (p :: L) H (upd H p o) := Fr.upd_in List.mem_cons_self
theorem Fr.in1 {L : List Addr} {H : Hp} {p q : Addr} {o : HO} : Fr (q :: p :: L) H (upd H p o) := Fr.upd_in (List.mem_cons_of_mem _ List.mem_cons_self)
theorem Fr.in2 {L : List Addr} {H : Hp} {p q r : Addr} {o : HO} : Fr (q :: r :: p :: L) H (upd H p o) := Fr.upd_in (List.mem_cons_of_mem _ (List.mem_cons_of_mem _ List.mem_cons_self))
theorem Fr.wk {L : List Addr} {H H1 : Hp} {p : Addr} (h : Fr L H H1) : Fr (p :: L) H H1 := h.mono fun _ hx => List.mem_cons_of_mem _ hx
theorem Fr.wk1 {H H1 : Hp} {p q : Addr} (h : Fr [p] H H1) : Fr [p, q] H H1 := h.mono fun x hx => by
  rw [List.mem_singleton] at hx
  subst hx
  exact List.mem_cons_self
theorem Same.upd_new {H : Hp} {p : Addr} {o : HO} (hp : H p = none) : Same H (upd H p o) := fun x u h => upd_old hp h
theorem Same.tr {H H1 H2 : Hp} (a : Same H H1) (b : Same H1 H2) : Same H H2 := fun x u h => b x u (a x u h)
theorem Fr.same {H H1 : Hp} (a : Fr [] H H1) : Same H H1 := fun x u h => a x u (List.not_mem_nil) h
theorem Fr.none {L : List Addr} {H H1 : Hp} {x : Addr} (a : Fr L H H1) (hx : x ∉ L) (h : H1 x = none) : H x = none := by
  cases e : H x with
  | none => rfl
  | some u => rw [a x u hx e] at h; cases h
end
end Vk
/-! the walk -/
section
open Vk L2
local macro_rules | `(tactic| walk_at "lk") => `(tactic| first
  | assumption
  | exact upd_same
  | (refine upd_old (by assumption) ?_; walk_at "lk")
  | (refine upd_oth (by first | assumption | (apply Ne.symm; assumption)) ?_; walk_at "lk")
  | (refine Same.get (by assumption) ?_; walk_at "lk"))
example {H : L2.Hp} {a p : PySem.Addr} {o u : L2.HO} (h : H a = some u) (hp : H p = none) : L2.upd H p o a = some u := by walk_at "lk"
end
set_option Elab.async false
set_option linter.all false
set_option maxRecDepth 100000
set_option maxHeartbeats 4000000
namespace Vk
open PySem PySem.Spec PyProof.Rows L2
/-! V1: texts as lists of signs -/
theorem S_le {l : List Nat} (h : l.length ≤ 100000) : (S l).length ≤ sizeLine := by rw [S_len, sizeLine_eq]; omega
def rAddS : R2 := fun x y H Q => ∃ a b : List Nat, x = .str (S a) ∧ y = .str (S b) ∧ a.length + b.length ≤ 100000 ∧ Q (.str (S (a ++ b))) H
theorem op_addS {X : Cx} : OpR X (binaryOp .Add) rAddS := by
  intro pins s σ H x y v u Q I rx ry h
  obtain ⟨a, b, rfl, rfl, hz, q⟩ := h
  refine op_add_str pins s σ H _ _ v u Q I rx ry ⟨S a, S b, rfl, rfl, ?_, ?_⟩
  · rw [S_len, S_len, sizeLine_eq]; omega
  · rw [S_app]; exact q
def rLenS1 : List V → Hp → VK → Prop := fun xs H Q => ∃ l : List Nat, xs = [.str (S l)] ∧ l.length ≤ 100000 ∧ Q (.int (l.length : Nat)) H
theorem call_lenS {X : Cx} : CallR X (.builtin "len") rLenS1 := by
  intro pins s σ H xs us Q I r h
  obtain ⟨l, rfl, hz, q⟩ := h
  refine call_len_str pins s σ H _ us Q I r ⟨S l, rfl, S_le hz, ?_⟩
  rw [S_len]
  exact q
def rInS (neg : Bool) : R2 := fun x y H Q => ∃ (c : Nat) (l : List Nat), x = .str (S [c]) ∧ y = .str (S l) ∧ Q (.bl (if neg then !decide (c ∈ l) else decide (c ∈ l))) H
theorem op_inS {X : Cx} : OpR X (compareOp .In) (rInS false) := by
  intro pins s σ H x y v u Q I rx ry h
  obtain ⟨c, l, rfl, rfl, q⟩ := h
  exact op_in_sign pins s σ H _ _ v u Q I rx ry ⟨c, S l, rfl, rfl, by simpa [S_cps] using q⟩
theorem op_notInS {X : Cx} : OpR X (compareOp .NotIn) (rInS true) := by
  intro pins s σ H x y v u Q I rx ry h
  obtain ⟨c, l, rfl, rfl, q⟩ := h
  exact op_notIn_sign pins s σ H _ _ v u Q I rx ry ⟨c, S l, rfl, rfl, by simpa [S_cps] using q⟩
/-! the place of a sign -/
def n1 (l : List Nat) (c : Nat) : Nat := (l.takeWhile (· != c)).length
theorem n1_le (l : List Nat) (c : Nat) : n1 l c ≤ l.length := (List.takeWhile_prefix _).length_le
theorem n1_nil (c : Nat) : n1 [] c = 0 := rfl
theorem n1_cons (x : Nat) (l : List Nat) (c : Nat) : n1 (x :: l) c = if x = c then 0 else n1 l c + 1 := by
  unfold n1
  rw [List.takeWhile_cons]
  by_cases h : x = c
  · rw [if_pos h]
    simp [h]
  · rw [if_neg h]
    simp [h]
theorem n1_mem {l : List Nat} {c : Nat} : c ∈ l ↔ n1 l c < l.length := by
  induction l with
  | nil => simp [n1]
  | cons x r ih =>
    rw [n1_cons, List.mem_cons, List.length_cons]
    by_cases h : x = c
    · rw [if_pos h]
      simp [h]
    · rw [if_neg h]
      have h2 : ¬ c = x := fun z => h z.symm
      simp only [h2, false_or, ih]
      omega
theorem n1_not {l : List Nat} {c : Nat} (h : c ∉ l) : n1 l c = l.length := by
  have h1 := n1_le l c
  have h2 : ¬ n1 l c < l.length := fun z => h (n1_mem.mpr z)
  omega
theorem n1_at {l : List Nat} {c : Nat} (h : c ∈ l) : l[n1 l c]? = some c := by
  induction l with
  | nil => cases h
  | cons x r ih =>
    rw [n1_cons]
    by_cases hx : x = c
    · rw [if_pos hx, hx]
      rfl
    · rw [if_neg hx, List.getElem?_cons_succ]
      refine ih ?_
      rcases List.mem_cons.mp h with h | h
      · exact absurd h.symm hx
      · exact h
theorem n1_before {l : List Nat} {c k : Nat} (h : k < n1 l c) : l[k]? ≠ some c := by
  induction l generalizing k with
  | nil => simp
  | cons x r ih =>
    rw [n1_cons] at h
    by_cases hx : x = c
    · rw [if_pos hx] at h
      omega
    · rw [if_neg hx] at h
      cases k with
      | zero => simpa using hx
      | succ k =>
        rw [List.getElem?_cons_succ]
        exact ih (by omega)
theorem n1_eq {l : List Nat} {c k : Nat} (h : l[k]? = some c) (hb : ∀ j, j < k → l[j]? ≠ some c) : n1 l c = k := by
  have hm : c ∈ l := List.mem_of_getElem? h
  have h1 := n1_at hm
  rcases Nat.lt_trichotomy (n1 l c) k with h2 | h2 | h2
  · exact absurd h1 (hb _ h2)
  · exact h2
  · exact absurd h (n1_before h2)
theorem at_one (l : List Nat) (c i : Nat) : StrLaws.At (S l) (S [c]) (S l).length i ↔ l[i]? = some c := by
  have h := StrLaws.subAt_one (S l) c i
  rw [show (⟨#[c]⟩ : Str) = S [c] from rfl] at h
  rw [S_cps] at h
  exact h
theorem findS (l : List Nat) (c : Nat) : Txt.find (S l) (S [c]) = if c ∈ l then (n1 l c : Int) else -1 := by
  unfold Txt.find
  rcases StrLaws.occ_head (S l) (S [c]) 1 (Nat.le_refl 1) with ⟨h0, hn⟩ | ⟨i, r, h0, hi, hn⟩
  · rw [h0]
    have hc : c ∉ l := fun hm => by
      obtain ⟨j, hj⟩ := List.getElem?_of_mem hm
      exact hn j ((at_one l c j).mpr hj)
    rw [if_neg hc]
  · rw [h0]
    have h1 := (at_one l c i).mp hi
    rw [if_pos (List.mem_of_getElem? h1), n1_eq h1 fun j hj e => hn j hj ((at_one l c j).mpr e)]
theorem startsS (l : List Nat) (c : Nat) : Txt.startswith (S l) (S [c]) = decide (l[0]? = some c) := by
  have h := at_one l c 0
  unfold StrLaws.At at h
  unfold Txt.startswith
  rw [Bool.eq_iff_iff, Bool.and_eq_true, decide_eq_true_eq, decide_eq_true_eq]
  exact h
theorem partS (l : List Nat) (c : Nat) : (Txt.partition (S l) (S [c])).1 = S (l.take (n1 l c)) := by
  have ey : TL.tl (S [c]) = c :: [] := by simp [TL.tl, S]
  by_cases h : c ∈ l
  · have h1 := n1_at h
    have hlt : n1 l c < l.length := n1_mem.mp h
    have e : S l = S (l.take (n1 l c)) ++ S [c] ++ S (l.drop (n1 l c + 1)) := by
      rw [S_app, S_app]
      congr 1
      have e2 : l.drop (n1 l c) = c :: l.drop (n1 l c + 1) := by
        rw [List.drop_eq_getElem_cons hlt]
        rw [List.getElem?_eq_getElem hlt] at h1
        rw [Option.some.inj h1]
      rw [List.append_assoc, List.singleton_append, ← e2, List.take_append_drop]
    have hno : c ∉ TL.tl (S (l.take (n1 l c))) := by
      have : TL.tl (S (l.take (n1 l c))) = l.take (n1 l c) := by simp [TL.tl, S]
      rw [this]
      intro hm
      obtain ⟨j, hj⟩ := List.getElem?_of_mem hm
      have hj2 : j < n1 l c := by
        have := (List.getElem?_eq_some_iff.mp hj).1
        rw [List.length_take] at this
        omega
      rw [List.getElem?_take_of_lt hj2] at hj
      exact n1_before hj2 hj
    have q := TL.partition_app (y := S [c]) ey (a := S (l.take (n1 l c))) (b := S (l.drop (n1 l c + 1))) hno
    rw [← e] at q
    rw [q]
  · have hno : c ∉ TL.tl (S l) := by
      have : TL.tl (S l) = l := by simp [TL.tl, S]
      rw [this]
      exact h
    rw [TL.partition_none ey hno, n1_not h, List.take_length]
/-! cuts -/
section
variable {H : Hp} {Q : VK} {l : List Nat} {i j : Int} {m n : Nat}
theorem iSlTo (hz : l.length ≤ 100000) (e : i = (n : Int)) (h : Q (.str (S (l.take n))) H) : rSlS (.str (S l)) none (some i) H Q := by
  subst e
  refine ⟨S l, rfl, S_le hz, ?_⟩
  rw [S_to]
  exact h
theorem iSlFrom (hz : l.length ≤ 100000) (e : i = (n : Int)) (h : Q (.str (S (l.drop n))) H) : rSlS (.str (S l)) (some i) none H Q := by
  subst e
  refine ⟨S l, rfl, S_le hz, ?_⟩
  rw [S_from]
  exact h
theorem S_mid (l : List Nat) (m n : Nat) : cutS (S l) (some (m : Int)) (some (n : Int)) = S ((l.take n).drop m) := by
  rw [S_cut]
  have e1 : HT.sIx l.length 0 (some (m : Int)) = min m l.length := by
    have q := S_from l m
    unfold HT.sIx
    simp only []
    split
    · omega
    · omega
  have e2 : HT.sIx l.length l.length (some (n : Int)) = min n l.length := by
    unfold HT.sIx
    simp only []
    split
    · omega
    · omega
  rw [e1, e2]
  congr 1
  rw [List.drop_take]
  by_cases h : m ≤ l.length
  · rw [Nat.min_eq_left h]
    by_cases h2 : n ≤ l.length
    · rw [Nat.min_eq_left h2]
    · rw [Nat.min_eq_right (Nat.le_of_not_le h2)]
      have h3 : (l.drop m).length = l.length - m := List.length_drop
      rw [List.take_of_length_le (Nat.le_of_eq h3), List.take_of_length_le (by omega)]
  · rw [Nat.min_eq_right (Nat.le_of_not_le h), List.drop_of_length_le (Nat.le_refl _), List.drop_of_length_le (Nat.le_of_not_le h)]
    simp
theorem iSlMid (hz : l.length ≤ 100000) (e1 : i = (m : Int)) (e2 : j = (n : Int)) (h : Q (.str (S ((l.take n).drop m))) H) : rSlS (.str (S l)) (some i) (some j) H Q := by
  subst e1 e2
  refine ⟨S l, rfl, S_le hz, ?_⟩
  rw [S_mid]
  exact h
end
theorem iAddS {a b : List Nat} {H : Hp} {Q : VK} (hz : a.length + b.length ≤ 100000) (h : Q (.str (S (a ++ b))) H) : rAddS (.str (S a)) (.str (S b)) H Q := ⟨a, b, rfl, rfl, hz, h⟩
theorem iLenS1 {l : List Nat} {H : Hp} {Q : VK} (hz : l.length ≤ 100000) (h : Q (.int (l.length : Nat)) H) : rLenS1 [.str (S l)] H Q := ⟨l, rfl, hz, h⟩
theorem iInS {c : Nat} {l : List Nat} {H : Hp} {Q : VK} (h : Q (.bl (decide (c ∈ l))) H) : rInS false (.str (S [c])) (.str (S l)) H Q := ⟨c, l, rfl, rfl, by simpa using h⟩
theorem iNotInS {c : Nat} {l : List Nat} {H : Hp} {Q : VK} (h : Q (.bl (!decide (c ∈ l))) H) : rInS true (.str (S [c])) (.str (S l)) H Q := ⟨c, l, rfl, rfl, by simpa using h⟩
def rFindS : V → List V → Hp → VK → Prop := fun x xs H Q => ∃ (l : List Nat) (c : Nat), x = .str (S l) ∧ xs = [.str (S [c])] ∧ Q (.int (if c ∈ l then (n1 l c : Int) else -1)) H
theorem mt_findS {X : Cx} : MtR X "str.find" rFindS := by
  intro pins s σ H x xs v us Q I rx rs h
  obtain ⟨l, c, rfl, rfl, q⟩ := h
  exact mt_find pins s σ H _ _ v us Q I rx rs ⟨_, _, rfl, rfl, by rw [findS]; exact q⟩
def rStartS : V → List V → Hp → VK → Prop := fun x xs H Q => ∃ (l : List Nat) (c : Nat), x = .str (S l) ∧ xs = [.str (S [c])] ∧ Q (.bl (decide (l[0]? = some c))) H
theorem mt_startS {X : Cx} : MtR X "str.startswith" rStartS := by
  intro pins s σ H x xs v us Q I rx rs h
  obtain ⟨l, c, rfl, rfl, q⟩ := h
  exact mt_startswith pins s σ H _ _ v us Q I rx rs ⟨_, _, rfl, rfl, by rw [startsS]; exact q⟩
def rPartS : V → List V → Hp → VK → Prop := fun x xs H Q => ∃ (l : List Nat) (c : Nat), x = .str (S l) ∧ xs = [.str (S [c])] ∧ l.length ≤ 100000 ∧ ∀ p, H p = none → ∀ y z : V, Q (.ref p) (upd H p (.tup [.str (S (l.take (n1 l c))), y, z]))
theorem mt_partS {X : Cx} : MtR X "str.partition" rPartS := by
  intro pins s σ H x xs v us Q I rx rs h
  obtain ⟨l, c, rfl, rfl, hz, q⟩ := h
  exact mt_partition pins s σ H _ _ v us Q I rx rs ⟨_, _, rfl, rfl, rfl, S_le hz, fun p hp => by rw [partS]; exact q p hp _ _⟩
theorem iFindS {c : Nat} {l : List Nat} {H : Hp} {Q : VK} (h : Q (.int (if c ∈ l then (n1 l c : Int) else -1)) H) : rFindS (.str (S l)) [.str (S [c])] H Q := ⟨l, c, rfl, rfl, h⟩
theorem iFindYes {c : Nat} {l : List Nat} {H : Hp} {Q : VK} (hc : c ∈ l) (h : Q (.int (n1 l c : Nat)) H) : rFindS (.str (S l)) [.str (S [c])] H Q := iFindS (by rw [if_pos hc]; exact h)
theorem iFindNo {c : Nat} {l : List Nat} {H : Hp} {Q : VK} (hc : ¬ c ∈ l) (h : Q (.int (-1)) H) : rFindS (.str (S l)) [.str (S [c])] H Q := iFindS (by rw [if_neg hc]; exact h)
theorem iStartS {c : Nat} {l : List Nat} {H : Hp} {Q : VK} (h : Q (.bl (decide (l[0]? = some c))) H) : rStartS (.str (S l)) [.str (S [c])] H Q := ⟨l, c, rfl, rfl, h⟩
theorem iPartS {c : Nat} {l : List Nat} {H : Hp} {Q : VK} (hz : l.length ≤ 100000) (h : ∀ p, H p = none → ∀ y z : V, Q (.ref p) (upd H p (.tup [.str (S (l.take (n1 l c))), y, z]))) : rPartS (.str (S l)) [.str (S [c])] H Q := ⟨l, c, rfl, rfl, hz, h⟩
theorem inV_S (t : List Nat) : ∀ us : List (List Nat), inV (.str (S t)) (us.map fun l => V.str (S l)) = decide (t ∈ us)
  | [] => rfl
  | u :: r => by
    have ih := inV_S t r
    unfold inV at ih ⊢
    rw [List.map_cons, List.any_cons, ih]
    have e : eqV (V.str (S u)) (V.str (S t)) = decide (t = u) := by
      show (S u == S t) = _
      by_cases h : t = u
      · subst h
        simp
      · have h2 : S u ≠ S t := fun e => h (S_inj.mp e).symm
        rw [beq_eq_false_iff_ne.mpr h2, decide_eq_false h]
    rw [e, Bool.eq_iff_iff]
    simp
/-- a text among written texts -/
theorem iInL {K : PySem.W.Frag} {p : Addr} {t : List Nat} {us : List (List Nat)} {xs : List V} {H : Hp} {Q : VK} (hq : SqL K H p xs ∨ SqT K H p xs) (hx : xs = us.map fun l => V.str (S l)) (h : Q (.bl (decide (t ∈ us))) H) : rIn K false (.str (S t)) (.ref p) H Q := by
  subst hx
  refine ⟨p, _, rfl, hq, rfl, ?_, ?_⟩
  · rw [List.all_map]
    simp [flatV]
  · rw [if_neg Bool.false_ne_true, inV_S]
    exact h
theorem iNInL {K : PySem.W.Frag} {p : Addr} {t : List Nat} {us : List (List Nat)} {xs : List V} {H : Hp} {Q : VK} (hq : SqL K H p xs ∨ SqT K H p xs) (hx : xs = us.map fun l => V.str (S l)) (h : Q (.bl (!decide (t ∈ us))) H) : rIn K true (.str (S t)) (.ref p) H Q := by
  subst hx
  refine ⟨p, _, rfl, hq, rfl, ?_, ?_⟩
  · rw [List.all_map]
    simp [flatV]
  · rw [if_pos rfl, inV_S]
    exact h
end Vk
set_option Elab.async false
set_option linter.all false
set_option maxRecDepth 100000
set_option maxHeartbeats 4000000
namespace Vk
open PySem PySem.Spec PyProof.Rows L2
/-! V2: isinstance -/
section
variable {K : PySem.W.Frag} {H : Hp} {Q : VK}
theorem isi_int_int {i : Int} (h : Q (.bl true) H) : rIsi K [.int i, .ty "int"] H Q := ⟨_, _, _, _, true, rfl, .ty "int", .base (.int i), rfl, h⟩
theorem isi_int_bool {i : Int} (h : Q (.bl false) H) : rIsi K [.int i, .ty "bool"] H Q := ⟨_, _, _, _, false, rfl, .ty "bool", .base (.int i), rfl, h⟩
theorem isi_int_str {i : Int} (h : Q (.bl false) H) : rIsi K [.int i, .ty "str"] H Q := ⟨_, _, _, _, false, rfl, .ty "str", .base (.int i), rfl, h⟩
theorem isi_str_str {z : Str} (h : Q (.bl true) H) : rIsi K [.str z, .ty "str"] H Q := ⟨_, _, _, _, true, rfl, .ty "str", .base (.str z), rfl, h⟩
theorem isi_str_int {z : Str} (h : Q (.bl false) H) : rIsi K [.str z, .ty "int"] H Q := ⟨_, _, _, _, false, rfl, .ty "int", .base (.str z), rfl, h⟩
theorem isi_str_bool {z : Str} (h : Q (.bl false) H) : rIsi K [.str z, .ty "bool"] H Q := ⟨_, _, _, _, false, rfl, .ty "bool", .base (.str z), rfl, h⟩
theorem isi_bl_bool {b : Bool} (h : Q (.bl true) H) : rIsi K [.bl b, .ty "bool"] H Q := ⟨_, _, _, _, true, rfl, .ty "bool", .base (.bl b), rfl, h⟩
theorem isi_bl_int {b : Bool} (h : Q (.bl true) H) : rIsi K [.bl b, .ty "int"] H Q := ⟨_, _, _, _, true, rfl, .ty "int", .base (.bl b), rfl, h⟩
theorem isi_bl_str {b : Bool} (h : Q (.bl false) H) : rIsi K [.bl b, .ty "str"] H Q := ⟨_, _, _, _, false, rfl, .ty "str", .base (.bl b), rfl, h⟩
end
end Vk
set_option Elab.async false
set_option linter.all false
set_option maxRecDepth 100000
set_option maxHeartbeats 4000000
namespace Vk
open PySem PySem.Spec PyProof.Rows L2
/-! V3: comprehensions, loops, texts joined -/
theorem SqL.off {K : PySem.W.Frag} {H1 H2 : Hp} {a D : Addr} {xs : List V} (h : SqL K H1 a xs) (hD : H1 D = none) (off : ∀ b, b ≠ D → H2 b = H1 b) : SqL K H2 a xs := by
  rcases h with h | h
  · refine .inl ?_
    rcases h with h | ⟨o, h⟩
    · exact .inl ((off a (ne_of_none h hD)).trans h)
    · exact .inr ⟨o, (off a (ne_of_none h hD)).trans h⟩
  · exact .inr h
theorem SqL.same {K : PySem.W.Frag} {H1 H2 : Hp} {a : Addr} {xs : List V} (h : SqL K H1 a xs) (s : Same H1 H2) : SqL K H2 a xs := by
  rcases h with h | h
  · refine .inl ?_
    rcases h with h | ⟨o, h⟩
    · exact .inl (s _ _ h)
    · exact .inr ⟨o, s _ _ h⟩
  · exact .inr h
section
variable {K : PySem.W.Frag} {σ : L2.St} {H H1 : Hp} {Q : VK} {te tl : TE} {tt : TT} {vs : List Nat} {g : TG} {ta : TA}
/-- the loop of a comprehension, for the walk to stop at -/
def LcG (J : It) (g : TG) (tt : TT) (te : TE) (vs : List Nat) (σ : L2.St) (H1 : Hp) (D : Addr) (Q : VK) : Prop := ∃ W : Nat → Nat → Hp → Prop, (∃ m, W 0 m (upd H1 D (.lst []))) ∧ ∀ i m H, W i m H →
  (J.stop i H ∧ Q (.ref D) H) ∨ (J.go i H ∧ ∃ Nx : Hp → Prop, (∀ H', Nx H' → ∃ m', m' < m ∧ W (i + 1) m' H') ∧ ∀ x H', J.yld i H x H' → g x (wipe σ vs) H' fun σ2 H2 => wipe σ2 vs = wipe σ vs ∧ tt σ2 H2 fun b H3 =>
    if b = true then te σ2 H3 fun y H4 => ∃ acc, H4 D = some (.lst acc) ∧ acc.length < sizeLine ∧ Nx (upd H4 D (.lst (acc ++ [y]))) else Nx H3)
theorem iLcL (h : tl σ H fun x H1 => ∃ a, x = .ref a ∧ (∃ xs, SqL K H1 a xs) ∧ ∀ D, H1 D = none → LcG (Itl K a) g tt te vs σ H1 D Q) : tLc (iList K tl) g tt te vs σ H Q := h
theorem iLcS (h : tl σ H fun x H1 => ∃ z, x = .str z ∧ ∀ D, H1 D = none → LcG (Its z) g tt te vs σ H1 D Q) : tLc (iStr tl) g tt te vs σ H Q := h
theorem iLcR1 (h : ta σ H fun ws H1 => ∃ j : Int, ws = [.int j] ∧ -(2 ^ 62) ≤ j ∧ j < 2 ^ 62 ∧ ∀ D, H1 D = none → LcG (Itr 0 j.toNat) g tt te vs σ H1 D Q) : tLc (iRng1 ta) g tt te vs σ H Q := h
/-- a comprehension over a list that stands still, nothing else done -/
theorem lcg_list {a D : Addr} {xs : List V} {j : Nat} (p : V → Bool) (v : V → V) (hl : xs.length ≤ 4000) (hx : SqL K H1 a xs) (hD : H1 D = none)
    (hw : ∀ x, wipe ((wipe σ vs).set j (some x)) vs = wipe σ vs)
    (ht : ∀ x ∈ xs, ∀ (H2 : Hp) (Q : Bool → Hp → Prop), (∀ b, b ≠ D → H2 b = H1 b) → Q (p x) H2 → tt ((wipe σ vs).set j (some x)) H2 Q)
    (he : ∀ x ∈ xs, p x = true → ∀ (H2 : Hp) (Q : VK), (∀ b, b ≠ D → H2 b = H1 b) → Q (v x) H2 → te ((wipe σ vs).set j (some x)) H2 Q)
    (hq : Q (.ref D) (upd H1 D (.lst ((xs.filter p).map v)))) : LcG (Itl K a) (gName j) tt te vs σ H1 D Q := by
  refine lc_it (walk_list (K := K) (a := a) (xs := xs)) (fun i H => H = upd H1 D (.lst (((xs.take i).filter p).map v))) rfl (fun i H hi e => ?_) ?_ ?_
  · subst e
    exact SqL.off hx hD fun b hb => upd_ne hb
  · rintro i x H H' hi hP ⟨rfl, hc⟩
    subst hP
    have hm : x ∈ xs := List.mem_of_getElem? hc
    have off : ∀ b, b ≠ D → (upd H1 D (.lst (((xs.take i).filter p).map v))) b = H1 b := fun b hb => upd_ne hb
    have e1 : xs.take (i + 1) = xs.take i ++ [x] := by
      rw [List.take_add_one, hc]
      rfl
    refine ⟨hw _, ht x hm _ _ off ?_⟩
    by_cases hp : p x = true
    · rw [if_pos hp]
      refine he x hm hp _ _ off ⟨_, upd_same, ?_, ?_⟩
      · rw [List.length_map, sizeLine_eq]
        have h1 := List.length_filter_le p (xs.take i)
        rw [List.length_take] at h1
        omega
      · rw [upd_upd, e1, List.filter_append, List.filter_cons_of_pos hp, List.filter_nil, List.map_append]
        rfl
    · rw [if_neg hp, e1, List.filter_append, List.filter_cons_of_neg hp, List.filter_nil, List.append_nil]
  · rintro H rfl
    rw [List.take_length]
    exact hq
/-! for -/
/-- the loop of a for, for the walk to stop at -/
def ForG (J : It) (g : TG) (tb : TS) (D : Ends) (σ : L2.St) (H1 : Hp) : Prop := ∃ W : Nat → Nat → L2.St → Hp → Prop, (∃ m, W 0 m σ H1) ∧ ∀ i m σ H, W i m σ H →
  (J.stop i H ∧ D.nx σ H) ∨ (J.go i H ∧ ∃ N : L2.St → Hp → Prop, (∀ σ' H', N σ' H' → ∃ m', m' < m ∧ W (i + 1) m' σ' H') ∧ ∀ x H', J.yld i H x H' → g x σ H' fun σ2 H2 => tb { D with nx := N, ct := N, bk := D.nx } σ2 H2)
theorem iForL {D : Ends} {tb : TS} (h : tl σ H fun x H1 => ∃ a, x = .ref a ∧ (∃ xs, SqL K H1 a xs) ∧ ForG (Itl K a) g tb D σ H1) : tFor (iList K tl) g tb D σ H := h
theorem iForS {D : Ends} {tb : TS} (h : tl σ H fun x H1 => ∃ z, x = .str z ∧ ForG (Its z) g tb D σ H1) : tFor (iStr tl) g tb D σ H := h
theorem iForR1 {D : Ends} {tb : TS} (h : ta σ H fun ws H1 => ∃ j : Int, ws = [.int j] ∧ -(2 ^ 62) ≤ j ∧ j < 2 ^ 62 ∧ ForG (Itr 0 j.toNat) g tb D σ H1) : tFor (iRng1 ta) g tb D σ H := h
theorem iForR2 {D : Ends} {tb : TS} (h : ta σ H fun ws H1 => ∃ i j : Int, ws = [.int i, .int j] ∧ (-(2 ^ 62) ≤ i ∧ i < 2 ^ 62 ∧ -(2 ^ 62) ≤ j ∧ j < 2 ^ 62) ∧ ForG (Itr i (j - i).toNat) g tb D σ H1) : tFor (iRng2 ta) g tb D σ H := h
/-- a loop over a text -/
theorem for_S {D : Ends} {tb : TS} {l : List Nat} (Pv : Nat → L2.St → Hp → Prop) (h0 : Pv 0 σ H)
    (hs : ∀ i c σ H, l[i]? = some c → Pv i σ H → g (.str (S [c])) σ H fun σ2 H2 => tb { nx := Pv (i + 1), rt := D.rt, bk := D.nx, ct := Pv (i + 1) } σ2 H2) (hd : ∀ σ H, Pv l.length σ H → D.nx σ H) : ForG (Its (S l)) g tb D σ H := by
  refine for_it walk_str Pv h0 (fun _ _ _ _ _ => trivial) ?_ ?_
  · rintro i x σ H H' hi hP ⟨rfl, c, hc, rfl⟩
    exact hs i c σ _ (S_get.mp hc) hP
  · intro σ H h
    rw [S_size] at h
    exact hd σ H h
/-- a loop over range(n) -/
theorem for_R {D : Ends} {tb : TS} {lo : Int} {n : Nat} (Pv : Nat → L2.St → Hp → Prop) (h0 : Pv 0 σ H)
    (hs : ∀ i σ H, i < n → Pv i σ H → g (.int (lo + (i : Int))) σ H fun σ2 H2 => tb { nx := Pv (i + 1), rt := D.rt, bk := D.nx, ct := Pv (i + 1) } σ2 H2) (hd : ∀ σ H, Pv n σ H → D.nx σ H) : ForG (Itr lo n) g tb D σ H :=
  for_range Pv h0 hs hd
/-- a loop over a list -/
theorem for_L {D : Ends} {tb : TS} {a : Addr} {xs : List V} (Pv : Nat → L2.St → Hp → Prop) (h0 : Pv 0 σ H) (hl : ∀ i σ H, i ≤ xs.length → Pv i σ H → SqL K H a xs)
    (hs : ∀ i x σ H, xs[i]? = some x → Pv i σ H → g x σ H fun σ2 H2 => tb { nx := Pv (i + 1), rt := D.rt, bk := D.nx, ct := Pv (i + 1) } σ2 H2) (hd : ∀ σ H, Pv xs.length σ H → D.nx σ H) : ForG (Itl K a) g tb D σ H :=
  for_list Pv h0 hl hs hd
/-- a comprehension over range(n), which may change the heap -/
theorem lcg_R {D : Addr} {n j : Nat} {lo : Int} (Pv : Nat → Hp → Prop) (h0 : Pv 0 (upd H1 D (.lst []))) (hw : ∀ x, wipe ((wipe σ vs).set j (some x)) vs = wipe σ vs)
    (hs : ∀ i H, i < n → Pv i H → tt ((wipe σ vs).set j (some (.int (lo + (i : Int))))) H fun b H3 => if b = true then te ((wipe σ vs).set j (some (.int (lo + (i : Int))))) H3 fun y H4 => ∃ acc, H4 D = some (.lst acc) ∧ acc.length < sizeLine ∧ Pv (i + 1) (upd H4 D (.lst (acc ++ [y]))) else Pv (i + 1) H3)
    (hd : ∀ H, Pv n H → Q (.ref D) H) : LcG (Itr lo n) (gName j) tt te vs σ H1 D Q := by
  refine lc_it walk_range Pv h0 (fun _ _ _ _ => trivial) ?_ hd
  rintro i x H H' hi hP ⟨rfl, rfl⟩
  exact ⟨hw _, hs i _ hi hP⟩
/-- .. over a text -/
theorem lcg_S {D : Addr} {j : Nat} {l : List Nat} (Pv : Nat → Hp → Prop) (h0 : Pv 0 (upd H1 D (.lst []))) (hw : ∀ x, wipe ((wipe σ vs).set j (some x)) vs = wipe σ vs)
    (hs : ∀ i c H, l[i]? = some c → Pv i H → tt ((wipe σ vs).set j (some (.str (S [c])))) H fun b H3 => if b = true then te ((wipe σ vs).set j (some (.str (S [c])))) H3 fun y H4 => ∃ acc, H4 D = some (.lst acc) ∧ acc.length < sizeLine ∧ Pv (i + 1) (upd H4 D (.lst (acc ++ [y]))) else Pv (i + 1) H3)
    (hd : ∀ H, Pv l.length H → Q (.ref D) H) : LcG (Its (S l)) (gName j) tt te vs σ H1 D Q := by
  refine lc_it walk_str Pv h0 (fun _ _ _ _ => trivial) ?_ ?_
  · rintro i x H H' hi hP ⟨rfl, c, hc, rfl⟩
    exact ⟨hw _, hs i c _ (S_get.mp hc) hP⟩
  · intro H h
    rw [S_size] at h
    exact hd H h
theorem iYes {Q : Bool → Hp → Prop} (h : Q true H) : tYes σ H Q := h
end
/-- what was new is forgotten -/
theorem Fr.forget {L M : List Addr} {H H' : Hp} (f : Fr M H H') (h : ∀ x ∈ M, x ∈ L ∨ H x = Option.none) : Fr L H H' := fun x u hx e => f x u (fun hm => by
  rcases h x hm with h | h
  · exact hx h
  · rw [e] at h
    cases h) e
theorem Fr.forget2 {b D : Addr} {H H' : Hp} (f : Fr [b, D] H H') (h : H D = Option.none) : Fr [b] H H' := f.forget fun x hx => by
  rcases List.mem_cons.mp hx with rfl | hx
  · exact .inl List.mem_cons_self
  · rw [List.mem_singleton] at hx
    subst hx
    exact .inr h
theorem Fr.forget1 {D : Addr} {H H' : Hp} (f : Fr [D] H H') (h : H D = Option.none) : Same H H' := (f.forget (L := []) fun x hx => by
    rw [List.mem_singleton] at hx
    subst hx
    exact .inr h).same
/-- '' joins signs -/
theorem join_S {l : List Nat} (hl : l.length ≤ 4000) : (((l.map fun c => S [c]).map (·.length)).sum + (l.map fun c => S [c]).length * (S []).length ≤ 16777216) ∧ Txt.join (S []) (l.map fun c => S [c]) = S l := by
  refine ⟨?_, join_signs _⟩
  rw [S_len, List.length_nil, Nat.mul_zero, Nat.add_zero, List.map_map]
  have e1 : l.map ((fun x : Str => x.length) ∘ fun c => S [c]) = l.map fun _ => 1 := List.map_congr_left fun c _ => S_len [c]
  rw [e1]
  have e2 : (l.map fun _ => 1).sum = l.length := by
    clear hl e1
    induction l with
    | nil => rfl
    | cons x xs ih => rw [List.map_cons, List.sum_cons, ih, List.length_cons, Nat.add_comm]
  rw [e2]
  omega
theorem iJoinS {K : PySem.W.Frag} {p : Addr} {l : List Nat} {H : Hp} {Q : VK} (hq : SqL K H p (l.map fun c => V.str (S [c]))) (hl : l.length ≤ 4000) (h : Q (.str (S l)) H) :
    ∃ (a : Str) (q : Addr) (ys : List Str), V.str (S []) = .str a ∧ [V.ref p] = [.ref q] ∧ (SqL K H q (ys.map V.str) ∨ SqT K H q (ys.map V.str)) ∧ (ys.map (·.length)).sum + ys.length * a.length ≤ 16777216 ∧ Q (.str (Txt.join a ys)) H := by
  obtain ⟨h1, h2⟩ := join_S hl
  refine ⟨S [], p, l.map fun c => S [c], rfl, rfl, .inl ?_, h1, ?_⟩
  · rw [List.map_map]
    exact hq
  · rw [h2]
    exact h
end Vk
set_option Elab.async false
set_option linter.all false
set_option maxRecDepth 100000
set_option maxHeartbeats 4000000
namespace Vk
open PySem PySem.Spec PyProof.Rows L2
section
variable {X : Cx}
/-- list(text): its signs -/
theorem call_listT (hc : X.calm = true) : CallR X (.type "list") rListT := by
  intro pins s σ H xs us Q I r q
  obtain ⟨z, ex, hz, q⟩ := q
  subst ex
  obtain ⟨u, eu, rx⟩ := vals1 r
  subst eu
  obtain ⟨t, rfl⟩ := rx
  have hz2 : z.cps.size ≤ 4000 := hz
  refine call_list_str (hn := by rw [sizeLine_eq]; omega) (I.ok.hd hc) z t fun h' tk acc c' hk he hacc => ?_
  have hS := signs_strs hacc
  have hlen : ((signsOf z).map V.str).length ≤ sizeLine := by
    rw [List.length_map]
    unfold signsOf
    rw [List.length_map, Array.length_toList, sizeLine_eq]
    omega
  refine ⟨.ref s.heap.objs.size, upd H s.heap.objs.size (.lst ((signsOf z).map V.str)), I.laid (t' := tk) hk (Nat.le_refl _)
    (show ObjOk X.prog X.w _ _ _ (.lst ((signsOf z).map V.str)) from ⟨hlen, acc.toList, c', vals_of_strs hS, by rw [Array.toArray_toList]; exact he⟩), rfl, q _ (I.hok.fresh (Nat.le_refl _))⟩
def repL (n : Nat) (l : List Nat) : List Nat := (List.replicate n l).flatten
theorem repL_len (n : Nat) (l : List Nat) : (repL n l).length = n * l.length := by
  unfold repL
  rw [List.length_flatten, List.map_replicate, List.sum_replicate_nat]
theorem fold_rep (a : Array Nat) : ∀ (n : Nat) (acc : Array Nat), ((List.replicate n a).foldl (· ++ ·) acc).toList = acc.toList ++ (List.replicate n a.toList).flatten
  | 0, acc => by simp
  | n + 1, acc => by
    rw [List.replicate_succ, List.foldl_cons, fold_rep a n, List.replicate_succ, List.flatten_cons, Array.toList_append, List.append_assoc]
/-- text * number -/
def rMulT : R2 := fun x y H Q => ∃ (l : List Nat) (n : Nat), x = .str (S l) ∧ y = .int (n : Int) ∧ l.length * n ≤ 4000 ∧ n ≤ 4000 ∧ Q (.str (S (repL n l))) H
theorem op_mulT : OpR X (binaryOp .Mult) rMulT := by
  intro pins s σ H x y v u Q I rx ry h
  obtain ⟨l, n, rfl, rfl, hln, hn, q⟩ := h
  obtain ⟨t, rfl⟩ := rx
  obtain ⟨t', rfl⟩ := ry
  have hl := S_len l
  refine PySem.P.mul_str ?_ (fun h1 h2 => ?_) (fun h1 h2 => ?_) ?_
  · rw [decide_eq_false (by omega), decide_eq_false (by omega)]
    rfl
  · rw [hl]
    have h3 : (l.length : Int) ≤ (2 ^ 63 - 1) / (n : Int) := by
      refine Int.le_ediv_of_mul_le (by omega) ?_
      have : ((l.length * n : Nat) : Int) ≤ 4000 := by omega
      rw [Int.natCast_mul] at this
      omega
    omega
  · unfold PySem.Builtin.Str.tooLong
    rw [hl, Int.toNat_natCast, sizeLine_eq]
    exact decide_eq_false (by omega)
  · by_cases h1 : (n : Int) < 1
    · rw [if_pos h1]
      have e : n = 0 := by omega
      subst e
      exact ⟨by decide, ⟨.str (S (repL 0 l)), H, I.tok _, ⟨_, rfl⟩, q⟩⟩
    · rw [if_neg h1]
      by_cases h2 : ((n : Int) == 1 || (S l).length == 0) = true
      · rw [if_pos h2]
        have e : repL n l = l := by
          rcases Bool.or_eq_true_iff.mp h2 with h | h
          · have : n = 1 := by
              have := beq_iff_eq.mp h
              omega
            subst this
            unfold repL
            simp
          · have h3 := beq_iff_eq.mp h
            rw [hl] at h3
            have : l = [] := List.length_eq_zero_iff.mp h3
            subst this
            unfold repL
            simp
        rw [e] at q
        exact ⟨.str (S l), H, I, ⟨_, rfl⟩, q⟩
      · rw [if_neg h2]
        have e : (⟨(List.replicate (n : Int).toNat (S l).cps).foldl (· ++ ·) #[]⟩ : Str) = S (repL n l) := by
          rw [Int.toNat_natCast, S_of (⟨_⟩ : Str)]
          congr 1
          show ((List.replicate n (S l).cps).foldl (· ++ ·) #[]).toList = _
          rw [fold_rep, S_cps]
          rfl
        rw [e]
        refine ⟨?_, ⟨.str (S (repL n l)), H, I.tok _, ⟨_, rfl⟩, q⟩⟩
        rw [S_len, repL_len, sizeLine_eq, Nat.mul_comm]
        omega
end
end Vk
set_option Elab.async false
set_option linter.all false
set_option maxRecDepth 100000
set_option maxHeartbeats 4000000
namespace Vk
open PySem PySem.Spec PyProof.Rows L2
section
variable {K : PySem.W.Frag} {H : Hp} {Q : VK} {a : Addr} {xs : List V}
theorem iSlL {lo hi : Option Int} (hq : SqL K H a xs) (h : ∀ p, H p = none → Q (.ref p) (upd H p (.lst (cutV xs lo hi)))) : rSlL K (.ref a) lo hi H Q := ⟨a, xs, rfl, hq, h⟩
theorem iCat {b : Addr} {ys : List V} (ha : H a = some (.lst xs)) (hb : H b = some (.lst ys)) (hz : xs.length + ys.length ≤ sizeLine) (h : ∀ p, H p = none → Q (.ref p) (upd H p (.lst (xs ++ ys)))) : rCat (.ref a) (.ref b) H Q := ⟨a, b, xs, ys, rfl, rfl, ha, hb, hz, h⟩
theorem iAppend {y : V} (ha : H a = some (.lst xs)) (hz : xs.length < sizeLine) (h : Q .non (upd H a (.lst (xs ++ [y])))) : rAppend (.ref a) [y] H Q := ⟨a, xs, y, rfl, rfl, ha, hz, h⟩
theorem iTruL {R : Bool → Prop} (hq : SqL K H a xs) (h : R (!xs.isEmpty)) : ∃ k, TruV K (.ref a) H k ∧ R k := ⟨_, .inl ⟨xs, hq, rfl⟩, h⟩
theorem iTruNil {R : Bool → Prop} (hq : SqL K H a []) (h : R false) : ∃ k, TruV K (.ref a) H k ∧ R k := ⟨_, .inl ⟨[], hq, rfl⟩, h⟩
theorem iTruCons {R : Bool → Prop} {x : V} (hq : SqL K H a (x :: xs)) (h : R true) : ∃ k, TruV K (.ref a) H k ∧ R k := ⟨_, .inl ⟨_, hq, rfl⟩, h⟩
theorem iListT {l : List Nat} (hl : l.length ≤ 4000) (h : ∀ p, H p = none → Q (.ref p) (upd H p (.lst (l.map fun c => V.str (S [c]))))) : rListT [.str (S l)] H Q := by
  refine ⟨S l, rfl, (by rw [S_len]; exact hl), fun p hp => ?_⟩
  have e : (signsOf (S l)).map V.str = l.map fun c => V.str (S [c]) := by
    rw [signs_S, List.map_map]
    rfl
  rw [e]
  exact h p hp
end
end Vk
set_option Elab.async false
set_option linter.all false
set_option maxRecDepth 100000
set_option maxHeartbeats 4000000
namespace Vk
open PySem PySem.Spec PyProof.Rows L2
/-! o.m(e, ..) whose def may raise, in a try -/
def tMethS (C : Addr) (m : Str) (sp : Sp) (E : L2.St → XK) (ta : TE) (t : TA) : TE := fun σ H Q => ta σ H fun x H1 => ∃ a dx fs, x = .ref a ∧ H1 a = some (.ins C dx fs) ∧ fs.lookup m = none ∧ t σ H1 fun vs H2 => sp (x :: vs) H2 Q (E σ)
section
variable {X : Cx} {CX : CXT} {k : Nat} {f C : Addr} {fd : FuncData} {ps : List Str} {sp : Sp} {E : L2.St → XK} {m : Str} {apos pos : Pos} {o e : Expr} {es : List Expr} {ta : TE} {t : TA}
theorem pe_methS {pl : Sem Bool} (he : PE X o ta) (c : Cls X.K C) (hm : Meth X.K C m f) (F : FnOk X.prog X.w X.K X.mg X.base CX k f fd ps sp) (hr : Room k X.A) (hb : Binds X.K fd ps []) (hx : ∀ σ, PassesAt CX X σ (E σ)) (ha : PA X (e :: es) t)
    (hst : starEach (e :: es) X.env = (false, eval e X.env) :: starEach es X.env := by rfl) (hpl : (backTo pos (starEach es X.env)).any (·.1) = false := by rfl)
    (ht : eval (.Call (.Attribute o m apos) (e :: es) [] pos) X.env = (do
      let ov ← eval o X.env
      standAt apos.atName
      let (f, first) ← holding [ov] (getMethod ov m pl)
      callWith pos f first (backTo pos (starEach (e :: es) X.env)) (backToKw pos (keywordEach [] X.env))) := by rfl) :
    PE X (.Call (.Attribute o m apos) (e :: es) [] pos) (tMethS C m sp E ta t) := by
  refine ⟨fun pins s σ H Q I h => ?_⟩
  refine PySem.W.methodCall_KW (pl := pl) (thn (he.run pins s σ H _ I h) fun u s1 ⟨x, H1, I1, rx, a, dx, fs, ex, ea, l, q⟩ => ?_) ht
  subst ex
  obtain rfl : u = Value.ref a := rx
  refine getmeth_ok I1 ea c hm l ?_
  refine PySem.W.callWith_K (first := [.ref a]) (h₀ := X.base) I.ok.mod.kin hm.kp (thn (ha.run pos pins s1 σ H1 _ I1 q) fun us s2 ⟨vs, H2, I2, r, q2⟩ => ⟨I2.kIn, ?_⟩) hst hpl
  exact run_fnS (us := .ref a :: us) (vs := .ref a :: vs) F hr hb (hx σ) I2 (.cons rfl r) q2
end
end Vk
set_option Elab.async false
set_option linter.all false
set_option maxRecDepth 100000
set_option maxHeartbeats 4000000
namespace Vk
open PySem PySem.Spec PyProof.Rows L2
/-! several except clauses, each with a name: one step for each clause -/
/-- D, the clause's name gone behind its suite -/
def goneD (D : Ends) (i : Nat) : Ends := { nx := fun σ' H' => D.nx (σ'.set i none) H', rt := D.rt, bk := fun σ' H' => D.bk (σ'.set i none) H', ct := fun σ' H' => D.ct (σ'.set i none) H' }
/-- a clause: its class, its name's slot, its suite's reading -/
structure Cl where
  c : Value
  i : Nat
  ts : Addr → Value → Option Addr → TS
def wAsN (K : PySem.W.Frag) (Wout : WX) (D : Ends) : List Cl → WX
  | [] => Wout
  | q :: r => fun cls d σ H => ∃ b, PySem.W.exmOne K cls q.c = some b ∧ (b = true → ∀ a, H a = none → q.ts a cls d (goneD D q.i) (σ.set q.i (some (.ref a))) H) ∧ (b = false → wAsN K Wout D r cls d σ H)
inductive AsOk (X : Cx) : List ExceptHandler → List Cl → Prop
  | nil : AsOk X [] []
  | cons {x n : Str} {q : Cl} {b₀ : Stmt} {suite : List Stmt} {np pos' : Pos} {hds : List ExceptHandler} {l : List Cl} (hi : X.N[q.i]? = some n) (hln : X.env.kindOf n = some .local) (hc : Names X x q.c)
      (hsu : ∀ (a : Addr) (oe : Obj) (cls : Value) (d : Option Addr) (pn : List (Addr × Obj)), Zc cls d oe → (∃ vs, oe.data = .fields vs) → PSs (X.suite a ((a, oe) :: pn)) (b₀ :: suite) (q.ts a cls d)) (r : AsOk X hds l) :
      AsOk X (.ExceptHandler (some (.Name x np)) (some n) (b₀ :: suite) pos' :: hds) (q :: l)
section
variable {X : Cx} {body : List Stmt} {h₀ : ExceptHandler} {hds : List ExceptHandler} {l : List Cl} {pos : Pos} {tb : WX → TS} {Wout : WX}
theorem ps_try_asN (hs : X.stack = X.env :: X.outer) (hf : X.env.frame = some X.env.locals) (hN : X.N.Nodup) (tk : Takes X Wout)
    (hb : ∀ (W : WX) (pn : List (Addr × Obj)) (xe : Value → Shared → Prop), Takes (X.tr pn xe) W → PassesOwn (model X.prog X.w) X.A X.env xe → PSs (X.tr pn xe) body (tb W))
    (hh : AsOk X (h₀ :: hds) l) : PS X (.Try body (h₀ :: hds) [] [] pos) (fun D σ H => tb (wAsN X.K Wout D l) D σ H) := by
  refine ⟨fun pins s σ H D I h => ?_⟩
  have ok := I.ok
  have hfr : X.A.frames = some (X.env :: X.outer) := by rw [ok.frames, hs]
  refine wpAny_Try_except (wpAny_mono ((hb (wAsN X.K Wout D l) (X.pn ++ pins) (fun e s₁ => wpAny (model X.prog X.w) X.A (noteFrame e X.env) (fun _ s₂ => wpAny (model X.prog X.w) X.A (setFlight e none) (fun _ s₃ =>
    wpAny (model X.prog X.w) X.A (handleBy e X.env (h₀ :: hds)) (SP X pins D) X.xe s₃) X.xe s₂) X.xe s₁) (fun u s' hx => ?_) PassesOwn.looking).run [] s σ H D (I.toTry _) h) (fun f s1 hsp => ?_) fun e s1 he => he)
  · obtain ⟨a, B, sI, pn', σ1, H1, cls, d, rfl, J0, nb, up, sky, na, os, ag, wish⟩ := hx
    have J : Inv X pins σ1 H1 sI := J0.ofTry ok
    rw [hs] at sky
    show wpAny (model X.prog X.w) X.A (noteFrame (.ref a) X.env) _ _ _
    refine Sky.land Zc.steady hfr hf sky fun h3 fl up3 => ?_
    have J3 : Inv X pins σ1 H1 { s' with heap := h3 } := J.landed nb fl.1 (up.trans up3) os ag
    obtain ⟨o3, vs3, e3, z3, d3⟩ := fl.there
    have nfr : a ∉ frs (X.env :: X.outer) := fun hm => by
      obtain ⟨_, o', e', hnf⟩ := fl.2.2.1.mem hm
      rw [e3] at e'
      cases e'
      exact hnf _ d3
    have nL : a ≠ X.env.locals := fun z => nfr (List.mem_filterMap.mpr ⟨X.env, List.mem_cons_self, by rw [hf, z]⟩)
    have nF : a ∉ X.fs := fun hm => by
      obtain ⟨e, he, q⟩ := List.mem_filterMap.mp hm
      exact nfr (List.mem_filterMap.mpr ⟨e, List.mem_cons_of_mem _ he, q⟩)
    have S3 := J3.suite e3 d3 na nL nF
    have LT : PySem.W.Looks (model X.prog X.w) h3 (typeOf (.ref a)) cls := fun A Q E s k q => wpAny_typeOf_ref (k _ _ e3) (by rw [z3.1]; exact q)
    suffices all : ∀ {hds' : List ExceptHandler} {l' : List Cl}, AsOk X hds' l' → wAsN X.K Wout D l' cls d σ1 H1 → wpAny (model X.prog X.w) X.A (handleBy (.ref a) X.env hds') (SP X pins D) X.xe { s' with heap := h3 } from all hh wish
    clear wish hh
    intro hds' l' hk
    induction hk with
    | nil =>
      intro wo
      obtain ⟨_, _, _, oe, vs, T, oT, ts', he, hz, hd, h1, hr⟩ := id fl
      have out : wpAny (model X.prog X.w) X.A (setFlight (.ref a) X.env.frame) (fun _ s4 => wpAny (model X.prog X.w) X.A (throw (.ref a) : Sem Flow) (SP X pins D) X.xe s4) X.xe { s' with heap := h3 } := by
        rw [hf]
        exact HandSPX.setFlight_upZ fl fun h4 hh4 up4 => wpAny_throw (tk _ _ ⟨a, B, sI, pins, σ1, H1, cls, d, rfl, J, nb, (up.trans up3).trans up4, .inr (.inr (by rw [hs]; exact hh4)), na, os, ag, wo⟩)
      refine wpAny_handleBy_nil ?_
      unfold PySem.passOn
      refine wpAny_bind (wpAny_field he hd h1 ?_)
      rw [if_neg (show ¬ ((Value.ref T == Value.none) = true) from by simp)]
      first
        | exact wpAny_bind (wpAny_pure (wpAny_bind out))
        | exact wpAny_bind out
    | @cons x n q b₀ suite np pos' hds2 l2 hi hln hc hsu r ih =>
      intro wo
      obtain ⟨b, hb1, hyes, hno⟩ := wo
      have LM := PySem.W.exm_one (M := model X.prog X.w) J3.kIn LT hb1
      refine wpAny_handleBy_cons (codeAny_handlers_test ?_) (by intro z; cases z)
      have name : ∀ {Q : Value → Shared → Prop} {E : Value → Shared → Prop}, Q q.c { s' with heap := h3 } → wpAny (model X.prog X.w) (X.A.mark (some (.ref a))) (eval (.Name x np) X.env) Q E { s' with heap := h3 } := fun {Q E} hQ => by
        obtain ⟨hg, hdbg, hm | ⟨hm, hv, hnn⟩⟩ := hc
        · exact ld_glob (X := X.suite a ((a, o3) :: (X.pn ++ pins))) S3 hg hm hQ hdbg
        · exact ld_blt (X := X.suite a ((a, o3) :: (X.pn ++ pins))) S3 hg hm hv hQ hnn hdbg
      refine name (LM.here ?_)
      cases b with
      | false =>
        show wpAny _ X.A (handleBy (.ref a) X.env hds2) _ _ _
        exact ih (hno rfl)
      | true =>
        refine codeAny_handlers_suite_as (HandSPX.lands_againZ fl fun h4 fl4 up4 => ?_)
        have J4 : Inv X pins σ1 H1 { s' with heap := h4 } := J.landed nb fl4.1 ((up.trans up3).trans up4) os ag
        obtain ⟨o4, vs4, e4, z4, d4⟩ := fl4.there
        refine store_ok (X := X.suite a ((a, o4) :: (X.pn ++ pins))) (v := .ref a) (J4.suite e4 d4 na nL nF) hN hi (.inl hln) rfl (fun s5 S5 => ?_) (.inr hln)
        refine wpAny_mono ((hsu a o4 cls d (X.pn ++ pins) z4 ⟨_, d4⟩).run [] s5 _ H1 _ S5 (hyes rfl a na)) (fun f s6 hsp => ?_) fun _ _ z => z.elim
        cases f with
        | next =>
          obtain ⟨σ6, H6, S6, q6⟩ := hsp
          exact gone_ok (S6.unsuite ok) hN hi hln fun s7 J7 => ⟨_, _, J7, q6⟩
        | brk =>
          obtain ⟨σ6, H6, S6, q6⟩ := hsp
          exact gone_ok (S6.unsuite ok) hN hi hln fun s7 J7 => ⟨_, _, J7, q6⟩
        | cont =>
          obtain ⟨σ6, H6, S6, q6⟩ := hsp
          exact gone_ok (S6.unsuite ok) hN hi hln fun s7 J7 => ⟨_, _, J7, q6⟩
        | ret u =>
          obtain ⟨v6, σ6, H6, S6, r6, q6⟩ := hsp
          exact gone_ok (S6.unsuite ok) hN hi hln fun s7 J7 => ⟨_, _, _, J7, r6, q6⟩
  · cases f with
    | next =>
      obtain ⟨σ', H', J', q⟩ := hsp
      exact wpAny_execs_nil ⟨σ', H', J'.ofTry ok, q⟩
    | brk =>
      obtain ⟨σ', H', J', q⟩ := hsp
      exact ⟨σ', H', J'.ofTry ok, q⟩
    | cont =>
      obtain ⟨σ', H', J', q⟩ := hsp
      exact ⟨σ', H', J'.ofTry ok, q⟩
    | ret u =>
      obtain ⟨v, σ', H', J', r, q⟩ := hsp
      exact ⟨v, σ', H', J'.ofTry ok, r, q⟩
end
end Vk
set_option Elab.async false
set_option linter.all false
set_option maxRecDepth 100000
set_option maxHeartbeats 4000000
namespace Vk
open PySem PySem.Spec PyProof.Rows L2
/-! C(e, .., *y) -/
section
variable {X : Cx} {CX : CXT} {k : Nat} {f C : Addr} {sp : Sp} {E : XK} {x : Str} {e : Expr} {es : List Expr} {t : TA} {p pos : Pos}
theorem pe_makeRS (M : Mk X.K C f) (F : FnR X.prog X.w X.K X.mg X.base CX k f sp) (hr : Room (k + 1) X.A) (hg : Gl X x) (hm : X.mg x = some (.ref C)) (hx : Passes CX X E) (ha : PA X (e :: es) t) (hst : (backTo pos (starEach es X.env)).any (·.1) = true)
    (hdb : (x == ("__debug__" : Str)) = false := by decide) (he : starEach (e :: es) X.env = (false, eval e X.env) :: starEach es X.env := by rfl) : PE X (.Call (.Name x p) (e :: es) [] pos) (StX.tMakeR C sp E t) :=
  ⟨fun pins s σ H Q I h => wpAny_Call_Name_kw (ld_glob I hg hm (PySem.W.callWith_S2 (h₀ := X.base) I.ok.mod.kin M.kp (thn (ha.run pos pins s σ H _ I h) fun us s1 z => by
    obtain ⟨vs, H1, I1, r, q⟩ := z
    exact ⟨I1.kIn, StX.run_makeR M F hr hx I1 r q⟩) he hst) hdb)⟩
end
end Vk
set_option Elab.async false
set_option linter.all false
set_option maxRecDepth 100000
set_option maxHeartbeats 2000000
namespace Vk
open PySem PySem.Spec PyProof.Rows L2

/-- the context of a body that closes over its class's cell -/
def cxS (CX : CXT) (P : Program) (w : World) (K : PySem.W.Frag) (mg : Str → Option Value) (base : Heap) (N : List Str) (qual : Str) (scope : Scope) (f cc : Addr) (cd : Value) (A : Around) (outer : List Env) (s : Shared) (H : Hp) (E : XK) : Cx where
  prog := P
  w := w
  K := K
  mg := mg
  base := base
  A := A.deeper (PySem.W.ksEnv qual scope s.heap.objs.size f cd cc)
  N := N
  s_0 := s
  H_0 := H
  env := PySem.W.ksEnv qual scope s.heap.objs.size f cd cc
  outer := outer
  stack := PySem.W.ksEnv qual scope s.heap.objs.size f cd cc :: outer
  ex := []
  calm := true
  fn := fun _ => false
  pn := []
  xe := fun e s' => wpAny (model P w) (A.deeper (PySem.W.ksEnv qual scope s.heap.objs.size f cd cc)) (leaving (PySem.W.ksEnv qual scope s.heap.objs.size f cd cc) e) (fun _ s'' => CX outer H s E e s'') (fun e' s'' => CX outer H s E e' s'') s'

/-- what the text has written of an own exception class at C and its __init__ at fI, whose code is at cda, its cell at cc -/
structure SupC (P : Program) (K : PySem.W.Frag) (mg : Str → Option Value) (C cc cda : Addr) : Prop where
  oex : OexC K C
  cell : ∃ cl cld csl, K.lookup cc = some ⟨cl, cld, .cell (some (.ref C)), csl⟩
  code : ∃ (ccl : Value) (cdd : Option Addr) (vs : Array Value) (ccs : Array (Option Value)) (file : Str) (tf : Tok), K.lookup cda = some ⟨ccl, cdd, .fields vs, ccs⟩ ∧ vs[2]? = some (.str file tf) ∧ ((P.main.file : Str) == file) = true
  sub : PySem.W.mroIn K C (.ref C) = some true
  sup : PySem.W.ks_superIn K C C "__init__" = some (some (.builtin "ValueError.__init__"))
  subV : PySem.W.subIn K (.ref C) (.type "ValueError") = some true
  noTop : (P.main.scope.names.lookup ("super" : Str)).isSome = false
  noMg : mg "super" = none
  any : PySem.W.nsIn K cStatics "thirdparty.any" = some none

structure SScope (N : List Str) (sc : Scope) : Prop where
  kind : sc.kind = .function
  co : sc.isCoroutine = false
  gen : sc.isGenerator = false
  nd : N.Nodup
  par : ∀ x ∈ N, sc.names.lookup x = some .local
  nocell : ∀ x ∈ sc.names, x.2 ≠ .cell
  free : ∀ x, sc.names.lookup x = some .free → x = "__class__"
  sup : sc.names.lookup ("super" : Str) = some .globalImplicit
  cls : sc.names.lookup ("__class__" : Str) = some .free

theorem rev_get {N : List Str} {us : List Value} (hlen : N.length = us.length) (nd : N.Nodup) {i : Nat} {x : Str} {u : Value} (h1 : N[i]? = some x) (h2 : us[i]? = some u) : (N.zip us).reverse.lookup x = some u := by
  have key : ∀ (l : List (Str × Value)), (l.map (·.1)).Nodup → ∀ x u, (x, u) ∈ l → l.lookup x = some u := by
    intro l
    induction l with
    | nil => intro _ _ _ h; cases h
    | cons p l ih =>
      intro hn x u hm
      obtain ⟨a, b⟩ := p
      simp only [List.map_cons, List.nodup_cons] at hn
      rcases List.mem_cons.mp hm with e | hm
      · cases e
        simp [List.lookup]
      · have hne : (x == a) = false := by
          have : x ≠ a := fun z => hn.1 (z ▸ List.mem_map_of_mem hm)
          simpa using this
        simp [List.lookup, hne, ih hn.2 x u hm]
  have hz : (N.zip us)[i]? = some (x, u) := by
    rw [List.getElem?_zip_eq_some]
    exact ⟨h1, h2⟩
  refine key _ ?_ _ _ (List.mem_reverse.mpr (List.mem_of_getElem? hz))
  rw [List.map_reverse]
  refine (List.pairwise_reverse (R := fun a b : Str => a ≠ b)).mpr ?_
  refine List.Pairwise.imp (R := fun a b : Str => a ≠ b) (fun h => Ne.symm h) ?_
  rw [List.map_fst_zip (Nat.le_of_eq hlen)]
  exact nd

theorem inv_s {CX : CXT} {P : Program} {w : World} {K : PySem.W.Frag} {mg : Str → Option Value} {base : Heap} {N : List Str} {qual : Str} {scope : Scope} {f cc : Addr} {cd : Value} {A : Around} {outer : List Env} {s : Shared} {H : Hp} {E : XK} {us : List Value} {vs : List V} {h1 : Heap} {tk : Nat} {oc : Value} {ocd : Option Addr} {osl : Array (Option Value)} {cv : Option Value}
    (S : SScope N scope) (hd : A.handled = none) (e0 : Env0 P w K mg base A outer s H) (hl : vs.length = N.length) (r : Vals vs us) (hcell : K.lookup cc = some ⟨oc, ocd, .cell cv, osl⟩)
    (hns : h1.Ns s.heap.objs.size (fun x => (N.zip us).reverse.lookup x)) (hk : ∀ b o, s.heap.get? b = some o → h1.get? b = some o) :
    Inv (cxS CX P w K mg base N qual scope f cc cd A outer s H E) [] (vs.map some) H { s with heap := h1, toks := tk } := by
  have noA : ∀ b : Addr, b ∉ (cxS CX P w K mg base N qual scope f cc cd A outer s H E).ex := fun b z => absurd (show b ∈ ([] : List Addr) from z) (by simp)
  have hcs : ∀ y c, (cxS CX P w K mg base N qual scope f cc cd A outer s H E).env.cells.lookup y = some c → y = "__class__" ∧ c = cc := fun y c h => by
    have h' : List.lookup y [(("__class__" : Str), cc)] = some c := h
    by_cases e : y = "__class__"
    · subst e
      simp [List.lookup] at h'
      exact ⟨rfl, h'.symm⟩
    · have q : (y == ("__class__" : Str)) = false := by simpa using e
      simp [List.lookup, q] at h'
  have hcb : ∃ o, base.get? cc = some o ∧ o.data = .cell cv := ⟨_, e0.mod.kin _ _ hcell, rfl⟩
  obtain ⟨ob, hb1, hb2⟩ := hcb
  refine ⟨⟨e0.mod, S.kind, rfl, rfl, Nat.le_refl _, fun y z c h1 h2 => ?_, fun y hy => ?_, fun y c h _ => absurd h (by show ¬ (false = true); decide), fun _ => hd, Around.frames_deeper e0.frames, .inr ⟨rfl, rfl⟩, fun b z => absurd z (noA b), e0.bs, e0.bsz, fun b _ _ => noA b, fun b z => absurd z (noA b), e0.funs, e0.frf⟩,
    rfl, e0.bare, Un.kept hk, ⟨_, hns, fun i y v h1 h2 h3 => ?_⟩, fun y c h => ?_, e0.hok.fresh (Nat.le_refl _), fun y c h => ?_, fun p hp => absurd (show p ∈ ([] : List (Addr × Obj)) from hp) (by simp), e0.hok.kept hk, ?_⟩
  · exact (hcs y c h1).1.trans (hcs z c h2).1.symm
  · have hy : scope.names.lookup y = some .cell ∨ scope.names.lookup y = some .free := hy
    rcases hy with hy | hy
    · exact absurd rfl (S.nocell _ (PySem.mem_of_lookup hy))
    · have e := S.free y hy
      subst e
      exact ⟨cc, by show List.lookup ("__class__" : Str) [(("__class__" : Str), cc)] = _; simp [List.lookup]⟩
  · have h1' : N[i]? = some y := h1
    have ha : vs[i]? = some v := by
      rw [List.getElem?_map] at h2
      cases e : vs[i]? with
      | none => rw [e] at h2; cases h2
      | some a => rw [e] at h2; cases h2; rfl
    obtain ⟨u, hu, rv⟩ := r.get ha
    exact ⟨u, rv, .inl ⟨S.par y (List.mem_of_getElem? h1'), rev_get (hl.symm.trans r.length) S.nd h1' hu⟩⟩
  · obtain ⟨_, rfl⟩ := hcs y c h
    exact ⟨cv, ob, hk _ _ (e0.bs _ _ hb1).1, hb2⟩
  · obtain ⟨_, rfl⟩ := hcs y c h
    exact (e0.bs _ _ hb1).2
  · show (vs.map some).length = N.length
    rw [List.length_map, hl]

/-- ValueError.__init__ bound to the exception at e, called -/
theorem call_bv {prog : Program} {w : World} {A : Around} {E : Value → Shared → Prop} {h : Heap} {g : Array GenState} {d : Drawn} {t : Nat} {os : OsState}
    {nm q : Str} {C N : Addr} {bs bm : List Value} {hdct : Bool} {sn : List Str} {sub : List Value} {ab : Bool} {col : Option Bool} {dd : Option Addr} {k0 k1 k2 k3 k5 : Option Value}
    {u e t0 : Addr} {rest : List Value} {Q : Value → Shared → Prop}
    (hC : h.get? C = some (excClassObj nm q C N bs bm hdct sn sub ab col dd k0 k1 k2 k3 k5 "ValueError.__new__")) (he : h.get? e = some (HandSPX.excO C t0)) (hu : h.get? u = some (PySem.W.kxs_mw "ValueError.__init__" e)) (hrest : rest.length ≤ sizeLine)
    (hq : ∀ h' t1, (∀ b o, b ≠ e → h.get? b = some o → h'.get? b = some o) → h'.get? e = some (HandSPX.excO C t1) → Q .none ⟨h', g, d, t, os⟩) :
    wpAny (model prog w) A (call (.ref u) rest) Q E ⟨h, g, d, t, os⟩ := by
  refine wpAny_call (codeAny_of_tree ?_)
  show wpAny _ A.in1 (callAny (.ref u) ⟨rest, []⟩) _ _ _
  unfold callAny
  refine wpAny_bind (wpAny_load hu ?_)
  simp only [PySem.W.kxs_mw, show (Value.type "method-wrapper" == Value.type "method" || Value.type "method-wrapper" == Value.type "builtin_function_or_method" || Value.type "method-wrapper" == Value.type "method-wrapper") = true from by decide, if_true]
  refine W.KFB.if_so (by decide) ?_
  refine wpAny_bind (PySem.ESX.check_bound F.excBase_ValueError hC he rfl ?_)
  refine wpAny_bind (wpAny_pure (wpAny_pure ?_))
  refine ⟨plainId_quiet F.excBase_ValueError.init.plain _, codeAny_builtin F.excBase_ValueError.initEntry ?_⟩
  refine PySem.W.exc_init_tree (cls := .ref C) (t0 := t0) (dv := none) (c2 := .none) (c3 := .none) (b4 := .bool false) he hrest fun h' k e' _ => hq h' _ k e'

/-- what super().__init__(e) asks: the argument; the exception, fresh -/
def tSup (C : Addr) (te : TE) : TS := fun D σ H => te σ H fun _ H1 => (∃ a, σ[0]? = some (some (.ref a)) ∧ H1 a = some (exo a C none)) ∧ D.nx σ H1

theorem fn_super {CX : CXT} {P : Program} {w : World} {K : PySem.W.Frag} {mg : Str → Option Value} {base : Heap} {k : Nat} {f C cc cda : Addr} {name qual self : Str} {params : Arguments} {body : List Stmt} {scope : Scope} {dV kV doc pm ct oc : Value} {an od : Option Addr}
    {osl : Array (Option Value)} {N : List Str} {sp : Sp} {parts : List Expr} {rest : List Stmt} {p0 p1 p2 p3 p4 jp : Pos} {ar : Arg} {N' : List Str} {pl : Sem Bool}
    (T : SupC P K mg C cc cda)
    (lk : K.lookup f = some ⟨oc, od, .func (PySem.W.ksFn name qual params body scope dV kV doc pm an (.ref cda) ct cc), osl⟩) (hcd : PySem.W.codeIn K (.ref cda) qual = true) (S : SScope N scope) (hN : N = self :: N')
    (hpar : (params.posonlyargs ++ params.args).head? = some ar) (har : ar.arg = self)
    (hbd : body = .Expr (.Call (.Attribute (.Call (.Name "super" p0) [] [] p1) "__init__" p2) [.JoinedStr parts jp] [] p3) p4 :: rest)
    (hcall : ∀ env : Env, eval (.Call (.Attribute (.Call (.Name "super" p0) [] [] p1) "__init__" p2) [.JoinedStr parts jp] [] p3) env = (do
      let ov ← attributeBase (.Call (.Name "super" p0) [] [] p1) "__init__" env (eval (.Call (.Name "super" p0) [] [] p1) env)
      standAt p2.atName
      let (f, first) ← holding [ov] (getMethod ov "__init__" pl)
      callWith p3 f first (backTo p3 (starEach [.JoinedStr parts jp] env)) []))
    (hsw : ∀ env : Env, swapsWith (.Call (.Attribute (.Call (.Name "super" p0) [] [] p1) "__init__" p2) [.JoinedStr parts jp] [] p3) none p4.line env = pure false)
    (len : ∀ vs H Q E, sp vs H Q E → vs.length = N.length)
    (hbody : ∀ (A : Around) (outer : List Env) (s : Shared) (H : Hp) (vs : List V) (Q : VK) (E : XK), Room k (A.deeper (PySem.W.ksEnv qual scope s.heap.objs.size f (.ref cda) cc)) → sp vs H Q E →
      ∃ te t, PE (cxS CX P w K mg base N qual scope f cc (.ref cda) A outer s H E) (.JoinedStr parts jp) te ∧ PSs (cxS CX P w K mg base N qual scope f cc (.ref cda) A outer s H E) rest t ∧
        (∃ a, vs[0]? = some (.ref a) ∧ H a = some (exo a C none)) ∧ tSeq (tSup C te) t { nx := fun _ H' => Q .non H', rt := Q } (vs.map some) H) :
    FnOk P w K mg base CX (k + 1) f (PySem.W.ksFn name qual params body scope dV kV doc pm an (.ref cda) ct cc) N sp := by
  refine ⟨len, fun A outer s H args us vs Q E hr e0 hb r hsp => ?_⟩
  have hl := len _ _ _ _ hsp
  have KX : K.In s.heap := e0.mod.kin.keeps fun b o e => (e0.bs b o e).1
  have lim : s.heap.NoLimit := e0.mod.nolimit.keeps fun b o e => (e0.bs b o e).1
  obtain ⟨cl, cld, csl, hcell⟩ := T.cell
  obtain ⟨ccl, cdd, vsC, ccs, file, tf, hcode, hvs2, hfile⟩ := T.code
  obtain ⟨nm, q, Nc, bs, bm, sn, sub, ab, col, dd, k0, k1, k2, k3, k5, hC, hbm⟩ := T.oex.cls
  obtain ⟨te, t, hpe, hps, ⟨a, ha0, hea⟩, hq⟩ := hbody A outer s H vs Q E (hr.deeper _) hsp
  refine ks_codeAny_call_defAt (fd := PySem.W.ksFn name qual params body scope dV kV doc pm an (.ref cda) ct cc) (body := body) (binds := N.zip us) hr.depth (KX _ _ lk) rfl lim (PySem.W.codeRec_of KX hcd) rfl hb S.nocell (fun y hy => S.par y.1 (List.of_mem_zip (a := y.1) (b := y.2) hy).1) (fun h1 hns hk => ?_) S.co S.gen S.kind
  have I : Inv (cxS CX P w K mg base N qual scope f cc (.ref cda) A outer s H E) [] (vs.map some) H { s with heap := h1, toks := s.toks + (N.zip us).length } := inv_s S hr.hd e0 hl r hcell hns hk
  subst hbd
  subst hN
  have ka0 : ∃ u0 us', us = u0 :: us' := by
    cases us with
    | nil => have q := r.length; rw [hl] at q; exact absurd q (by simp)
    | cons u0 us' => exact ⟨u0, us', rfl⟩
  obtain ⟨u0, us', rfl⟩ := ka0
  have hu0 : u0 = Value.ref a := by
    cases r with
    | cons r0 rt =>
      rw [List.getElem?_cons_zero] at ha0
      cases ha0
      exact r0
  subst hu0
  have hL : ((self :: N').zip (Value.ref a :: us')).reverse.lookup self = some (Value.ref a) := rev_get (by rw [← r.length]; exact hl.symm) S.nd (i := 0) rfl rfl
  have hself : scope.names.lookup self = some .local := S.par self List.mem_cons_self
  have hne : a ≠ C := fun z => by
    obtain ⟨t1, ho⟩ := exo_at e0.hok hea
    rw [z, KX _ _ hC] at ho
    cases ho
  generalize hs1 : s.toks + ((self :: N').zip (Value.ref a :: us')).length = tk1 at I ⊢
  obtain ⟨hp0, g, d, tk, os⟩ := s
  let env := PySem.W.ksEnv qual scope hp0.objs.size f (.ref cda) cc
  show PySem.wpAt (model P w) (A.deeper env) (.func (.Expr (.Call (.Attribute (.Call (.Name "super" p0) [] [] p1) "__init__" p2) [.JoinedStr parts jp] [] p3) p4 :: rest) env) (execs (.Expr (.Call (.Attribute (.Call (.Name "super" p0) [] [] p1) "__init__" p2) [.JoinedStr parts jp] [] p3) p4 :: rest) env) _ _ _
  have hint : interactive env = false := by
    unfold interactive
    rw [show env.scope.kind = ScopeKind.function from S.kind]
    rfl
  refine ks_wpAt_execs_cons (ks_wpAt_Expr_any (ks_wpAt_MethodCall (pl := pl) ?_ (hcall env)) hint (hsw env))
  · refine ks_wpAt_super_base (env := env) S.sup S.cls (by decide) rfl (hk _ _ (KX _ _ lk)) rfl hpar rfl (hk _ _ (KX _ _ hcode)) rfl hvs2 hfile T.noTop ?_
    obtain ⟨mb, hb1, hb2⟩ := I.mod.blt
    have hbs : mb ("super" : Str) = some (.type "super") := (hb2 _ (by decide)).trans (by decide +kernel)
    refine PySem.W.ks_loadName_global (env := env) S.kind S.sup (Calls.loadGlobal_builtin (env := env) (I.mod.glob.keeps I.bk) T.noMg (hb1.keeps I.bk) hbs ⟨rfl, ?_⟩)
    refine wpAny_loadName_free (env := env) S.kind S.cls rfl ⟨_, hk _ _ (KX _ _ hcell), rfl⟩ ?_
    rw [har]
    refine wpAny_loadName_local (env := env) S.kind hself hns hL ?_
    have KX1 : K.In h1 := KX.keeps hk
    have hC1 := KX1 _ _ hC
    obtain ⟨t1, hx1⟩ := exo_at I.hok hea
    have hcl : PySem.W.clsIn K C = some { name := nm, bases := bs, mro := .ref C :: bm, ns := Nc, qualname := q, hasDict := true, slotNames := sn, subclasses := sub, abstract := ab, collection := col, hasDel := false } := by unfold PySem.W.clsIn; rw [hC] <;> rfl
    have hsup := T.sup
    unfold PySem.W.ks_superIn at hsup
    rw [hcl] at hsup
    refine ks_wpAny_isType_cls hC1 rfl ⟨rfl, ?_⟩
    refine ks_wpAny_call_super hC1 rfl hx1 rfl (fun c z => by cases z) (PySem.W.looks_mroIn KX1 T.sub) (fun h2 e2 k2 => ?_)
    have I1 : Inv (cxS CX P w K mg base (self :: N') qual scope f cc (.ref cda) A outer ⟨hp0, g, d, tk, os⟩ H E) [] (vs.map some) H ⟨h2, g, d, tk1, os⟩ := I.kept (t' := tk1) k2
    have KX2 : K.In h2 := KX1.keeps k2
    have J2 : PySem.W.InstAt h2 a ({ cls := .ref C, dict := none, data := .fields #[.ref t1, .none, .none, .none, .bool false, .none] } : Obj) C none := ⟨k2 _ _ hx1, rfl, rfl, trivial⟩
    refine PySem.W.kxs_getMethod PySem.W.kxs_ValueError e2 (PySem.W.looks_opaque KX2 T.any) (fun A Q E s k q => wpAny_bind ((PySem.W.looks_clsIn KX2 hcl) A _ E s k (wpAny_pure q))) rfl KX2 hsup (J2.type.andThen (PySem.W.looks_subIn KX2 T.subV)) hne (by decide) ?_
    have fp := I1.fpOk (b := h2.objs.size) (H' := H) (Nat.le_refl _) (I1.hok.fresh (Nat.le_refl _))
    have I2 : Inv (cxS CX P w K mg base (self :: N') qual scope f cc (.ref cda) A outer ⟨hp0, g, d, tk, os⟩ H E) [(h2.objs.size, PySem.W.kxs_mw "ValueError.__init__" a)] (vs.map some) H ⟨h2.push (PySem.W.kxs_mw "ValueError.__init__" a), g, d, tk1 + 1, os⟩ :=
      (I1.kept (t' := tk1 + 1) (h' := h2.push (PySem.W.kxs_mw "ValueError.__init__" a)) fun b o z => Heap.get?_push_of_some _ z).pins_of fun p hp => by
        have ep : p = (h2.objs.size, PySem.W.kxs_mw "ValueError.__init__" a) := by simpa using hp
        subst ep
        exact ⟨Heap.get?_push_at rfl rfl, fp.1, fp.2.1, fp.2.2.1, fun v z => by cases z⟩
    have hst : starEach [Expr.JoinedStr parts jp] env = (false, eval (.JoinedStr parts jp) env) :: starEach [] env := rfl
    rw [hst]
    refine PySem.W.kxs_callWith (i := "ValueError.__init__") (x := a) (by rfl) (Calls.evalArgs_plain ?_)
    refine Calls.spliced_cons (thn (hpe.run [(h2.objs.size, PySem.W.kxs_mw "ValueError.__init__" a)] _ (vs.map some) H _ I2 hq) fun u1 s3 hh => Calls.spliced_nil ?_)
    obtain ⟨v1, H3, I3, r3, ⟨a', ea', hea3⟩, q3⟩ := hh
    have ea2 : a' = a := by
      rw [List.getElem?_map, ha0] at ea'
      cases ea'
      rfl
    subst ea2
    have hu3 : s3.heap.get? h2.objs.size = some (PySem.W.kxs_mw "ValueError.__init__" a') := (I3.pin (h2.objs.size, PySem.W.kxs_mw "ValueError.__init__" a') (by simp)).1
    refine ⟨hu3, ?_⟩
    obtain ⟨t3, hx3⟩ := exo_at I3.hok hea3
    have KX3 := I3.kIn
    have hlen1 : [u1].length ≤ sizeLine := by
      rw [sizeLine_eq]
      exact (by decide : 1 ≤ 16777216)
    obtain ⟨hp3, g3, d3, tk3, os3⟩ := s3
    refine call_bv (KX3 _ _ hC) hx3 hu3 hlen1 fun h4 t4 k4 hx4 => ?_
    have J := I3.write (t' := tk3) (x := a') (e := a') (o := exo a' C none) (by rw [hea3]; exact True.intro) (.inl rfl) k4 ⟨_, hx4⟩ (exo_ok hx4)
    have eu : upd H3 a' (exo a' C none) = H3 := by
      funext b
      by_cases hb : b = a'
      · rw [hb, upd_same, hea3]
      · rw [upd_ne hb]
    rw [eu] at J
    have J0 : Inv (cxS CX P w K mg base (self :: N') qual scope f cc (.ref cda) A outer ⟨hp0, g, d, tk, os⟩ H E) [] (vs.map some) H3 ⟨h4, g3, d3, tk3, os3⟩ := Inv.unpinned (pins := []) J
    refine PySem.wpAt_of_wpAny ?_
    refine wpAny_mono (hps.run [] _ (vs.map some) H3 _ J0 q3) (fun fl s' hs => ?_) fun e s' hs => hs
    have fin : ∀ {σ' : L2.St} {H' : Hp} {v : V} {u : Value}, Inv (cxS CX P w K mg base (self :: N') qual scope f cc (.ref cda) A outer ⟨hp0, g, d, tk, os⟩ H E) [] σ' H' s' → RelV v u → Q v H' → CE outer P w H ⟨hp0, g, d, tk, os⟩ Q u s' :=
      fun {σ' H' v u} J rv q => ⟨v, H', J.os, J.bare, J.base, J.hok, rv, q⟩
    cases fl with
    | ret u =>
      obtain ⟨v, σ', H', J, rv, q⟩ := hs
      exact fin J rv q
    | next =>
      obtain ⟨σ', H', J, q⟩ := hs
      exact fin (v := V.non) (u := Value.none) J rfl q
    | brk =>
      obtain ⟨_, _, _, q⟩ := hs
      exact False.elim q
    | cont =>
      obtain ⟨_, _, _, q⟩ := hs
      exact False.elim q
end Vk
set_option Elab.async false
set_option linter.all false
set_option maxRecDepth 100000
set_option maxHeartbeats 2000000
namespace Vk
open PySem PySem.Spec PyProof.Rows L2 L2H
/-! an own error's __init__ that says super().__init__(f".."), called while an error is handled -/
/-- .. the context of its body -/
def cxSH (CX : CXT) (P : Program) (w : World) (K : PySem.W.Frag) (mg : Str → Option Value) (base : Heap) (N : List Str) (qual : Str) (scope : Scope) (f cc : Addr) (cd : Value) (A : Around) (outer : List Env) (s : Shared) (H : Hp) (E : XK) (p : Addr × Obj) : Cx where
  prog := P
  w := w
  K := K
  mg := mg
  base := base
  A := A.deeper (PySem.W.ksEnv qual scope s.heap.objs.size f cd cc)
  N := N
  s_0 := s
  H_0 := H
  env := PySem.W.ksEnv qual scope s.heap.objs.size f cd cc
  outer := outer
  stack := PySem.W.ksEnv qual scope s.heap.objs.size f cd cc :: outer
  ex := []
  calm := false
  fn := fun _ => false
  pn := [p]
  xe := fun e s' => wpAny (model P w) (A.deeper (PySem.W.ksEnv qual scope s.heap.objs.size f cd cc)) (leaving (PySem.W.ksEnv qual scope s.heap.objs.size f cd cc) e) (fun _ s'' => CX outer H s E e s'') (fun e' s'' => CX outer H s E e' s'') s'

theorem inv_sH {CX : CXT} {P : Program} {w : World} {K : PySem.W.Frag} {mg : Str → Option Value} {base : Heap} {N : List Str} {qual : Str} {scope : Scope} {f cc : Addr} {cd : Value} {A : Around} {outer : List Env} {s : Shared} {H : Hp} {E : XK} {us : List Value} {vs : List V} {h1 : Heap} {tk : Nat} {oc : Value} {ocd : Option Addr} {osl : Array (Option Value)} {cv : Option Value}
    (S : SScope N scope) {p : Addr × Obj} (hpin : PinOk outer H s p) (e0 : Env0 P w K mg base A outer s H) (hl : vs.length = N.length) (r : Vals vs us) (hcell : K.lookup cc = some ⟨oc, ocd, .cell cv, osl⟩)
    (hns : h1.Ns s.heap.objs.size (fun x => (N.zip us).reverse.lookup x)) (hk : ∀ b o, s.heap.get? b = some o → h1.get? b = some o) :
    Inv (cxSH CX P w K mg base N qual scope f cc cd A outer s H E p) [] (vs.map some) H { s with heap := h1, toks := tk } := by
  have noA : ∀ b : Addr, b ∉ (cxSH CX P w K mg base N qual scope f cc cd A outer s H E p).ex := fun b z => absurd (show b ∈ ([] : List Addr) from z) (by simp)
  have hcs : ∀ y c, (cxSH CX P w K mg base N qual scope f cc cd A outer s H E p).env.cells.lookup y = some c → y = "__class__" ∧ c = cc := fun y c h => by
    have h' : List.lookup y [(("__class__" : Str), cc)] = some c := h
    by_cases e : y = "__class__"
    · subst e
      simp [List.lookup] at h'
      exact ⟨rfl, h'.symm⟩
    · have q : (y == ("__class__" : Str)) = false := by simpa using e
      simp [List.lookup, q] at h'
  have hcb : ∃ o, base.get? cc = some o ∧ o.data = .cell cv := ⟨_, e0.mod.kin _ _ hcell, rfl⟩
  obtain ⟨ob, hb1, hb2⟩ := hcb
  refine ⟨⟨e0.mod, S.kind, rfl, rfl, Nat.le_refl _, fun y z c h1 h2 => ?_, fun y hy => ?_, fun y c h _ => absurd h (by show ¬ (false = true); decide), (fun z => Bool.noConfusion (show false = true from z)), Around.frames_deeper e0.frames, .inr ⟨rfl, rfl⟩, fun b z => absurd z (noA b), e0.bs, e0.bsz, fun b _ _ => noA b, fun b z => absurd z (noA b), e0.funs, e0.frf⟩,
    rfl, e0.bare, Un.kept hk, ⟨_, hns, fun i y v h1 h2 h3 => ?_⟩, fun y c h => ?_, e0.hok.fresh (Nat.le_refl _), fun y c h => ?_, fun q hq => ?_, e0.hok.kept hk, ?_⟩
  · exact (hcs y c h1).1.trans (hcs z c h2).1.symm
  · have hy : scope.names.lookup y = some .cell ∨ scope.names.lookup y = some .free := hy
    rcases hy with hy | hy
    · exact absurd rfl (S.nocell _ (PySem.mem_of_lookup hy))
    · have e := S.free y hy
      subst e
      exact ⟨cc, by show List.lookup ("__class__" : Str) [(("__class__" : Str), cc)] = _; simp [List.lookup]⟩
  · have h1' : N[i]? = some y := h1
    have ha : vs[i]? = some v := by
      rw [List.getElem?_map] at h2
      cases e : vs[i]? with
      | none => rw [e] at h2; cases h2
      | some a => rw [e] at h2; cases h2; rfl
    obtain ⟨u, hu, rv⟩ := r.get ha
    exact ⟨u, rv, .inl ⟨S.par y (List.mem_of_getElem? h1'), rev_get (hl.symm.trans r.length) S.nd h1' hu⟩⟩
  · obtain ⟨_, rfl⟩ := hcs y c h
    exact ⟨cv, ob, hk _ _ (e0.bs _ _ hb1).1, hb2⟩
  · obtain ⟨_, rfl⟩ := hcs y c h
    exact (e0.bs _ _ hb1).2
  · have eq : q = p := by simpa using (show q ∈ [p] ++ ([] : List (Addr × Obj)) from hq)
    rw [eq]
    exact ⟨hk p.1 p.2 hpin.get, hpin.free, Nat.ne_of_lt (Heap.lt_size hpin.get), hpin.nofs, hpin.nocell⟩
  · show (vs.map some).length = N.length
    rw [List.length_map, hl]

theorem fn_superH {CX : CXT} {P : Program} {w : World} {K : PySem.W.Frag} {mg : Str → Option Value} {base : Heap} {k : Nat} {f C cc cda : Addr} {name qual self : Str} {params : Arguments} {body : List Stmt} {scope : Scope} {dV kV doc pm ct oc : Value} {an od : Option Addr}
    {osl : Array (Option Value)} {N : List Str} {sp : Sp} {parts : List Expr} {rest : List Stmt} {p0 p1 p2 p3 p4 jp : Pos} {ar : Arg} {N' : List Str} {pl : Sem Bool}
    (T : SupC P K mg C cc cda)
    (lk : K.lookup f = some ⟨oc, od, .func (PySem.W.ksFn name qual params body scope dV kV doc pm an (.ref cda) ct cc), osl⟩) (hcd : PySem.W.codeIn K (.ref cda) qual = true) (S : SScope N scope) (hN : N = self :: N')
    (hpar : (params.posonlyargs ++ params.args).head? = some ar) (har : ar.arg = self)
    (hbd : body = .Expr (.Call (.Attribute (.Call (.Name "super" p0) [] [] p1) "__init__" p2) [.JoinedStr parts jp] [] p3) p4 :: rest)
    (hcall : ∀ env : Env, eval (.Call (.Attribute (.Call (.Name "super" p0) [] [] p1) "__init__" p2) [.JoinedStr parts jp] [] p3) env = (do
      let ov ← attributeBase (.Call (.Name "super" p0) [] [] p1) "__init__" env (eval (.Call (.Name "super" p0) [] [] p1) env)
      standAt p2.atName
      let (f, first) ← holding [ov] (getMethod ov "__init__" pl)
      callWith p3 f first (backTo p3 (starEach [.JoinedStr parts jp] env)) []))
    (hsw : ∀ env : Env, swapsWith (.Call (.Attribute (.Call (.Name "super" p0) [] [] p1) "__init__" p2) [.JoinedStr parts jp] [] p3) none p4.line env = pure false)
    (len : ∀ vs H Q E, sp vs H Q E → vs.length = N.length)
    (hbody : ∀ (A : Around) (outer : List Env) (s : Shared) (H : Hp) (vs : List V) (Q : VK) (E : XK) (p : Addr × Obj), Hot1 A p → RoomH k (A.deeper (PySem.W.ksEnv qual scope s.heap.objs.size f (.ref cda) cc)) → sp vs H Q E →
      ∃ te t, PE (cxSH CX P w K mg base N qual scope f cc (.ref cda) A outer s H E p) (.JoinedStr parts jp) te ∧ PSs (cxSH CX P w K mg base N qual scope f cc (.ref cda) A outer s H E p) rest t ∧
        (∃ a, vs[0]? = some (.ref a) ∧ H a = some (exo a C none)) ∧ tSeq (tSup C te) t { nx := fun _ H' => Q .non H', rt := Q } (vs.map some) H) :
    FnH P w K mg base CX (k + 1) f (PySem.W.ksFn name qual params body scope dV kV doc pm an (.ref cda) ct cc) N sp := by
  refine ⟨len, fun A outer s H args us vs Q E p hr hot hpin e0 hb r hsp => ?_⟩
  have hl := len _ _ _ _ hsp
  have KX : K.In s.heap := e0.mod.kin.keeps fun b o e => (e0.bs b o e).1
  have lim : s.heap.NoLimit := e0.mod.nolimit.keeps fun b o e => (e0.bs b o e).1
  obtain ⟨cl, cld, csl, hcell⟩ := T.cell
  obtain ⟨ccl, cdd, vsC, ccs, file, tf, hcode, hvs2, hfile⟩ := T.code
  obtain ⟨nm, q, Nc, bs, bm, sn, sub, ab, col, dd, k0, k1, k2, k3, k5, hC, hbm⟩ := T.oex.cls
  obtain ⟨te, t, hpe, hps, ⟨a, ha0, hea⟩, hq⟩ := hbody A outer s H vs Q E p hot (hr.deeper _) hsp
  refine ks_codeAny_call_defAt (fd := PySem.W.ksFn name qual params body scope dV kV doc pm an (.ref cda) ct cc) (body := body) (binds := N.zip us) hr.depth (KX _ _ lk) rfl lim (PySem.W.codeRec_of KX hcd) rfl hb S.nocell (fun y hy => S.par y.1 (List.of_mem_zip (a := y.1) (b := y.2) hy).1) (fun h1 hns hk => ?_) S.co S.gen S.kind
  have I : Inv (cxSH CX P w K mg base N qual scope f cc (.ref cda) A outer s H E p) [] (vs.map some) H { s with heap := h1, toks := s.toks + (N.zip us).length } := inv_sH S hpin e0 hl r hcell hns hk
  subst hbd
  subst hN
  have ka0 : ∃ u0 us', us = u0 :: us' := by
    cases us with
    | nil => have q := r.length; rw [hl] at q; exact absurd q (by simp)
    | cons u0 us' => exact ⟨u0, us', rfl⟩
  obtain ⟨u0, us', rfl⟩ := ka0
  have hu0 : u0 = Value.ref a := by
    cases r with
    | cons r0 rt =>
      rw [List.getElem?_cons_zero] at ha0
      cases ha0
      exact r0
  subst hu0
  have hL : ((self :: N').zip (Value.ref a :: us')).reverse.lookup self = some (Value.ref a) := rev_get (by rw [← r.length]; exact hl.symm) S.nd (i := 0) rfl rfl
  have hself : scope.names.lookup self = some .local := S.par self List.mem_cons_self
  have hne : a ≠ C := fun z => by
    obtain ⟨t1, ho⟩ := exo_at e0.hok hea
    rw [z, KX _ _ hC] at ho
    cases ho
  generalize hs1 : s.toks + ((self :: N').zip (Value.ref a :: us')).length = tk1 at I ⊢
  obtain ⟨hp0, g, d, tk, os⟩ := s
  let env := PySem.W.ksEnv qual scope hp0.objs.size f (.ref cda) cc
  show PySem.wpAt (model P w) (A.deeper env) (.func (.Expr (.Call (.Attribute (.Call (.Name "super" p0) [] [] p1) "__init__" p2) [.JoinedStr parts jp] [] p3) p4 :: rest) env) (execs (.Expr (.Call (.Attribute (.Call (.Name "super" p0) [] [] p1) "__init__" p2) [.JoinedStr parts jp] [] p3) p4 :: rest) env) _ _ _
  have hint : interactive env = false := by
    unfold interactive
    rw [show env.scope.kind = ScopeKind.function from S.kind]
    rfl
  refine ks_wpAt_execs_cons (ks_wpAt_Expr_any (ks_wpAt_MethodCall (pl := pl) ?_ (hcall env)) hint (hsw env))
  · refine ks_wpAt_super_base (env := env) S.sup S.cls (by decide) rfl (hk _ _ (KX _ _ lk)) rfl hpar rfl (hk _ _ (KX _ _ hcode)) rfl hvs2 hfile T.noTop ?_
    obtain ⟨mb, hb1, hb2⟩ := I.mod.blt
    have hbs : mb ("super" : Str) = some (.type "super") := (hb2 _ (by decide)).trans (by decide +kernel)
    refine PySem.W.ks_loadName_global (env := env) S.kind S.sup (Calls.loadGlobal_builtin (env := env) (I.mod.glob.keeps I.bk) T.noMg (hb1.keeps I.bk) hbs ⟨rfl, ?_⟩)
    refine wpAny_loadName_free (env := env) S.kind S.cls rfl ⟨_, hk _ _ (KX _ _ hcell), rfl⟩ ?_
    rw [har]
    refine wpAny_loadName_local (env := env) S.kind hself hns hL ?_
    have KX1 : K.In h1 := KX.keeps hk
    have hC1 := KX1 _ _ hC
    obtain ⟨t1, hx1⟩ := exo_at I.hok hea
    have hcl : PySem.W.clsIn K C = some { name := nm, bases := bs, mro := .ref C :: bm, ns := Nc, qualname := q, hasDict := true, slotNames := sn, subclasses := sub, abstract := ab, collection := col, hasDel := false } := by unfold PySem.W.clsIn; rw [hC] <;> rfl
    have hsup := T.sup
    unfold PySem.W.ks_superIn at hsup
    rw [hcl] at hsup
    refine ks_wpAny_isType_cls hC1 rfl ⟨rfl, ?_⟩
    refine ks_wpAny_call_super hC1 rfl hx1 rfl (fun c z => by cases z) (PySem.W.looks_mroIn KX1 T.sub) (fun h2 e2 k2 => ?_)
    have I1 : Inv (cxSH CX P w K mg base (self :: N') qual scope f cc (.ref cda) A outer ⟨hp0, g, d, tk, os⟩ H E p) [] (vs.map some) H ⟨h2, g, d, tk1, os⟩ := I.kept (t' := tk1) k2
    have KX2 : K.In h2 := KX1.keeps k2
    have J2 : PySem.W.InstAt h2 a ({ cls := .ref C, dict := none, data := .fields #[.ref t1, .none, .none, .none, .bool false, .none] } : Obj) C none := ⟨k2 _ _ hx1, rfl, rfl, trivial⟩
    refine PySem.W.kxs_getMethod PySem.W.kxs_ValueError e2 (PySem.W.looks_opaque KX2 T.any) (fun A Q E s k q => wpAny_bind ((PySem.W.looks_clsIn KX2 hcl) A _ E s k (wpAny_pure q))) rfl KX2 hsup (J2.type.andThen (PySem.W.looks_subIn KX2 T.subV)) hne (by decide) ?_
    have fp := I1.fpOk (b := h2.objs.size) (H' := H) (Nat.le_refl _) (I1.hok.fresh (Nat.le_refl _))
    have I2 : Inv (cxSH CX P w K mg base (self :: N') qual scope f cc (.ref cda) A outer ⟨hp0, g, d, tk, os⟩ H E p) [(h2.objs.size, PySem.W.kxs_mw "ValueError.__init__" a)] (vs.map some) H ⟨h2.push (PySem.W.kxs_mw "ValueError.__init__" a), g, d, tk1 + 1, os⟩ :=
      (I1.kept (t' := tk1 + 1) (h' := h2.push (PySem.W.kxs_mw "ValueError.__init__" a)) fun b o z => Heap.get?_push_of_some _ z).pins_of fun p hp => by
        have ep : p = (h2.objs.size, PySem.W.kxs_mw "ValueError.__init__" a) := by simpa using hp
        subst ep
        exact ⟨Heap.get?_push_at rfl rfl, fp.1, fp.2.1, fp.2.2.1, fun v z => by cases z⟩
    have hst : starEach [Expr.JoinedStr parts jp] env = (false, eval (.JoinedStr parts jp) env) :: starEach [] env := rfl
    rw [hst]
    refine PySem.W.kxs_callWith (i := "ValueError.__init__") (x := a) (by rfl) (Calls.evalArgs_plain ?_)
    refine Calls.spliced_cons (thn (hpe.run [(h2.objs.size, PySem.W.kxs_mw "ValueError.__init__" a)] _ (vs.map some) H _ I2 hq) fun u1 s3 hh => Calls.spliced_nil ?_)
    obtain ⟨v1, H3, I3, r3, ⟨a', ea', hea3⟩, q3⟩ := hh
    have ea2 : a' = a := by
      rw [List.getElem?_map, ha0] at ea'
      cases ea'
      rfl
    subst ea2
    have hu3 : s3.heap.get? h2.objs.size = some (PySem.W.kxs_mw "ValueError.__init__" a') := (I3.pin (h2.objs.size, PySem.W.kxs_mw "ValueError.__init__" a') (by simp)).1
    refine ⟨hu3, ?_⟩
    obtain ⟨t3, hx3⟩ := exo_at I3.hok hea3
    have KX3 := I3.kIn
    have hlen1 : [u1].length ≤ sizeLine := by
      rw [sizeLine_eq]
      exact (by decide : 1 ≤ 16777216)
    obtain ⟨hp3, g3, d3, tk3, os3⟩ := s3
    refine call_bv (KX3 _ _ hC) hx3 hu3 hlen1 fun h4 t4 k4 hx4 => ?_
    have J := I3.write (t' := tk3) (x := a') (e := a') (o := exo a' C none) (by rw [hea3]; exact True.intro) (.inl rfl) k4 ⟨_, hx4⟩ (exo_ok hx4)
    have eu : upd H3 a' (exo a' C none) = H3 := by
      funext b
      by_cases hb : b = a'
      · rw [hb, upd_same, hea3]
      · rw [upd_ne hb]
    rw [eu] at J
    have J0 : Inv (cxSH CX P w K mg base (self :: N') qual scope f cc (.ref cda) A outer ⟨hp0, g, d, tk, os⟩ H E p) [] (vs.map some) H3 ⟨h4, g3, d3, tk3, os3⟩ := Inv.unpinned (pins := []) J
    refine PySem.wpAt_of_wpAny ?_
    refine wpAny_mono (hps.run [] _ (vs.map some) H3 _ J0 q3) (fun fl s' hs => ?_) fun e s' hs => hs
    have fin : ∀ {σ' : L2.St} {H' : Hp} {v : V} {u : Value}, Inv (cxSH CX P w K mg base (self :: N') qual scope f cc (.ref cda) A outer ⟨hp0, g, d, tk, os⟩ H E p) [] σ' H' s' → RelV v u → Q v H' → CE outer P w H ⟨hp0, g, d, tk, os⟩ Q u s' :=
      fun {σ' H' v u} J rv q => ⟨v, H', J.os, J.bare, J.base, J.hok, rv, q⟩
    cases fl with
    | ret u =>
      obtain ⟨v, σ', H', J, rv, q⟩ := hs
      exact fin J rv q
    | next =>
      obtain ⟨σ', H', J, q⟩ := hs
      exact fin (v := V.non) (u := Value.none) J rfl q
    | brk =>
      obtain ⟨_, _, _, q⟩ := hs
      exact False.elim q
    | cont =>
      obtain ⟨_, _, _, q⟩ := hs
      exact False.elim q
end Vk
set_option Elab.async false
set_option linter.all false
set_option maxRecDepth 100000
set_option maxHeartbeats 4000000
namespace Vk
open PySem PySem.Spec PyProof.Rows L2 PySem.W
/-! *a, b = a list -/
/-- the first name takes all but the last n - 1 values, as a new list -/
def gStarL (K : PySem.W.Frag) (n : Nat) (t : TGs) : TG := fun v σ H Q => ∃ a xs ys, v = .ref a ∧ SqL K H a (xs ++ ys) ∧ ys.length + 1 = n ∧ xs.length + ys.length ≤ 16000 ∧ ∀ D, H D = none → t (.ref D :: ys) σ (upd H D (.lst xs)) Q
section
variable {X : Cx} {pos p : Pos}
theorem pgs_star {e : Expr} {es : List Expr} {t : TG} {u : TGs} (h1 : PG X e t) (h2 : PGs X es u)
    (hs : (assignEach (.Starred e p :: es) X.env).map (·.2) = assign e X.env :: (assignEach es X.env).map (·.2) := by rfl) : PGs X (.Starred e p :: es) (gCons t u) := by
  refine ⟨fun pins s σ H vs us Q I r h => ?_⟩
  obtain ⟨v, vr, e1, h⟩ := h
  subst e1
  cases r with
  | cons r rr =>
    rw [hs]
    exact assignInOrder_cons (wpAny_mono (h1.run pins s σ H v _ _ I r h) (fun _ s' ⟨σ', H', I', h'⟩ => h2.run pins s' σ' H' vr _ Q I' rr h') fun _ _ z => z)
theorem pg_starL {es : List Expr} {k : Nat} {t : TGs} {n : Nat} (hc : X.calm = true) (h : PGs X es t)
    (hn : (assignEach es X.env).length = n := by rfl) (hst : (assignEach es X.env).findIdx? (·.1) = some 0 := by rfl) : PG X (.Tuple es k pos) (gStarL X.K n t) := by
  refine ⟨fun pins s σ H v u Q I r hw => ?_⟩
  obtain ⟨a, xs, ys, e1, hq, hl, hz16, hw⟩ := hw
  subst e1
  cases r
  obtain ⟨its, rv, pl, hz⟩ := I.list hq
  have hlen := rv.length
  rw [List.length_append] at hlen
  obtain ⟨u1, u2, rfl, rv1, rv2⟩ := StX.vals_split rv
  have l1 := rv1.length
  have l2 := rv2.length
  rw [PyProof.Rows.assign_Tuple]
  refine wpAny_bind (wpAny_standAt ?_)
  unfold unpack
  rw [hn, hst]
  have hsz : (u1 ++ u2).toArray.size = u1.length + u2.length := by simp
  have hh := I.ok.hd hc
  have hla := pl.isList
  have hlt : a ≠ s.heap.objs.size := by obtain ⟨o, ho, _⟩ := hla; exact Nat.ne_of_lt (Heap.lt_size ho)
  refine wpAny_bind (wpAny_holding ?_)
  unfold unpackItems
  refine wpAny_bind ?_
  unfold notIterableAtAll
  refine wpAny_bind (wpAny_specialOf hla.typeIs slot_list_iter.lookup ?_)
  refine wpAny_pure ?_
  simp only [Bool.false_eq_true, if_false]
  refine wpAny_bind (wpAny_holding (wpAny_pyIter_list hla ?_))
  refine wpAny_bind (wpAny_holding (kun_draw hlt 0 0 _ _ ⟨_, Heap.get?_push_size _ rfl, rfl, rfl⟩ (hla.push _) (by omega) fun h₁ hit₁ hs₁ => ?_))
  have hl₁ : h₁.IsList a (u1 ++ u2).toArray := (hla.push _).extBut hs₁.extBut hlt
  have hit₁' := hit₁
  obtain ⟨oi, hoi, _⟩ := hit₁'
  have hl₁' := hl₁
  obtain ⟨ol, hol, _⟩ := hl₁'
  rw [List.drop_zero, List.take_zero, if_neg (by simp)]
  refine wpAny_bind (wpAny_holding (kun_collect (s := { s with heap := h₁ }) (T := "list_iterator") (.inr (.inr (.inl rfl))) (Walks.list (A := X.A.in1) hh s.heap.objs.size a hlt (u1 ++ u2).toArray) (fun j u st => st.1.typeIs) (k := 0) (by omega) ⟨hit₁, hl₁⟩ (Heap.lt_size hoi) (Heap.lt_size hol) (fun h₂ tk hk => ?_) (by rw [sizeLine_eq]; omega)))
  rw [List.drop_zero]
  have hk0 : ∀ b o, s.heap.get? b = some o → h₂.get? b = some o := fun b o e => by
    have hb : b ≠ s.heap.objs.size := Nat.ne_of_lt (Heap.lt_size e)
    exact hk b o hb (hs₁.extBut b o hb (Heap.get?_push_of_some _ e))
  have I1 : Inv X pins σ H { s with heap := h₂, toks := tk } := I.kept (t' := tk) hk0
  have hmid : (u1 ++ u2).length - (n - 1 - 0) = u1.length := by rw [List.length_append]; omega
  show wpAny _ _ (if (u1 ++ u2).length < n - 1 - 0 then _ else _) _ _ _
  rw [if_neg (by rw [List.length_append]; omega)]
  show wpAny _ _ (newList ((u1 ++ u2).take ((u1 ++ u2).length - (n - 1 - 0))) >>= fun d => pure ([] ++ [d] ++ (u1 ++ u2).drop ((u1 ++ u2).length - (n - 1 - 0)))) _ _ _
  rw [hmid, List.take_left, List.drop_left]
  refine wpAny_bind (wpAny_newList ?_ (by rw [sizeLine_eq]; omega))
  refine wpAny_pure ?_
  have I2 := I1.lnew (t' := tk) rv1 (by rw [sizeLine_eq]; omega)
  exact h.run pins _ σ _ (.ref _ :: ys) _ Q I2 (.cons rfl rv2) (hw _ I1.fresh)
end
end Vk
set_option Elab.async false
set_option linter.all false
set_option maxRecDepth 100000
set_option maxHeartbeats 2000000
namespace Vk
open PySem PySem.Spec PyProof.Rows L2
/-! defs whose errors bear no context, for a handler that raises -/
theorem okN {P : Program} {w : World} {K : PySem.W.Frag} {mg : Str → Option Value} {base : Heap} {nm qn : Str} {st : Stmt} {fa : Addr} {fd : FuncData} {N qs : List Str} {lv : Nat} {sp : Sp} (F : Fun K nm qn st fa fd) (S : FnScope N qs (defScope st))
    (hlen : ∀ us H Q E, sp us H Q E → us.length = qs.length)
    (hb : ∀ (cv : Value) (B : Around) (out : List Env) (s0 : Shared) (H : Hp) (us : List V) (Q : VK) (E : XK), Room lv (B.deeper (envOfC qn (defScope st) s0.heap.objs.size fa cv)) → sp us H Q E →
      ∃ z, PSs (cxOf (L2N.CX P w) P w K mg base N qn (defScope st) fa cv B out s0 H E) (defBody st) z ∧ z { nx := fun _ G => Q .non G, rt := Q } (start N us) H) : FnOk P w K mg base (L2N.CX P w) (lv + 1) fa fd qs sp := by
  obtain ⟨_, _, _, _, _, _, cv, _, _, rfl, h1, h2⟩ := F.ex
  exact fn_of h1 h2 S hlen fun B out s0 H us Q E r h => hb cv B out s0 H us Q E r h
/-- C(e, ..), C an own error with its own __init__; the new error bears no context -/
theorem pmk_oexN {X : Cx} {CX : CXT} {nm : Str} {C fi : Addr} {lv : Nat} {fd : FuncData} {qs : List Str} {sp : Sp} {e : Expr} {es : List Expr} {ta : TA} {p p' : Pos} (O : OexC X.K C) (hi : PySem.W.findIn X.K (.ref C) "__init__" = some (some (.ref fi))) (ht : PySem.W.typeIn X.K (.ref fi) = some (.type "function"))
    (FI : FnOk X.prog X.w X.K X.mg X.base CX lv fi fd qs sp) (hr : Room (lv + 1) X.A) (hb : Binds X.K fd qs []) (hp : Passes CX X (fun _ _ _ => False)) (hg : Gl X nm) (hm : X.mg nm = some (.ref C)) (ha : PA X (e :: es) ta)
    (hdb : (nm == ("__debug__" : Str)) = false := by decide) (hst : starEach (e :: es) X.env = (false, eval e X.env) :: starEach es X.env := by rfl) (hpl : (backTo p' (starEach es X.env)).any (·.1) = false := by rfl) :
    L2N.PMk X (.Call (.Name nm p) (e :: es) [] p') (tMkO C sp [] ta) := by
  intro pins s σ H Q I h
  obtain ⟨n1, n2, n3, n4, bm, n6, n7, n8, n9, n10, n11, n12, n13, n14, n15, hC, hbm⟩ := O.cls
  refine wpAny_Call_Name_kw (ld_glob I hg hm ?_ hdb)
  refine PySem.W.callWith_K (h₀ := X.base) I.ok.mod.kin O.kC (thn (ha.run p' pins s σ H _ I h) fun us s1 z1 => ?_) hst hpl
  obtain ⟨vs, H1, J, rv, hz, q⟩ := z1
  refine ⟨J.kIn, ?_⟩
  show wpAny _ _ (call (.ref C) us) _ _ _
  obtain ⟨g0, ga, dr, tk, os⟩ := s1
  have up1 : g0.objs.size ≤ g0.objs.size + 1 := Nat.le_succ _
  have q1 := q (g0.objs.size + 1) (J.hok.fresh up1)
  rw [List.append_nil] at q1
  have kp : ∀ b o, g0.get? b = some o → ((g0.push (PySem.W.kdv_tup us)).push (PySem.HandSPX.excO C g0.objs.size)).get? b = some o := fun _ _ y => Heap.get?_push_of_some _ (Heap.get?_push_of_some _ y)
  have at1 : ((g0.push (PySem.W.kdv_tup us)).push (PySem.HandSPX.excO C g0.objs.size)).get? (g0.objs.size + 1) = some (PySem.HandSPX.excO C g0.objs.size) := by heap_get
  have J2 := J.laid (t' := tk) (a := g0.objs.size + 1) (o := exo (g0.objs.size + 1) C none) kp up1 (exo_ok at1)
  have r2 : Vals (V.ref (g0.objs.size + 1) :: vs) (Value.ref (g0.objs.size + 1) :: us) := .cons rfl rv
  have ln : (Value.ref (g0.objs.size + 1) :: us ++ []).length = qs.length := by
    have y := r2.length
    rw [FI.len _ _ _ _ q1] at y
    rw [List.append_nil]
    exact y.symm
  have usz : us.length ≤ sizeLine := by
    rw [← Paired.length rv, sizeLine_eq]
    omega
  have b1 := hb _ (Value.ref (g0.objs.size + 1) :: us) J2.kIn ln
  rw [List.append_nil] at b1
  have run := FI.run _ X.stack _ _ ⟨Value.ref (g0.objs.size + 1) :: us, []⟩ (Value.ref (g0.objs.size + 1) :: us) _ _ (fun _ _ _ => False) (hr.make C us []) (J2.env0.make C us []) b1 r2 q1
  refine wpAny_call (PySem.HandSPX.call_own F.excBase_ValueError (fun Y => PySem.HandSPX.refsVE_contains Y bm hbm) (J.kIn _ _ hC) (PySem.W.looks_findIn J.kIn hi) (fun self => PySem.W.bind_fn J.kIn self ht) usz (codeAny_mono run fun r s2 z => ?_))
  cases r with
  | error er => exact hp pins σ _ _ er s2 J2 z
  | ok fl =>
    cases fl with
    | next => exact z.elim
    | brk => exact z.elim
    | cont => exact z.elim
    | ret u =>
      obtain ⟨v, H2, e1, e2, e3, e4, e5, ev, d, fs, e6, e7, e8, e9⟩ := z
      subst ev
      obtain ⟨g2, ga2, d2, t2, os2⟩ := s2
      obtain ⟨t0, G, J3, kG, gn, go, na⟩ := mk_end0 (d2 := d2) (t2 := t2) J up1 kp e3 e4 e1 e2 e6 e7 e8
      refine ⟨e5, g0.objs.size + 1, _, _, ⟨G, ga2, d2, t2, os2⟩, _, .ref C, some d, rfl, J3, kG, gn, go, ⟨rfl, rfl, fun vs hv => ?_⟩, rfl, rfl, na, rfl, e2, raises_own O.exC O.tyC, e9⟩
      cases hv
      rfl
end Vk
set_option Elab.async false
set_option linter.all false
set_option maxRecDepth 100000
set_option maxHeartbeats 4000000
namespace Vk
open PySem PySem.Spec PyProof.Rows L2
/-! isinstance of a caught error that has a dict -/
section
open PySem.W
variable {prog : Program} {w : World} {A : Around} {E : Value → Shared → Prop} {s : Shared} {K : Frag} {x D : Addr} {ox od : Obj}
theorem cls_of_exc {Q : Option Value → Shared → Prop} (T : ExcC K D) (X : K.In s.heap) (I : InstAt s.heap x ox D (some od)) (h : Q (some (.ref D)) { s with toks := s.toks + 1 }) : wpAny (model prog w) A (getAttr? (.ref x) "__class__") Q E s := by
  have hf : findObj K D (some od) "__class__" = some (.bind (.builtin "getset_descriptor.__get__") (.builtin "object.__class__")) :=
    findObj_data (by obtain ⟨cd, hc, _⟩ := any_some T.hd; rw [hc]; rfl) T.ha T.hn T.ht
  obtain ⟨hp, g, d, t, os⟩ := s
  have K0 := I.type (M := model prog w)
  have K1 := looks_findIn (M := model prog w) X T.hg
  have K2 := looks_findIn (M := model prog w) X T.hk
  have K3 := looks_find (M := model prog w) X I hf
  have sub : Looks (model prog w) hp (isInstance (.ref x) (.type "BaseException")) true := K0.andThen (looks_subIn X T.hs)
  have q0 : (false && onTheHeap (Value.builtin "BaseException.__getattribute__")) = false := rfl
  have q2 : (Value.builtin "BaseException.__getattribute__" == Value.builtin "object.__getattribute__") = false := by decide +kernel
  have q1 : (onTheHeap (Value.ref D) && Value.builtin "BaseException.__getattribute__" == Value.builtin "object.__getattribute__") = false := by rw [q2]; rfl
  unfold getAttr? getAttrBy? getAttrBy
  refine wpAny_bind (wpAny_mkText (wpAny_bind (wpAny_attempt (wpAny_holding (wpAny_bind (K0.at (wpAny_bind (K1.at ?_))))))))
  show wpAny _ _ (if (onTheHeap (Value.ref D) && Value.builtin "BaseException.__getattribute__" == Value.builtin "object.__getattribute__") = true then _ else _) _ _ _
  rw [q1, if_neg Bool.false_ne_true]
  unfold getAttrByItsOwn hookBefore
  refine wpAny_bind ?_
  rw [if_pos (show onTheHeap (Value.ref D) = true from rfl)]
  refine K2.at (wpAny_bind (wpAny_attempt (wpAny_holding ?_)))
  unfold callGetattribute
  rw [q0, if_neg Bool.false_ne_true]
  unfold boundAndCalled
  rw [PySem.F.excAttr_ValueError.ga.bind (.ref x)]
  refine wpAny_bind (wpAny_pure ?_)
  show wpAny _ _ (call (.builtin "BaseException.__getattribute__") [.ref x, .str "__class__" t]) _ _ _
  refine wpAny_call (codeAny_call_builtin PySem.F.excAttr_ValueError.ga.plain PySem.F.entry_bexc_ga ?_)
  refine @check_slot (model prog w) _ _ ⟨hp, g, d, t + 1, os⟩ "BaseException.__getattribute__" "BaseException" "__getattribute__" (.ref x) [.str "__class__" t] [] _ (by decide +kernel) (by decide +kernel) sub (PySem.F.args_bexc_ga (.ref x) (.str "__class__" t)) ?_
  unfold Builtin.«object.__getattribute__»
  refine wpAny_bind (wpAny_of_eq (a := ((Value.ref x : Value), [Value.str "__class__" t])) (by first | rfl | (simp only [slotArgs]; rfl)) ?_)
  refine wpAny_bind (wpAny_pure (wpAny_bind (K0.at (wpAny_bind (K3.at ?_)))))
  show wpAny _ _ (holding [Value.builtin "object.__class__"] (call (.builtin "getset_descriptor.__get__") [.builtin "object.__class__", .ref x, .ref D]) >>= ret) _ _ _
  refine wpAny_bind (wpAny_holding (wpAny_call (class_get (s := ⟨hp, g, d, t + 1, os⟩) (ox := ox) (od := some od) X I T.hm (wpAny_pure ?_))))
  show wpAny _ _ (handedOut (.ref D)) _ _ _
  rw [handedOut_of (v := .ref D) rfl]
  first
    | exact wpAny_pure (wpAny_pure h)
    | exact wpAny_pure h
    | exact wpAny_pure (wpAny_bind (wpAny_pure (wpAny_pure h)))
theorem kit_excD (T : ExcC K D) : KitX K (.ref x) (.ref D) (fun h => InstAt h x ox D (some od)) where
  ty := fun _ _ _ I => I.type
  it := fun _ _ X _ => by
    obtain ⟨cdD, hcD, _⟩ := any_some T.hd
    unfold clsIn at hcD
    split at hcD
    · rename_i c1 d1 cd1 sl1 ho
      intro A1 Q1 E1 s1 k q
      unfold isType loadHead
      exact wpAny_bind (wpAny_loadPart (k _ _ (X _ _ ho)) (wpAny_pure q))
    · cases hcD
  ne := fun h tp dd its n sl X htp => by
    obtain ⟨cdD, hcD, _⟩ := any_some T.hd
    refine Bool.eq_false_iff.mpr fun q => ?_
    have e : D = tp := Value.ref.inj (beq_iff_eq.mp q)
    subst e
    unfold clsIn at hcD
    split at hcD
    · rename_i c1 d1 cd1 sl1 ho
      have z := (X _ _ ho).symm.trans htp
      cases z
    · cases hcD
  ca := fun X I k => cls_of_exc T X I k
end
/-- the caught error at a, of the class at D, its dict at dd: it can be asked for its class -/
theorem exc_inst {X : Cx} {a D dd : Addr} {oe : Obj} {pn : List (Addr × Obj)} {pins : List (Addr × Obj)} {σ : L2.St} {H : Hp} {s : Shared} {fs : List (Str × V)} (hz : Zc (.ref D) (some dd) oe) (hf : ∃ vs, oe.data = .fields vs)
    (I : Inv (X.suite a ((a, oe) :: pn)) pins σ H s) (hd : H dd = some (.xd fs)) : ∃ od, PySem.W.InstAt s.heap a oe D (some od) := by
  obtain ⟨ha, _⟩ := I.pin (a, oe) (List.mem_append_left _ List.mem_cons_self)
  obtain ⟨vs, hv⟩ := hf
  have hx : ObjOk X.prog X.w H s.heap dd (.xd fs) := I.hok dd _ hd
  obtain ⟨mA, hns, hr⟩ := hx
  obtain ⟨od, ho, hl⟩ := lookIn_ns hns
  exact ⟨od, ha, hz.1, by unfold PySem.W.notCls; rw [hv] <;> rfl, by rw [hz.2]; exact ho⟩
/-- isinstance(e, c), isinstance(e, (c1, c2)) in the suite: t the class of e as a value -/
def rIsX (K : PySem.W.Frag) (a : Addr) (cls : Value) (d : Option Addr) : List V → Hp → VK → Prop := fun xs H Q =>
  ∃ (D dd : Addr) (fs : List (Str × V)), cls = .ref D ∧ d = some dd ∧ ExcC K D ∧ H dd = some (.xd fs) ∧
    ((∃ (c : V) (u : Value) (b : Bool), xs = [.ref a, c] ∧ ClsV c u ∧ PySem.W.kitOne K (.ref D) u = some b ∧ Q (.bl b) H) ∨
      ∃ (tp : Addr) (cs : List V) (us : List Value) (b : Bool), xs = [.ref a, .ref tp] ∧ H tp = some (.tup cs) ∧ Paired ClsV cs us ∧ PySem.W.kitAny K (.ref D) us = some b ∧ Q (.bl b) H)
theorem call_isX {X : Cx} {a : Addr} {cls : Value} {d : Option Addr} {oe : Obj} {pn : List (Addr × Obj)} (hz : Zc cls d oe) (hf : ∃ vs, oe.data = .fields vs) : CallR (X.suite a ((a, oe) :: pn)) (.builtin "isinstance") (rIsX X.K a cls d) := by
  intro pins s σ H xs us Q I r h
  obtain ⟨D, dd, fs, rfl, rfl, C, hd, h⟩ := h
  obtain ⟨od, J⟩ := exc_inst hz hf I hd
  rcases h with ⟨c, u, b, rfl, k, e, q⟩ | ⟨tp, cs, ws, b, rfl, hT, k, e, q⟩
  · obtain ⟨u1, u2, rfl, r1, r2⟩ := vals2 r
    cases (show u1 = Value.ref a from r1)
    have e2 := k.eq r2
    subst e2
    exact PySem.W.kia_one (kit_excD C) I.kIn J e (fun z => nomatch z) fun tk => ⟨.bl b, H, I.tok tk, rfl, q⟩
  · obtain ⟨u1, u2, rfl, r1, r2⟩ := vals2 r
    cases (show u1 = Value.ref a from r1)
    cases (show u2 = Value.ref tp from r2)
    obtain ⟨_, its, rv, o, h1, h2, n, h3⟩ := (show ObjOk X.prog X.w H s.heap tp (.tup cs) from I.hok tp _ hT)
    have e3 := ClsV.all k rv
    subst e3
    obtain ⟨oc, od', dt, sl⟩ := o
    simp only at h2 h3
    subst h2 h3
    exact PySem.W.kia_tup (kit_excD C) I.kIn J h1 e (fun z => nomatch z) fun tk => ⟨.bl b, H, I.tok tk, rfl, q⟩

/-! x == y by an own __eq__ -/
def rOwnI (K : PySem.W.Frag) (C : Addr) (sp : Sp) (E : XK) : R2 := fun x y H Q => ∃ a dx fs b C' dy gs, x = .ref a ∧ y = .ref b ∧ H a = some (.ins C dx fs) ∧ H b = some (.ins C' dy gs) ∧ PySem.W.notFirst K C (.ref C') = true ∧ sp [x, y] H Q E
section
variable {X : Cx} {CX : CXT} {k : Nat} {g C : Addr} {fd : FuncData} {ps : List Str} {sp : Sp} {E : XK}
theorem op_ownI {op : CmpOp} (hop : ∀ a b, compareOp op a b = richCompare op a b) (hs : PySem.W.findIn X.K (.ref C) (cmpInfo op).2.1 = some (some (.ref g))) (hf : PySem.W.isFn X.K (.ref g) = true) (F : FnOk X.prog X.w X.K X.mg X.base CX k g fd ps sp)
    (hr : Room k X.A) (hb : Binds X.K fd ps []) (hx : Passes CX X E) : OpR X (compareOp op) (rOwnI X.K C sp E) := by
  intro pins s σ H x y v u Q I rx ry h
  obtain ⟨a, dx, fs, b, C', dy, gs, rfl, rfl, ha, hbb, hn, q⟩ := h
  cases (show v = Value.ref a from rx)
  cases (show u = Value.ref b from ry)
  obtain ⟨mA, O, _⟩ := ins_get I.hok ha
  obtain ⟨od, J, _⟩ := O.look
  obtain ⟨mB, O2, _⟩ := ins_get I.hok hbb
  obtain ⟨od2, J2, _⟩ := O2.look
  obtain ⟨m, hF⟩ := I.fr
  rw [hop]
  refine PySem.W.cmp_K (op := op) (tb := .ref C') hr.units0 hF I.ok.mod.kin J J2.type hn hs hf ?_
  refine wpAny_mono (run_fn (us := [.ref a, .ref b]) (vs := [.ref a, .ref b]) F hr hb .nil hx I (.cons rfl (.cons rfl .nil)) (by rw [List.append_nil]; exact q)) (fun w s1 z => ?_) fun _ _ x => x
  obtain ⟨z1, H1, I1, rz, qz⟩ := z
  exact SlX.cmpback rz ⟨z1, H1, I1, rz, qz⟩
end

/-! C(e, ..) whose __init__ may raise, in a try: what is raised is wished for at the slots -/
def tMakeS (C : Addr) (sp : Sp) (dvs : List V) (E : L2.St → XK) (t : TA) : TE := fun σ H Q => t σ H fun vs H1 => ∀ x dx, H1 x = none → H1 dx = none → dx ≠ x →
  sp (.ref x :: (vs ++ dvs)) (upd (upd H1 dx (.own x)) x (.ins C dx [])) (fun v H2 => v = .non ∧ Q (.ref x) H2) (E σ)
section
variable {X : Cx} {CX : CXT} {k : Nat} {f C : Addr} {fd : FuncData} {ps : List Str} {sp : Sp} {dvs : List V} {ds : List Value} {E : L2.St → XK} {x : Str} {p pos : Pos} {e : Expr} {es : List Expr} {t : TA}
theorem pe_makeS (M : Mk X.K C f) (F : FnOk X.prog X.w X.K X.mg X.base CX k f fd ps sp) (hr : Room (k + 1) X.A) (hg : Gl X x) (hm : X.mg x = some (.ref C)) (hb : Binds X.K fd ps ds) (hd : Vals dvs ds) (hx : ∀ σ, PassesAt CX X σ (E σ))
    (ha : PA X (e :: es) t) (hdb : (x == ("__debug__" : Str)) = false := by decide) (he : starEach (e :: es) X.env = (false, eval e X.env) :: starEach es X.env := by rfl) (hpl : (backTo pos (starEach es X.env)).any (·.1) = false := by rfl) :
    PE X (.Call (.Name x p) (e :: es) [] pos) (tMakeS C sp dvs E t) := by
  refine ⟨fun pins s σ H Q I h => ?_⟩
  refine wpAny_Call_Name_kw (ld_glob I hg hm ?_ hdb)
  refine PySem.W.callWith_K (h₀ := X.base) I.ok.mod.kin M.kp (thn (ha.run pos pins s σ H _ I h) fun us s1 hh => ?_) he hpl
  obtain ⟨vs, H1, I1, r, q⟩ := hh
  refine ⟨I1.kIn, ?_⟩
  show wpAny _ _ (call (.ref C) us) _ _ _
  have hq := q (s1.heap.objs.size + 1) s1.heap.objs.size (I1.hok.fresh (Nat.le_succ _)) (I1.hok.fresh (Nat.le_refl _)) (Nat.ne_of_lt (Nat.lt_succ_self _))
  have I2 := Inv.made (C := C) I1
  have r2 : Vals (V.ref (s1.heap.objs.size + 1) :: (vs ++ dvs)) (Value.ref (s1.heap.objs.size + 1) :: (us ++ ds)) := .cons rfl (r.append hd)
  have hl : (Value.ref (s1.heap.objs.size + 1) :: us ++ ds).length = ps.length := by
    have e := r2.length
    rw [F.len _ _ _ _ hq] at e
    exact e.symm
  refine wpAny_call (make_map (f := f) I1.kIn M.makes M.init (beq_iff_eq.mp M.fn) (codeAny_mono (F.run _ X.stack _ _ ⟨Value.ref (s1.heap.objs.size + 1) :: us, []⟩ (Value.ref (s1.heap.objs.size + 1) :: (us ++ ds)) _ _ (E σ) (hr.make C us [])
    (I2.env0.make C us []) (hb _ (Value.ref (s1.heap.objs.size + 1) :: us) I2.kIn hl) r2 hq) fun r3 s3 hq3 => ?_))
  cases r3 with
  | error e => exact hx σ _ _ _ e s3 I2 hq3
  | ok fl =>
    cases fl with
    | ret u =>
      obtain ⟨v, H3, I3, rv, ev, q3⟩ := I2.after hq3
      subst ev
      exact ⟨rv, ⟨V.ref (s1.heap.objs.size + 1), H3, I3, rfl, q3⟩⟩
    | next => exact False.elim hq3
    | brk => exact False.elim hq3
    | cont => exact False.elim hq3
end
end Vk
set_option Elab.async false
set_option linter.all false
set_option maxRecDepth 100000
set_option maxHeartbeats 4000000
namespace Vk
open PySem PySem.Spec PyProof.Rows L2
/-! a comprehension over a list that stands still -/
theorem lc_lst {β : Type} {K : PySem.W.Frag} {a : Addr} {ys : List β} (f : β → V) {j : Nat} {tt : TT} {te : TE} {vs : List Nat} {σ : L2.St} {H1 : Hp} {D : Addr} {Qd : Hp → Prop} (p : β → Bool) (v : β → V) (hl : ys.length ≤ 4000) (ha : H1 a = some (.lst (ys.map f))) (hD : H1 D = none)
    (hw : ∀ x, wipe ((wipe σ vs).set j (some x)) vs = wipe σ vs)
    (ht : ∀ y ∈ ys, ∀ (H2 : Hp) (Q : Bool → Hp → Prop), (∀ b, b ≠ D → H2 b = H1 b) → Q (p y) H2 → tt ((wipe σ vs).set j (some (f y))) H2 Q)
    (he : ∀ y ∈ ys, p y = true → ∀ (H2 : Hp) (Q : VK), (∀ b, b ≠ D → H2 b = H1 b) → Q (v y) H2 → te ((wipe σ vs).set j (some (f y))) H2 Q)
    (hq : Qd (upd H1 D (.lst ((ys.filter p).map v)))) :
    ∃ W : Nat → Nat → Hp → Prop, (∃ m, W 0 m (upd H1 D (.lst []))) ∧ ∀ i m H, W i m H →
      ((Itl K a).stop i H ∧ Qd H) ∨ ((Itl K a).go i H ∧ ∃ Nx : Hp → Prop, (∀ H', Nx H' → ∃ m', m' < m ∧ W (i + 1) m' H') ∧ ∀ x H', (Itl K a).yld i H x H' → gName j x (wipe σ vs) H' fun σ2 H2 => wipe σ2 vs = wipe σ vs ∧ tt σ2 H2 fun b H3 =>
        if b = true then te σ2 H3 fun y H4 => ∃ acc, H4 D = some (.lst acc) ∧ acc.length < sizeLine ∧ Nx (upd H4 D (.lst (acc ++ [y]))) else Nx H3) := by
  have haD : a ≠ D := fun z => by
    rw [z, hD] at ha
    cases ha
  refine lc_list (K := K) (a := a) (xs := ys.map f) (fun i H => H = upd H1 D (.lst (((ys.take i).filter p).map v))) rfl (fun i H _ e => SqL.of (by rw [e, upd_ne haD]; exact ha)) ?_ ?_
  · rintro i x H' hi hP
    subst hP
    obtain ⟨y, hy, rfl⟩ : ∃ y, ys[i]? = some y ∧ x = f y := by
      rw [List.getElem?_map] at hi
      cases e : ys[i]? with
      | none => rw [e] at hi; cases hi
      | some z => rw [e] at hi; exact ⟨z, rfl, (Option.some.inj hi).symm⟩
    have hm : y ∈ ys := List.mem_of_getElem? hy
    have off : ∀ b, b ≠ D → (upd H1 D (.lst (((ys.take i).filter p).map v))) b = H1 b := fun b hb => upd_ne hb
    have e1 : ys.take (i + 1) = ys.take i ++ [y] := by
      rw [List.take_add_one, hy]
      rfl
    refine ⟨hw _, ht y hm _ _ off ?_⟩
    by_cases hp : p y = true
    · rw [if_pos hp]
      refine he y hm hp _ _ off ⟨_, upd_same, ?_, ?_⟩
      · rw [List.length_map, sizeLine_eq]
        have h1 := List.length_filter_le p (ys.take i)
        rw [List.length_take] at h1
        omega
      · rw [upd_upd, e1, List.filter_append, List.filter_cons_of_pos hp, List.filter_nil, List.map_append]
        rfl
    · rw [if_neg hp, e1, List.filter_append, List.filter_cons_of_neg hp, List.filter_nil, List.append_nil]
  · rintro H rfl
    rw [List.length_map, List.take_length]
    exact hq
end Vk
set_option Elab.async false
set_option linter.all false
set_option maxRecDepth 100000
namespace Fw
/-! words over signs in the order of their numbers; the next word, round and round -/
def val (sg : List Nat) (l : List Nat) : Nat := l.foldl (fun a c => a * sg.length + (sg.idxOf c + 1)) 0
def top (s : Nat) : Nat → Nat
  | 0 => 0
  | n + 1 => top s n * s + s
def low (s : Nat) : Nat → Nat
  | 0 => 0
  | n + 1 => low s n * s + 1
theorem low_top (s : Nat) : ∀ n, low s (n + 1) = top s n + 1
  | 0 => by simp [low, top]
  | n + 1 => by
    show low s (n + 1) * s + 1 = top s n * s + s + 1
    rw [low_top s n, Nat.add_mul, Nat.one_mul]
theorem top_low (s : Nat) : ∀ r, top s r + 1 = s ^ r + low s r
  | 0 => by simp [low, top]
  | r + 1 => by
    have h := top_low s r
    show top s r * s + s + 1 = s ^ r * s + (low s r * s + 1)
    rw [← Nat.add_assoc, ← Nat.add_mul, ← h, Nat.add_mul, Nat.one_mul]
theorem foldl_val (sg : List Nat) : ∀ (b : List Nat) (x : Nat), b.foldl (fun a c => a * sg.length + (sg.idxOf c + 1)) x = x * sg.length ^ b.length + val sg b
  | [], x => by simp [val]
  | c :: b, x => by
    unfold val
    rw [List.foldl_cons, List.foldl_cons, foldl_val sg b, foldl_val sg b (0 * sg.length + (sg.idxOf c + 1)), List.length_cons, Nat.pow_succ]
    rw [Nat.zero_mul, Nat.zero_add, Nat.add_mul, Nat.mul_assoc, Nat.mul_comm sg.length (sg.length ^ b.length), Nat.add_assoc]
theorem val_app (sg a b : List Nat) : val sg (a ++ b) = val sg a * sg.length ^ b.length + val sg b := by
  show (a ++ b).foldl _ 0 = _
  rw [List.foldl_append, foldl_val]
  rfl
theorem val_one (sg : List Nat) (c : Nat) : val sg [c] = sg.idxOf c + 1 := by simp [val]
theorem val_last {sg : List Nat} {e : Nat} (he : sg.idxOf e + 1 = sg.length) : ∀ n, val sg (List.replicate n e) = top sg.length n
  | 0 => rfl
  | n + 1 => by
    rw [List.replicate_succ', val_app, val_last he n, val_one, he]
    simp [top]
theorem val_first {sg : List Nat} {f : Nat} (hf : sg.idxOf f = 0) : ∀ n, val sg (List.replicate n f) = low sg.length n
  | 0 => rfl
  | n + 1 => by
    rw [List.replicate_succ', val_app, val_first hf n, val_one, hf]
    simp [low]
theorem top_mono (s : Nat) {m n : Nat} (h : m ≤ n) : top s m ≤ top s n := by
  have step : ∀ k, top s k ≤ top s (k + 1) := by
    intro k
    induction k with
    | zero => exact Nat.zero_le _
    | succ k ih =>
      show top s k * s + s ≤ top s (k + 1) * s + s
      exact Nat.add_le_add_right (Nat.mul_le_mul_right s ih) s
  induction n with
  | zero => rw [Nat.le_zero.mp h]; exact Nat.le_refl _
  | succ n ih =>
    rcases Nat.lt_or_ge m (n + 1) with h1 | h1
    · exact Nat.le_trans (ih (by omega)) (step n)
    · rw [Nat.le_antisymm h h1]
      exact Nat.le_refl _
theorem val_le (sg : List Nat) : ∀ (n : Nat) (l : List Nat), l.length = n → (∀ c ∈ l, c ∈ sg) → val sg l ≤ top sg.length n
  | 0, l, h, _ => by
    rw [List.eq_nil_of_length_eq_zero h]
    exact Nat.le_refl _
  | n + 1, l, h, hm => by
    rcases List.eq_nil_or_concat l with rfl | ⟨a, c, rfl⟩
    · cases h
    · rw [List.concat_eq_append] at h hm ⊢
      have ha : a.length = n := by
        rw [List.length_append] at h
        simpa using h
      have h1 := val_le sg n a ha fun c hc => hm c (List.mem_append_left _ hc)
      have h2 : sg.idxOf c < sg.length := List.idxOf_lt_length_of_mem (hm c (by simp))
      rw [val_app, val_one]
      have h3 := Nat.mul_le_mul_right sg.length h1
      show val sg a * sg.length ^ 1 + (sg.idxOf c + 1) ≤ top sg.length n * sg.length + sg.length
      rw [Nat.pow_one]
      omega
theorem val_pos (sg : List Nat) {l : List Nat} (h : l ≠ []) : 1 ≤ val sg l := by
  rcases List.eq_nil_or_concat l with rfl | ⟨a, c, rfl⟩
  · exact absurd rfl h
  · rw [List.concat_eq_append, val_app, val_one]
    omega
/-- t is the word behind l, of at most m signs -/
def Next (sg : List Nat) (m : Nat) (l t : List Nat) : Prop :=
  (∃ (a : List Nat) (i r : Nat) (c x e f : Nat), l = a ++ [c] ++ List.replicate r e ∧ t = a ++ [x] ++ List.replicate r f ∧ sg[i]? = some c ∧ sg[i + 1]? = some x ∧ sg[0]? = some f ∧ sg[sg.length - 1]? = some e) ∨
  (∃ (e f : Nat), l = List.replicate l.length e ∧ t = List.replicate (l.length % m + 1) f ∧ sg[0]? = some f ∧ sg[sg.length - 1]? = some e)
theorem idx_at {sg : List Nat} (hn : sg.Nodup) {i c : Nat} (h : sg[i]? = some c) : sg.idxOf c = i := by
  obtain ⟨hi, he⟩ := List.getElem?_eq_some_iff.mp h
  rw [← he]
  exact List.Nodup.idxOf_getElem hn i hi
theorem next_val {sg : List Nat} (hn : sg.Nodup) {m : Nat} {l t : List Nat} (hl : 1 ≤ l.length) (hm : l.length ≤ m) (h : Next sg m l t) : val sg t = val sg l + 1 ∨ (val sg l = top sg.length m ∧ val sg t = 1) := by
  rcases h with ⟨a, i, r, c, x, e, f, rfl, rfl, hc, hx, hf, he⟩ | ⟨e, f, h1, rfl, hf, he⟩
  · left
    have ic := idx_at hn hc
    have ix := idx_at hn hx
    have if' := idx_at hn hf
    have ie := idx_at hn he
    have h0 : 0 < sg.length := by
      have := (List.getElem?_eq_some_iff.mp hf).1
      omega
    rw [val_app, val_app sg (a ++ [c]), val_app sg a, val_app sg a, val_one, val_one, val_last (e := e) (by omega), val_first if', ic, ix, List.length_replicate, List.length_replicate]
    have h2 := top_low sg.length r
    have h3 : (val sg a * sg.length ^ [x].length + (i + 1 + 1)) * sg.length ^ r = (val sg a * sg.length ^ [c].length + (i + 1)) * sg.length ^ r + sg.length ^ r := by
      show (val sg a * sg.length ^ 1 + (i + 1 + 1)) * sg.length ^ r = (val sg a * sg.length ^ 1 + (i + 1)) * sg.length ^ r + sg.length ^ r
      rw [← Nat.add_assoc, Nat.add_mul _ 1, Nat.one_mul]
    omega
  · have if' := idx_at hn hf
    have ie := idx_at hn he
    have h0 : 0 < sg.length := by
      have := (List.getElem?_eq_some_iff.mp hf).1
      omega
    have hv : val sg l = top sg.length l.length := by
      rw [h1, List.length_replicate]
      exact val_last (by omega) _
    rcases Nat.lt_or_ge l.length m with h2 | h2
    · left
      rw [hv, Nat.mod_eq_of_lt h2, val_first if', low_top]
    · right
      have h3 : l.length = m := Nat.le_antisymm hm h2
      rw [hv, h3, Nat.mod_self, val_first if']
      exact ⟨rfl, by simp [low]⟩
/-- where the search stands after i turns -/
def At (sg : List Nat) (m : Nat) (used : List (List Nat)) (v0 i : Nat) (t : List Nat) : Prop :=
  t ∉ used ∨ (val sg t = (v0 + i) % top sg.length m + 1 ∧ ∀ q, q < i → (v0 + q) % top sg.length m + 1 ∈ used.map (val sg))
theorem At.start {sg : List Nat} {m : Nat} {used : List (List Nat)} {l : List Nat} (hl : 1 ≤ l.length) (hm : l.length ≤ m) (hs : ∀ c ∈ l, c ∈ sg) : At sg m used (val sg l - 1) 0 l := by
  right
  have h1 := val_pos sg (l := l) (by intro e; rw [e] at hl; cases hl)
  have h2 := Nat.le_trans (val_le sg l.length l rfl hs) (top_mono sg.length hm)
  refine ⟨?_, fun q h => absurd h (Nat.not_lt_zero _)⟩
  rw [Nat.add_zero, Nat.mod_eq_of_lt (by omega)]
  omega
theorem At.move {sg : List Nat} (hn : sg.Nodup) {m : Nat} {used : List (List Nat)} {v0 i : Nat} {t t' : List Nat} (h : At sg m used v0 i t) (hu : t ∈ used) (hl : 1 ≤ t.length) (hm : t.length ≤ m) (hm' : t'.length ≤ m) (hs' : ∀ c ∈ t', c ∈ sg) (hx : Next sg m t t') (hN : 1 < top sg.length m) : At sg m used v0 (i + 1) t' := by
  rcases h with h | ⟨h1, h2⟩
  · exact absurd hu h
  · right
    refine ⟨?_, fun q hq => ?_⟩
    · rcases next_val hn hl hm hx with e | ⟨e1, e2⟩
      · have hlt := Nat.mod_lt (v0 + i) (show 0 < top sg.length m by omega)
        rcases Nat.lt_or_ge ((v0 + i) % top sg.length m + 1) (top sg.length m) with g | g
        · rw [e, h1, ← Nat.add_assoc v0, ← Nat.mod_add_mod (v0 + i), Nat.mod_eq_of_lt g]
        · exfalso
          have := Nat.le_trans (val_le sg t'.length t' rfl hs') (top_mono sg.length hm')
          omega
      · rw [e2, ← Nat.add_assoc v0]
        have h3 : (v0 + i) % top sg.length m + 1 = top sg.length m := by omega
        rw [← Nat.mod_add_mod (v0 + i), h3, Nat.mod_self]
    · rcases Nat.lt_or_ge q i with g | g
      · exact h2 q g
      · obtain rfl : q = i := by omega
        rw [← h1]
        exact List.mem_map.mpr ⟨t, hu, rfl⟩
theorem mod_inj {N a b : Nat} (h : a % N = b % N) (h1 : a ≤ b) (h2 : b < a + N) : a = b := by
  have ha := Nat.div_add_mod a N
  have hb := Nat.div_add_mod b N
  rcases Nat.eq_zero_or_pos N with rfl | hN
  · simpa using h
  · have h3 : a / N ≤ b / N := Nat.div_le_div_right h1
    have h4 : ¬ a / N + 1 ≤ b / N := by
      intro h5
      have := Nat.mul_le_mul_left N h5
      rw [Nat.mul_add, Nat.mul_one] at this
      omega
    have h5 : a / N = b / N := by omega
    rw [h5] at ha
    omega
theorem nd_map {α β : Type} {f : α → β} : ∀ {l : List α}, (∀ a ∈ l, ∀ b ∈ l, f a = f b → a = b) → l.Nodup → (l.map f).Nodup
  | [], _, _ => List.nodup_nil
  | x :: l, h, hn => by
    obtain ⟨h1, h2⟩ := List.nodup_cons.mp hn
    rw [List.map_cons]
    refine List.nodup_cons.mpr ⟨?_, nd_map (fun a ha b hb => h a (List.mem_cons_of_mem _ ha) b (List.mem_cons_of_mem _ hb)) h2⟩
    intro hx
    obtain ⟨y, hy, e⟩ := List.mem_map.mp hx
    have := h y (List.mem_cons_of_mem _ hy) x List.mem_cons_self e
    exact h1 (this ▸ hy)
theorem At.stop {sg : List Nat} {m : Nat} {used : List (List Nat)} {v0 : Nat} {t : List Nat} (h : At sg m used v0 used.length t) (hN : used.length < top sg.length m) : t ∉ used := by
  rcases h with h | ⟨h1, h2⟩
  · exact h
  · intro hu
    have hnd : ((List.range (used.length + 1)).map fun q => (v0 + q) % top sg.length m + 1).Nodup := by
      refine nd_map ?_ List.nodup_range
      intro x hx y hy e
      have hx' := List.mem_range.mp hx
      have hy' := List.mem_range.mp hy
      have e' : (v0 + x) % top sg.length m = (v0 + y) % top sg.length m := Nat.add_right_cancel e
      rcases Nat.le_total x y with g | g
      · have := mod_inj e' (by omega) (by omega)
        omega
      · have := mod_inj e'.symm (by omega) (by omega)
        omega
    have hsub : ∀ z ∈ (List.range (used.length + 1)).map fun q => (v0 + q) % top sg.length m + 1, z ∈ used.map (val sg) := by
      intro z hz
      obtain ⟨q, hq, rfl⟩ := List.mem_map.mp hz
      have hq' := List.mem_range.mp hq
      rcases Nat.lt_or_ge q used.length with g | g
      · exact h2 q g
      · obtain rfl : q = used.length := by omega
        rw [← h1]
        exact List.mem_map.mpr ⟨t, hu, rfl⟩
    have := L2.nat_nodup_len _ _ hnd hsub
    simp at this
    omega
end Fw
set_option Elab.async false
set_option linter.all false
set_option maxRecDepth 100000
set_option maxHeartbeats 4000000
/-! set(text) and len(set(text)), whatever the text -/
namespace Vk
open PySem PySem.Spec PyProof.Rows L2

/-- the different codes, in the order in which they are met -/
def met : List Nat → List Nat
  | [] => []
  | c :: r => if (met r).contains c then met r else c :: met r
def metAt (l : List Nat) (i : Nat) : List Nat := met (l.take i).reverse
theorem metAt_succ {l : List Nat} {i c : Nat} (h : l[i]? = some c) : metAt l (i + 1) = if (metAt l i).contains c then metAt l i else c :: metAt l i := by
  unfold metAt
  have e : l.take (i + 1) = l.take i ++ [c] := by
    rw [List.take_add_one, h]
    rfl
  rw [e, List.reverse_append]
  rfl
theorem met_len : ∀ l : List Nat, (met l).length ≤ l.length
  | [] => Nat.le_refl _
  | c :: r => by
    have ih := met_len r
    unfold met
    split
    · exact Nat.le_succ_of_le ih
    · simp only [List.length_cons]
      omega
theorem mem_met : ∀ (l : List Nat) (c : Nat), c ∈ met l ↔ c ∈ l
  | [], c => Iff.rfl
  | a :: r, c => by
    have ih := mem_met r
    unfold met
    by_cases h : (met r).contains a = true
    · rw [if_pos h, ih]
      have ha : a ∈ r := (ih a).mp (by simpa using h)
      constructor
      · exact fun q => List.mem_cons_of_mem _ q
      · intro q
        rcases List.mem_cons.mp q with rfl | q
        · exact ha
        · exact q
    · rw [if_neg h]
      simp only [List.mem_cons, ih]
theorem met_full : ∀ l : List Nat, (met l).length = l.length ↔ l.Nodup
  | [] => by simp [met]
  | a :: r => by
    have ih := met_full r
    have hl := met_len r
    unfold met
    by_cases h : (met r).contains a = true
    · rw [if_pos h]
      have ha : a ∈ r := (mem_met r a).mp (by simpa using h)
      constructor
      · intro e
        simp only [List.length_cons] at e
        omega
      · intro q
        exact absurd ha (List.nodup_cons.mp q).1
    · rw [if_neg h]
      have ha : a ∉ r := fun q => h (by simpa using (mem_met r a).mpr q)
      simp only [List.length_cons, List.nodup_cons, ha, not_false_eq_true, true_and, Nat.add_right_cancel_iff]
      exact ih
theorem nodup_rev {l : List Nat} : l.reverse.Nodup ↔ l.Nodup := by
  refine (List.pairwise_reverse (R := fun a b : Nat => a ≠ b)).trans ?_
  exact ⟨fun h => h.imp Ne.symm, fun h => h.imp Ne.symm⟩
theorem metAt_end (l : List Nat) : (metAt l l.length).length = l.length ↔ l.Nodup := by
  unfold metAt
  rw [List.take_length]
  have h := met_full l.reverse
  rw [List.length_reverse] at h
  exact h.trans nodup_rev
/-- the set of the signs met -/
def metS (l : List Nat) (i : Nat) : Str → Bool := fun k => (metAt l i).any fun c => decide (k = (⟨#[c]⟩ : Str))
theorem metS_mem {l : List Nat} {i c : Nat} : metS l i ⟨#[c]⟩ = (metAt l i).contains c := by
  unfold metS
  rw [Bool.eq_iff_iff, List.any_eq_true]
  constructor
  · rintro ⟨d, hd, e⟩
    have e1 : [c] = [d] := congrArg (fun y : Str => y.cps.toList) (of_decide_eq_true e)
    have e2 : c = d := (List.cons.inj e1).1
    simpa [e2] using hd
  · intro h
    exact ⟨c, by simpa using h, by simp⟩
theorem metS_step {l : List Nat} {i c : Nat} (h : l[i]? = some c) (k : Str) : (metS l i k || decide (k = (⟨#[c]⟩ : Str))) = metS l (i + 1) k := by
  unfold metS
  rw [metAt_succ h]
  by_cases q : (metAt l i).contains c = true
  · rw [if_pos q]
    by_cases e : k = (⟨#[c]⟩ : Str)
    · subst e
      have := metS_mem (l := l) (i := i) (c := c)
      unfold metS at this
      rw [this, q]
      rfl
    · simp [e]
  · rw [if_neg q, List.any_cons, Bool.or_comm]
theorem metN_step {l : List Nat} {i c : Nat} (h : l[i]? = some c) : (if metS l i ⟨#[c]⟩ = true then (metAt l i).length else (metAt l i).length + 1) = (metAt l (i + 1)).length := by
  rw [metAt_succ h, metS_mem]
  split
  · rfl
  · rfl

section
variable {prog : Program} {w : World} {A : Around} {R : Result → Shared → Prop} {I : Addr} {fp wr : List Addr} {G : Array GenState → Array GenState → Prop} {P : Nat → Value → Prop} {St : Nat → Shared → Prop}
theorem upd_text {l : List Nat} (W : WalksS prog w A.in1 I fp wr G l.length P St) (S : Addr) (hSf : S ∉ fp)
    (hval : ∀ i v, P i v → ∃ c t, l[i]? = some c ∧ v = .str ⟨#[c]⟩ t) (hb : l.length + 1 < scanBound) :
    ∀ (k i : Nat) (s : Shared), l.length - i = k → i ≤ l.length → St i s → s.heap.SetOf (strKind prog w) S (metS l i) (metAt l i).length →
      (∀ s', Moved (S :: wr) G s s' → s'.heap.SetOf (strKind prog w) S (metS l l.length) (metAt l l.length).length → R (.ok (.ret .none)) s') → codeAny (model prog w) A (.builtin "set.update.loop" ⟨[.ref S, .ref I], []⟩) R s := by
  have hSw : S ∉ wr := fun h => hSf (W.sub _ h)
  have hsub : ∀ b ∈ wr, b ∈ S :: wr := fun b hb => List.mem_cons_of_mem _ hb
  intro k
  induction k with
  | zero =>
    intro i s hk hi hst hS hR
    obtain rfl : i = l.length := by omega
    refine codeAny_builtin PyProof.Rows.F.entry_set_update_loop ?_
    rw [Around.under_plainId PyProof.Rows.F.plain_set_update_loop _]
    show wpAny _ A.in1 (pyNext (.ref I) >>= _) _ _ s
    refine wpAny_bind (W.done s _ _ hst fun s1 hm => ?_)
    show wpAny _ A.in1 (ret Value.none) _ _ s1
    refine wpAny_pure (hR s1 (hm.mono hsub) ?_)
    obtain ⟨o, es, ep, t, ho, more⟩ := hS
    exact ⟨o, es, ep, t, hm.heap S _ hSw ho, more⟩
  | succ k ih =>
    intro i s hk hi hst hS hR
    have hlt : i < l.length := by omega
    refine codeAny_builtin PyProof.Rows.F.entry_set_update_loop ?_
    rw [Around.under_plainId PyProof.Rows.F.plain_set_update_loop _]
    show wpAny _ A.in1 (pyNext (.ref I) >>= _) _ _ s
    refine wpAny_bind (W.item i s _ _ hlt hst fun v s1 hP hst1 hm => ?_)
    obtain ⟨c, t, hc, rfl⟩ := hval i v hP
    have hS1 : s1.heap.SetOf (strKind prog w) S (metS l i) (metAt l i).length := by
      obtain ⟨o, es, ep, tb, ho, more⟩ := hS
      exact ⟨o, es, ep, tb, hm.heap S _ hSw ho, more⟩
    show wpAny _ A.in1 (holding [Value.str ⟨#[c]⟩ t] (setAdd S (.str ⟨#[c]⟩ t)) >>= _) _ _ s1
    refine wpAny_bind (wpAny_holding ?_)
    unfold setAdd
    refine wpAny_holding (wpAny_bind ((strKind prog w).pyHash (k := ⟨#[c]⟩) (strKind_is _ _ _ _) ?_))
    have hroom : (metAt l i).length + 1 < scanBound := by
      have h1 := met_len (l.take i).reverse
      rw [List.length_reverse, List.length_take] at h1
      have h2 : (metAt l i).length ≤ min i l.length := h1
      omega
    refine wpAny_setAddHashed_of (knd := strKind prog w) (s := { s1 with toks := s1.toks + 1 }) (strKind_is _ _ _ _) rfl hS1 hroom fun h2 hsb hS2 => ?_
    have hSi : h2.SetOf (strKind prog w) S (metS l (i + 1)) (metAt l (i + 1)).length := SetOf_congr hS2 (fun y => metS_step hc y) (metN_step hc)
    refine wpAny_pure ⟨plainId_quiet PyProof.Rows.F.plain_set_update_loop _, ih (i + 1) _ (by omega) hlt (W.frame _ s1 _ _ hst1 (Nat.le_succ _) fun b hb o e => ?_) hSi fun s3 hm3 hS3 => ?_⟩
    · rw [hsb.2 b (fun z : b = S => hSf (by rw [← z]; exact hb))]
      exact e
    · refine hR s3 (Moved.trans W.gtrans ((hm.mono hsub).then_heap (Nat.le_succ _) fun b o hb e => ?_) hm3) hS3
      rw [hsb.2 b (fun z : b = S => hb (by rw [z]; exact List.mem_cons_self))]
      exact e
end

section
variable {prog : Program} {w : World} {A : Around} {E : Value → Shared → Prop} {s : Shared}
theorem call_set_text {x : Str} {t : Tok} {Q : Value → Shared → Prop} (hh : A.handled = none) (hb : x.cps.size + 1 < scanBound)
    (h : ∀ (h2 : Heap) (tk : Nat), h2.SetOf (strKind prog w) s.heap.objs.size (metS x.cps.toList x.cps.size) (metAt x.cps.toList x.cps.size).length →
      (∀ b o, b < s.heap.objs.size → s.heap.get? b = some o → h2.get? b = some o) → Q (.ref s.heap.objs.size) { s with heap := h2, toks := tk }) :
    wpAny (model prog w) A (call (.type "set") [.str x t]) Q E s := by
  obtain ⟨c, tl, hmro⟩ := PySem.F.called_set.mro
  have hmade := PySem.F.called_set.made
  have hsub := PySem.F.called_set.sub
  refine wpAny_call (codeAny_of_tree ?_)
  show wpAny _ _ (callAny (.type "set") _) _ _ _
  refine wpAny_pure ⟨Code.quiet_builtin _ (by decide +kernel), codeAny_builtin PySem.F.entry_type_call ?_⟩
  rw [Around.under_plain (weight_type_call_type "set" [.str x t] []) rfl]
  have h1 := PySem.F.called_set.notType
  have h2 := PySem.F.called_set.canCreate
  have hct := PySem.F.typeCall_set_1 (.str x t)
  repeat (any_goals (first | assumption | wp_step))
  refine codeAny_mono (code_set_new_1 (.str x t) (E := E) (Q₁ := fun obj s₁ => ∃ led : Bool, obj = .ref s.heap.objs.size ∧ s₁ = { s with heap := s.heap.push { cls := .type "set", dict := none, data := .set #[] 0 (.fresh 0 0 led) } }) fun led => ⟨led, rfl, rfl⟩) fun r s₁ hr => ?_
  cases r with
  | error e => exact hr
  | ok fl =>
    cases fl with
    | ret obj =>
      obtain ⟨led, rfl, rfl⟩ := hr
      have hS : (s.heap.push { cls := .type "set", dict := none, data := .set #[] 0 (.fresh 0 0 led) }).get? s.heap.objs.size = some { cls := .type "set", dict := none, data := .set #[] 0 (.fresh 0 0 led) } := Heap.get?_push_size _ rfl
      have hT : Shared.TypeIs { s with heap := s.heap.push { cls := .type "set", dict := none, data := .set #[] 0 (.fresh 0 0 led) } } (.ref s.heap.objs.size) "set" := ⟨_, hS, rfl⟩
      have hli := PySem.F.called_set.init.lookup
      have hbi := PySem.F.called_set.init.bind (.ref s.heap.objs.size)
      repeat (any_goals (first | assumption | wp_step))
      refine codeAny_mono (codeAny_call_builtin (R := wants (fun r s₂ => r = .none ∧ ∃ h2 tk, s₂ = { s with heap := h2, toks := tk } ∧
          h2.SetOf (strKind prog w) s.heap.objs.size (metS x.cps.toList x.cps.size) (metAt x.cps.toList x.cps.size).length ∧
          (∀ b o, b < s.heap.objs.size → s.heap.get? b = some o → h2.get? b = some o)) E) PySem.F.called_set.init.plain PySem.F.entry_set_init (check_set_init_1 hT ?_)) fun r₂ s₂ hr₂ => ?_
      · unfold Builtin.«set.__init__» noKeywords Builtin.Frozenset.updateFrom
        generalize hPI : pyIter = PI
        have hTx : Shared.TypeIs { s with heap := s.heap.push { cls := .type "set", dict := none, data := .set #[] 0 (.fresh 0 0 led) } } (.str x t) "str" := rfl
        have hsS : isSubtype (.type "str") (.type "set") = pure false := by rw [isSubtype_type]; kernel_rfl
        have hsF : isSubtype (.type "str") (.type "frozenset") = pure false := by rw [isSubtype_type]; kernel_rfl
        have hne : (Value.type "str" == Value.type "dict") = false := by decide
        wp_walk
        subst hPI
        refine wpAny_pyIter_str fun o St W hst => wpAny_bind (wpAny_runValue ?_)
        generalize hH : s.heap.push { cls := .type "set", dict := none, data := .set #[] 0 (.fresh 0 0 led) } = Hq at W hst hS ⊢
        have hHs : Hq.objs.size = s.heap.objs.size + 1 := by rw [← hH, Heap.size_push]
        have hSf : s.heap.objs.size ∉ [Hq.objs.size] := fun hm => by
          rw [List.mem_singleton] at hm
          omega
        have hh3 : A.in1.in1.in1.handled = none := by simp [hh]
        refine upd_text (l := x.cps.toList) ((W A.in1.in1.in1 hh3).toS) s.heap.objs.size hSf (fun i v hv => ?_) hb (x.cps.toList.length - 0) 0 _ (by omega) (Nat.zero_le _) hst ?_ ?_
        · obtain ⟨c, u, hc, e⟩ := hv
          exact ⟨c, u, by rw [Array.getElem?_toList]; exact hc, e⟩
        · exact SetOf_congr ((PyProof.Rows.setObjOf_fresh (knd := strKind prog w) led).setOf (Heap.get?_push_of_some _ hS) (by unfold scanBound; omega)) (fun _ => rfl) rfl
        · intro s1 hm hS1
          obtain ⟨h2, g2, d2, tk2, os2⟩ := s1
          have eg : g2 = s.gens := hm.gens
          have ed : d2 = s.drawn := hm.drawn
          have eo : os2 = s.os := hm.os
          subst eg; subst ed; subst eo
          show wpAny _ _ _ _ _ _
          refine wpAny_pure ?_
          show wpAny _ _ (ret Value.none) _ _ _
          refine wpAny_pure ⟨rfl, h2, tk2, rfl, hS1, fun b o hb2 e => hm.heap b o (fun z => ?_) (Heap.get?_push_of_some _ (by rw [← hH]; exact Heap.get?_push_of_some _ e))⟩
          rcases List.mem_cons.mp z with z | z
          · rw [z] at hb2
            exact Nat.lt_irrefl _ hb2
          · rw [List.mem_singleton] at z
            rw [z, hHs] at hb2
            exact Nat.not_succ_lt_self hb2
      · cases r₂ with
        | error e => exact hr₂
        | ok fl₂ =>
          cases fl₂ with
          | ret r =>
            obtain ⟨rfl, h2, tk, rfl, hS', hk'⟩ := hr₂
            repeat (any_goals (first | assumption | wp_step))
            exact h _ _ hS' hk'
          | _ => exact hr₂.elim
    | _ => exact hr.elim
end

/-- len(set(x)), x a text -/
def tLenSetT (ta : TE) : TE := fun σ H Q => ta σ H fun x H1 => ∃ z : Str, x = .str z ∧ z.length ≤ 4000 ∧ Q (.int ((metAt z.cps.toList z.cps.toList.length).length : Nat)) H1
theorem pe_lenSetT {X : Cx} {a : Expr} {ta : TE} {p p2 q pos : Pos} (hg : Gl X "len") (hm : X.mg "len" = none) (hg2 : Gl X "set") (hm2 : X.mg "set" = none) (ha : PE X a ta) (hc : X.calm = true := by rfl)
    (na : starEach [a] X.env = (false, eval a X.env) :: starEach [] X.env := by rfl) : PE X (.Call (.Name "len" p) [.Call (.Name "set" p2) [a] [] q] [] pos) (tLenSetT ta) := by
  refine ⟨fun pins s σ H Q I h => ?_⟩
  refine Call_ (ld_blt I hg hm boot_len (PyProof.Rows.callWith_builtin1 (PyProof.Rows.args_cons ?_ rfl) rfl rfl))
  refine Call_ (ld_blt I hg2 hm2 boot_set ?_)
  refine PyProof.Rows.callWith_type1 (PyProof.Rows.args_cons (thn (ha.run pins s σ H _ I h) fun v s1 hh => PyProof.Rows.args_nil ?_) na) na rfl
  obtain ⟨x, H1, I1, r1, z, rfl, hz, q1⟩ := hh
  obtain ⟨t, rfl⟩ := r1
  have hz2 : z.cps.size ≤ 4000 := hz
  refine call_set_text (I1.ok.hd hc) (by unfold scanBound; omega) fun h2 tk hS hk => PyProof.Rows.args_nil ?_
  obtain ⟨o, es, ep, tb, ho, hex, hd, _, _, _, hf, hn⟩ := hS
  have I2 : Inv X pins σ H1 { s1 with heap := h2, toks := tk } := I1.kept fun b o e => hk b o (Heap.lt_size e) e
  have hle : (metAt z.cps.toList z.cps.size).length ≤ z.cps.size := by
    have h1 := met_len (z.cps.toList.take z.cps.size).reverse
    rw [List.length_reverse, List.length_take] at h1
    exact Nat.le_trans h1 (Nat.min_le_left _ _)
  exact call_len_set ho hex hd hf (by rw [hn]; omega) ⟨.int ((metAt z.cps.toList z.cps.toList.length).length : Nat), H1, I2.tok _, ⟨_, by rw [hn]; rfl⟩, q1⟩
end Vk
set_option Elab.async false
set_option linter.all false
set_option maxRecDepth 100000
set_option maxHeartbeats 4000000
namespace Vk
open PySem PySem.Spec PyProof.Rows L2
def top (i : Nat) : Stmt := PySem.Challenge.pw_talepost_k35_book_notes.main.body.getD i (.Pass ⟨0, 0, 0, 0⟩)
abbrev sDiff : Stmt := top 27
/-- the built-in names stand for themselves -/
structure Zs (mg : Str → Option Value) : Prop where
  z_len : mg "len" = none
  z_set : mg "set" = none
  z_all : mg "all" = none
  z_abs : mg "abs" = none
  z_int : mg "int" = none
  z_range : mg "range" = none
  z_sorted : mg "sorted" = none
  z_isinstance : mg "isinstance" = none
  z_str : mg "str" = none
  z_bool : mg "bool" = none
  z_list : mg "list" = none
  z_tuple : mg "tuple" = none
  z_any : mg "any" = none
  z_enum : mg "enumerate" = none
  z_min : mg "min" = none
  z_VE : mg "ValueError" = none
structure TxA (K : PySem.W.Frag) (mg : Str → Option Value) (aDiff : Addr) : Prop extends Zs mg where
  gDiff : mg "differ_within" = some (.ref aDiff)
theorem sz4 {n : Nat} (h : n ≤ 4000) : n ≤ sizeLine := by rw [sizeLine_eq]; omega
section
variable {P : Program} {w : World} {K : PySem.W.Frag} {mg : Str → Option Value} {base : Heap} {aDiff : Addr}
/-! differ_within -/
def Differ (t a : List Nat) : Prop := t.Nodup ∧ ∀ c ∈ t, c ∈ a
instance (t a : List Nat) : Decidable (Differ t a) := inferInstanceAs (Decidable (_ ∧ _))
def spDiff : Sp := fun vs H Q _ => ∃ t a : List Nat, vs = [.str (S t), .str (S a)] ∧ t.length ≤ 4000 ∧ ∀ H', Same H H' → Q (.bl (decide (Differ t a))) H'
theorem scDiff : FnScope ["text", "allowed", "letter"] ["text", "allowed"] (defScope sDiff) := ⟨rfl, rfl, rfl, by decide +kernel, rfl, by decide +kernel, by decide +kernel⟩
theorem ok_diff {f : Addr} {fd : FuncData} (F : Fun K "differ_within" "differ_within" sDiff f fd) (T : TxA K mg aDiff) : FnOk P w K mg base CX0 1 f fd ["text", "allowed"] spDiff := by
  refine F.ok scDiff (fun vs H Q E h => ?_) (fun cdv A outer s H vs Q E hr h => ?_)
  · obtain ⟨t, a, rfl, _⟩ := h
    rfl
  · obtain ⟨t, a, rfl, hl, k⟩ := h
    refine ⟨_, (pss_one (ps_ret (pe_and (pe_cmpR op_eq (pe_lenSetT (by rfl) T.z_len (by rfl) T.z_set (pv 0)) (pe_callB call_len_str (by rfl) T.z_len (by decide +kernel) (pa_cons (pv 0) pa_nil)) (nomark _)) (pe_one (pe_callB (cr_all rfl) (by rfl) T.z_all (by decide +kernel) (pa_cons (pe_lc (own := [("letter", 2)]) (g := gName 2) (by rfl) scDiff.nd (pi_str (pv 0)) (blkOk_by (own := [("letter", 2)]) (N := ["text", "allowed", "letter"]) (sc := defScope sDiff) (by decide +kernel)) (fun _ _ _ _ _ => pg_name (i := 2) scDiff.nd rfl (Or.inl rfl)) (fun _ _ _ _ _ => pts_nil) (fun _ _ _ _ _ => (pe_cmpR op_in_sign (pv 2) (pv 1) rfl))) pa_nil)))))), ?_⟩
    have e1 : ((metAt (S t).cps.toList (S t).cps.toList.length).length = t.length) ↔ t.Nodup := by
      rw [S_cps]
      exact metAt_end t
    refine ⟨_, rfl, _, rfl, by rw [S_len]; exact hl, _, rfl, _, rfl, sz4 (by rw [S_len]; exact hl), rfl, _, rfl, ?_⟩
    have e2 : ((V.int ((metAt (S t).cps.toList (S t).cps.toList.length).length : Nat)) = V.int ((S t).length : Nat)) ↔ t.Nodup := by
      rw [S_len, ← e1]
      constructor
      · intro h
        have h2 := V.int.inj h
        omega
      · intro h
        rw [h]
    refine ite2 (fun hn => ?_) (fun hn => ?_)
    · have hnd : t.Nodup := e2.mp (of_decide_eq_true hn)
      refine ⟨_, rfl, _, rfl, fun D hD => lc_text (fun _ => true) (fun c => V.bl (decide (c ∈ a))) hl (fun _ => rfl) (fun _ _ _ _ _ q => q) (fun c hc _ H2 Q2 _ q => ⟨_, rfl, _, rfl, c, S a, rfl, rfl, by rw [S_cps]; exact q⟩) ?_⟩
      refine ⟨D, t.map (fun c => decide (c ∈ a)), rfl, ?_, ?_⟩
      · rw [List.map_map]
        refine SqL.of ?_
        rw [upd_same, List.filter_eq_self.mpr (fun _ _ => rfl)]
        rfl
      · have e3 : (t.map fun c => decide (c ∈ a)).all id = decide (Differ t a) := by
          rw [Bool.eq_iff_iff]
          simp [Differ, hnd]
        rw [e3]
        exact k _ fun b o e => by rw [upd_ne (ne_of_none e hD)]; exact e
    · have hnd : ¬ t.Nodup := fun z => hn (decide_eq_true (e2.mpr z))
      have e3 : decide (Differ t a) = false := decide_eq_false fun z => hnd z.1
      have q := k H (Same.refl H)
      rw [e3] at q
      exact q
end
def Kp (b : Addr) (H H' : Hp) : Prop := ∀ c o, c ≠ b → H c = some o → H' c = some o
theorem Kp.refl (b : Addr) (H : Hp) : Kp b H H := fun _ _ _ h => h
theorem Kp.trans {b : Addr} {H H1 H2 : Hp} (a : Kp b H H1) (c : Kp b H1 H2) : Kp b H H2 := fun d o h e => c d o h (a d o h e)
theorem Kp.upd (b : Addr) (H : Hp) (o : HO) : Kp b H (upd H b o) := fun c u h e => by rw [upd_ne h]; exact e
def azL : List Nat := (PySem.Str.ofString "abcdefghijklmnopqrstuvwxyz").cps.toList
theorem az_S : PySem.Str.ofString "abcdefghijklmnopqrstuvwxyz" = S azL := S_of _
theorem az_len : azL.length = 26 := by decide +kernel
theorem az_nodup : azL.Nodup := by decide +kernel
theorem Differ.take {l a : List Nat} (h : Differ l a) (i : Nat) : Differ (l.take i) a := ⟨h.1.sublist (List.take_sublist i l), fun c hc => h.2 c (List.mem_of_mem_take hc)⟩
theorem differ_step {l a : List Nat} {i c : Nat} (hc : l[i]? = some c) : Differ (l.take (i + 1)) a ↔ (Differ (l.take i) a ∧ c ∈ a ∧ c ∉ l.take i) := by
  have hi : i < l.length := (List.getElem?_eq_some_iff.mp hc).1
  have e : l.take (i + 1) = l.take i ++ [c] := by
    rw [List.take_succ, hc]
    rfl
  unfold Differ
  rw [e, List.nodup_append]
  constructor
  · rintro ⟨⟨h1, _, h3⟩, h2⟩
    refine ⟨⟨h1, fun d hd => h2 d (List.mem_append_left _ hd)⟩, h2 c (List.mem_append_right _ (List.mem_singleton.mpr rfl)), fun z => h3 c z c (List.mem_singleton.mpr rfl) rfl⟩
  · rintro ⟨⟨h1, h2⟩, h3, h4⟩
    refine ⟨⟨h1, by simp, fun x hx y hy exy => ?_⟩, fun d hd => ?_⟩
    · rw [List.mem_singleton] at hy
      subst hy exy
      exact h4 hx
    · rcases List.mem_append.mp hd with h | h
      · exact h2 d h
      · rw [List.mem_singleton] at h
        subst h
        exact h3
def dueT (l v : List Nat) : Str := if l.length < 1 ∨ 4 < l.length ∨ ¬ Differ l azL then "letters" else if ¬ Differ v l then "vowels" else ""
abbrev sAlph : Stmt := top 26
abbrev sEq : Stmt := inClass (top 26) 3
def consL (l v : List Nat) : List Nat := (srtL l).filter fun c => !decide (c ∈ v)
/-- what an alphabet shows: letters, vowels, consonants, signs -/
def four (l v : List Nat) : List Str := [S (srtL l), S (srtL v), S (consL l v), S (45 :: srtL l)]
def alF (l v : List Nat) : List (Str × V) := [("letters", .str (S (srtL l))), ("vowels", .str (S (srtL v))), ("consonants", .str (S (consL l v))), ("signs", .str (S (45 :: srtL l)))]
def IsAl (C : Addr) (H : Hp) (a : Addr) (l v : List Nat) : Prop := ∃ dx, H a = some (.ins C dx (alF l v))
theorem IsAl.same {C a : Addr} {H H' : Hp} {l v : List Nat} (h : IsAl C H a l v) (s : Same H H') : IsAl C H' a l v := by
  obtain ⟨dx, e⟩ := h
  exact ⟨dx, s _ _ e⟩
structure AlF (K : PySem.W.Frag) (C : Addr) : Prop where
  cl : Cls K C
  nL : NoAttr K C "letters"
  nV : NoAttr K C "vowels"
  nC : NoAttr K C "consonants"
  nS : NoAttr K C "signs"
  ic : PySem.W.findIn K (.ref C) "__class__" = some (some (.builtin "object.__class__"))
  ig : PySem.W.specialIn K (.builtin "object.__class__") "__get__" = some (some (.builtin "getset_descriptor.__get__"))
  it : PySem.W.takesIn K (.builtin "object.__class__") = some true
  im : PySem.W.mroIn K C (.type "object") = some true
theorem joined {l : List Nat} {ys : List Str} (hl : l.length < 64) (hp : ys.Perm (signsOf (S l))) (hs : sortedS ys = true) :
    ((ys.map (·.length)).sum + ys.length * (PySem.Str.ofString "").length ≤ 16777216) ∧ Txt.join (PySem.Str.ofString "") ys = S (srtL l) := by
  rw [signs_S] at hp
  have e := sorted_signs hp hs
  subst e
  have e0 : PySem.Str.ofString "" = S [] := by decide +kernel
  rw [e0]
  refine ⟨?_, join_signs _⟩
  rw [S_len, List.length_nil, Nat.mul_zero, Nat.add_zero, List.map_map]
  have e1 : (srtL l).map ((fun x : Str => x.length) ∘ fun c => S [c]) = (srtL l).map fun _ => 1 := List.map_congr_left fun c _ => S_len [c]
  rw [e1]
  have e2 : ((srtL l).map fun _ => 1).sum = (srtL l).length := by
    induction srtL l with
    | nil => rfl
    | cons x xs ih => rw [List.map_cons, List.sum_cons, ih, List.length_cons, Nat.add_comm]
  rw [e2, srtL_len]
  omega
theorem joinedL {l : List Nat} (hl : l.length < 1000) : (((l.map fun c => S [c]).map (·.length)).sum + (l.map fun c => S [c]).length * (PySem.Str.ofString "").length ≤ 16777216) ∧ Txt.join (PySem.Str.ofString "") (l.map fun c => S [c]) = S l := by
  have e0 : PySem.Str.ofString "" = S [] := by decide +kernel
  rw [e0]
  refine ⟨?_, join_signs _⟩
  rw [S_len, List.length_nil, Nat.mul_zero, Nat.add_zero, List.map_map]
  have e1 : l.map ((fun x : Str => x.length) ∘ fun c => S [c]) = l.map fun _ => 1 := List.map_congr_left fun c _ => S_len [c]
  rw [e1]
  have e2 : (l.map fun _ => 1).sum = l.length := by
    clear hl e1
    induction l with
    | nil => rfl
    | cons x xs ih => rw [List.map_cons, List.sum_cons, ih, List.length_cons, Nat.add_comm]
  rw [e2]
  omega
theorem upd_laid {H : Hp} {p : Addr} {o : HO} (h : H p = none) : Same H (upd H p o) := fun b u e => by rw [upd_ne (ne_of_none e h)]; exact e
theorem Same.trans {A B C : Hp} (h : Same A B) (k : Same B C) : Same A C := fun b u e => k b u (h b u e)
section
variable {P : Program} {w : World} {K : PySem.W.Frag} {mg : Str → Option Value} {base : Heap} {aDiff : Addr}
end
theorem S_eq_iff {a b : List Nat} : decide ((V.str (S a)) = V.str (S b)) = decide (a = b) := by
  have e : ((V.str (S a)) = V.str (S b)) ↔ a = b := ⟨fun h => S_inj.mp (V.str.inj h), fun h => by rw [h]⟩
  rw [Bool.eq_iff_iff, decide_eq_true_iff, decide_eq_true_iff]
  exact e
def AlEq (l v l2 v2 : List Nat) : Bool := decide (srtL l = srtL l2) && decide (srtL v = srtL v2)
section
variable {P : Program} {w : World} {K : PySem.W.Frag} {mg : Str → Option Value} {base : Heap} {aDiff : Addr}
def spEq (C : Addr) : Sp := fun vs H Q _ => ∃ (a b : Addr) (l v l2 v2 : List Nat), vs = [.ref a, .ref b] ∧ IsAl C H a l v ∧ IsAl C H b l2 v2 ∧ Q (.bl (AlEq l v l2 v2)) H
theorem scEq : FnScope ["self", "other"] ["self", "other"] (defScope sEq) := ⟨rfl, rfl, rfl, by decide +kernel, rfl, by decide +kernel, by decide +kernel⟩
theorem ok_eq {f C : Addr} {fd : FuncData} (F : Fun K "__eq__" "Alphabet.__eq__" sEq f fd) (T : TxA K mg aDiff) (A : AlF K C) (hC : mg "Alphabet" = some (.ref C)) : FnOk P w K mg base CX0 1 f fd ["self", "other"] (spEq C) := by
  refine F.ok scEq (fun vs H Q E h => ?_) (fun cdv A0 outer s H vs Q E hr h => ?_)
  · obtain ⟨a, b, l, v, l2, v2, rfl, _⟩ := h
    rfl
  · obtain ⟨a, b, l, v, l2, v2, rfl, ⟨dx, ha⟩, ⟨dy, hb⟩, k⟩ := h
    refine ⟨_, pss_one (ps_ret (pe_and (pe_callB call_isi (by rfl) T.z_isinstance (by decide +kernel) (pa_cons (pv 1) (pa_cons (pe_glob (v := .ref C) (by rfl) hC rfl) pa_nil)))
      (pe_and (pe_cmpR op_eq (pe_fld (pv 0) rfl) (pe_fld (pv 1) rfl) (nomark _)) (pe_one (pe_cmpR op_eq (pe_fld (pv 0) rfl) (pe_fld (pv 1) rfl) (nomark _)))))), ?_⟩
    refine ⟨_, rfl, _, _, _, _, true, rfl, .own C, .base (.ins hb A.cl A.ic A.ig A.it A.im), ?_, true, rfl, iteT ?_⟩
    · show PySem.W.kitOne K (.ref C) (.ref C) = some true
      unfold PySem.W.kitOne
      rw [if_pos (beq_iff_eq.mpr rfl)]
    refine ⟨_, rfl, a, C, dx, _, _, rfl, ha, A.cl, A.nL, rfl, _, rfl, b, C, dy, _, _, rfl, hb, A.cl, A.nL, rfl, rfl, _, rfl, ?_⟩
    have q := k
    unfold AlEq at q
    rw [← S_eq_iff, ← S_eq_iff] at q
    refine ite2 (fun h => ?_) (fun h => ?_)
    · refine ⟨_, rfl, a, C, dx, _, _, rfl, ha, A.cl, A.nV, rfl, _, rfl, b, C, dy, _, _, rfl, hb, A.cl, A.nV, rfl, rfl, ?_⟩
      rw [h, Bool.true_and] at q
      exact q
    · rw [Bool.eq_false_iff.mpr h, Bool.false_and] at q
      exact q
end
abbrev sBA : Stmt := inClass (top 3) 0
def spBA (C : Addr) : Sp := fun vs H Q _ => ∃ (a : Addr) (z : Str), vs = [.ref a, .str z] ∧ z.length ≤ 100 ∧ H a = some (exo a C none) ∧
  ∀ dx, H dx = none → dx ≠ a → Q .non (upd (upd H dx (exd dx [("part", .str z)])) a (exo a C (some dx)))
theorem scBA : SScope ["self", "part"] (defScope sBA) := ⟨rfl, rfl, rfl, by decide +kernel, by decide +kernel, by decide +kernel, fun x h => (show ∀ y ∈ (defScope sBA).names, y.2 = .free → y.1 = "__class__" by decide +kernel) _ (PySem.mem_of_lookup h) rfl, by decide +kernel, by decide +kernel⟩
section
variable {P : Program} {w : World} {K : PySem.W.Frag} {mg : Str → Option Value} {base : Heap}
theorem ok_ba {f C cc cda : Addr} {dV kV doc pm ct oc : Value} {an od : Option Addr} {osl : Array (Option Value)} (T : SupC P K mg C cc cda) (hp : PySem.W.findIn K (.ref C) "part" = some none)
    (lk : K.lookup f = some ⟨oc, od, .func (PySem.W.ksFn "__init__" "BadAlphabet.__init__" (defArgs sBA) (defBody sBA) (defScope sBA) dV kV doc pm an (.ref cda) ct cc), osl⟩) (hcd : PySem.W.codeIn K (.ref cda) "BadAlphabet.__init__" = true) :
    FnOk P w K mg base CX0 1 f (PySem.W.ksFn "__init__" "BadAlphabet.__init__" (defArgs sBA) (defBody sBA) (defScope sBA) dV kV doc pm an (.ref cda) ct cc) ["self", "part"] (spBA C) := by
  refine fn_super (self := "self") (N' := ["part"]) T lk hcd scBA rfl rfl rfl rfl (fun _ => rfl) (fun _ => rfl) (fun vs H Q E h => ?_) (fun A outer s H vs Q E hr h => ?_)
  · obtain ⟨a, z, rfl, _⟩ := h
    rfl
  · obtain ⟨a, z, rfl, hz, ha, k⟩ := h
    refine ⟨_, _, pe_joined (.cons pe_str (.cons (pe_fmt (pv 1)) (.cons pe_str .nil))), pss_one (ps_ost (pv 0) (pv 1)), ⟨a, rfl, ha⟩, ?_⟩
    have e1 : (PySem.Str.ofString "not the ").length = 8 := by decide +kernel
    have e2 : (PySem.Str.ofString " of an alphabet").length = 15 := by decide +kernel
    have e3 : Str.empty.length = 0 := by decide +kernel
    have sl : ∀ {n : Nat}, n ≤ 1000 → n ≤ sizeLine := fun h => by rw [sizeLine_eq]; omega
    have al : ∀ a b : Str, (a ++ b).length = a.length + b.length := fun a b => by
      show (a.cps ++ b.cps).size = _
      rw [Array.size_append]
      rfl
    refine ⟨_, rfl, sl ?_, _, rfl, .inl ⟨z, rfl, sl (by omega), _, rfl, sl ?_, _, rfl, sl ?_, ⟨a, rfl, ha⟩, ?_⟩⟩
    · rw [al, e1, e3]
      decide
    · rw [al, al, e1, e3]
      omega
    · rw [al, al, al, e1, e2, e3]
      omega
    · exact ⟨_, rfl, _, rfl, a, C, rfl, T.oex, hp, .inl ⟨ha, fun dx hd hn => k dx hd hn⟩⟩
end
abbrev sAI : Stmt := inClass (top 26) 2
/-- BadAlphabet as the written part holds it -/
structure BaF (P : Program) (K : PySem.W.Frag) (mg : Str → Option Value) (B fB : Addr) : Prop where
  ox : OexC K B
  iC : PySem.W.findIn K (.ref B) "__init__" = some (some (.ref fB))
  tI : PySem.W.typeIn K (.ref fB) = some (.type "function")
  gB : mg "BadAlphabet" = some (.ref B)
/-- what else stands of Alphabet: its class values -/
structure AlV (K : PySem.W.Frag) (mg : Str → Option Value) (C : Addr) (mc : Value) (tm tj tl : Tok) : Prop where
  gC : mg "Alphabet" = some (.ref C)
  gL : mg "SMALL_LETTERS" = some (.str (S azL) tl)
  rd : ClX.CRead K C mc
  most : ClX.CVal K C mc "MOST" (.int 4) (.int 4 tm)
  joint : ClX.CVal K C mc "JOINT" (.str "-") (.str "-" tj)
def spAl (C B : Addr) : Sp := fun vs H Q E => ∃ (a dx : Addr) (l v : List Nat), vs = [.ref a, .str (S l), .str (S v)] ∧ H a = some (.ins C dx []) ∧ l.length ≤ 1000 ∧ v.length ≤ 1000 ∧
  (dueT l v = "" → ∀ H', IsAl C H' a l v → Kp a H H' → Q .non H') ∧
  (dueT l v ≠ "" → ∀ d H', H d = none → H' d = some (.xd [("part", .str (dueT l v))]) → Kp a H H' → E (.ref B) (some d) H')
theorem kp_exc {H : Hp} {b dx : Addr} {o : HO} {e0 e1 e2 : HO} (ha : H b = none) (hd : (upd H b e0) dx = none) (hn : dx ≠ b) : Same H (upd (del (upd (upd (upd H b e0) dx e1) b e2) b) dx o) := fun c u e => by
  have h1 : c ≠ b := ne_of_none e ha
  have h2 : c ≠ dx := fun z => by
    subst z
    rw [upd_ne h1, e] at hd
    cases hd
  rw [upd_ne h2, del_ne h1, upd_ne h1, upd_ne h2, upd_ne h1]
  exact e
theorem Same.kp {H H' : Hp} (h : Same H H') (a : Addr) : Kp a H H' := fun c o _ e => h c o e
theorem len_of_sub : ∀ {v l : List Nat}, v.Nodup → (∀ c ∈ v, c ∈ l) → v.length ≤ l.length
  | [], l, _, _ => Nat.zero_le _
  | c :: v, l, hn, hs => by
    obtain ⟨h1, h2⟩ := List.nodup_cons.mp hn
    have hc : c ∈ l := hs c List.mem_cons_self
    have ih := len_of_sub (v := v) (l := l.erase c) h2 fun d hd => (List.mem_erase_of_ne (fun (z : d = c) => h1 (z ▸ hd))).mpr (hs d (List.mem_cons_of_mem _ hd))
    rw [List.length_erase_of_mem hc] at ih
    have := List.length_pos_of_mem hc
    rw [List.length_cons]
    omega
theorem differ_len {v l : List Nat} (h : Differ v l) : v.length ≤ l.length := len_of_sub h.1 h.2
theorem put2 (x y : V) : putF "vowels" y [("letters", x)] = ([("letters", x), ("vowels", y)] : List (Str × V)) := by
  show (if ("letters" : Str) = "vowels" then _ else (("letters" : Str), x) :: putF "vowels" y []) = _
  rw [if_neg (by decide +kernel)]
  rfl
theorem put3 (x y z : V) : putF "consonants" z [("letters", x), ("vowels", y)] = ([("letters", x), ("vowels", y), ("consonants", z)] : List (Str × V)) := by
  show (if ("letters" : Str) = "consonants" then _ else (("letters" : Str), x) :: (if ("vowels" : Str) = "consonants" then _ else (("vowels" : Str), y) :: putF "consonants" z [])) = _
  rw [if_neg (by decide +kernel), if_neg (by decide +kernel)]
  rfl
theorem put4 (x y z t : V) : putF "signs" t [("letters", x), ("vowels", y), ("consonants", z)] = ([("letters", x), ("vowels", y), ("consonants", z), ("signs", t)] : List (Str × V)) := by
  show (if ("letters" : Str) = "signs" then _ else (("letters" : Str), x) :: (if ("vowels" : Str) = "signs" then _ else (("vowels" : Str), y) :: (if ("consonants" : Str) = "signs" then _ else (("consonants" : Str), z) :: putF "signs" t []))) = _
  rw [if_neg (by decide +kernel), if_neg (by decide +kernel), if_neg (by decide +kernel)]
  rfl
theorem scAI : FnScope ["self", "letters", "vowels", "letter"] ["self", "letters", "vowels"] (defScope sAI) := ⟨rfl, rfl, rfl, by decide +kernel, rfl, by decide +kernel, by decide +kernel⟩
section
variable {P : Program} {w : World} {K : PySem.W.Frag} {mg : Str → Option Value} {base : Heap} {aDiff : Addr}
theorem ok_alph {f C B fB : Addr} {mc : Value} {tm tj tl : Tok} {fd fdD fdB : FuncData} (F : FunD K "__init__" "Alphabet.__init__" (defArgs sAI) (defBody sAI) (defScope sAI) [.str ""] [] f fd) (T : TxA K mg aDiff) (A : AlF K C) (AV : AlV K mg C mc tm tj tl) (BA : BaF P K mg B fB)
    (FDiff : Fun K "differ_within" "differ_within" sDiff aDiff fdD) (bDiff : Binds K fdD ["text", "allowed"] []) (GB : FnOk P w K mg base CX0 1 fB fdB ["self", "part"] (spBA B)) (bB : Binds K fdB ["self", "part"] []) :
    FnOk P w K mg base (L2.CX P w) 3 f fd ["self", "letters", "vowels"] (spAl C B) := by
  have GDiff : FnOk P w K mg base CX0 1 aDiff fdD ["text", "allowed"] spDiff := ok_diff FDiff T
  refine F.ok scAI (fun vs H Q E h => ?_) (fun cdv A0 outer s H vs Q E hr h => ?_)
  · obtain ⟨a, dx, l, v, rfl, _⟩ := h
    rfl
  · obtain ⟨a, dx, l, v, rfl, ha, hl, hv, kq, ke⟩ := h
    refine ⟨_, (pss_cons (ps_if (PW.pt (pw_or (pt_not (pt_chain op_le op_le pe_int (pe_callB call_len_str (by rfl) T.z_len (by decide +kernel) (pa_cons (pv 1) pa_nil)) (ClX.pe_cval (pe_glob (v := .ref C) (by rfl) AV.gC rfl)))) (pw_or1 (pt_not (pt_val (pe_call GDiff (hr.mono (by decide)) (by rfl) T.gDiff FDiff.kp bDiff .nil pass0 (pa_cons (pv 1) (pa_cons (pe_glob (v := .str (S azL)) (by rfl) AV.gL ⟨_, rfl⟩) pa_nil)))))))) (pss_one (ps_raise rfl (takes_of rfl rfl rfl rfl) (pmk_oex BA.ox BA.iC BA.tI GB (hr.mono (by decide)) bB .nil pass0 (by rfl) BA.gB (pa_cons pe_str pa_nil)))) pss_nil)
      (pss_cons (ps_if (pt_not (pt_val (pe_call GDiff (hr.mono (by decide)) (by rfl) T.gDiff FDiff.kp bDiff .nil pass0 (pa_cons (pv 2) (pa_cons (pv 1) pa_nil))))) (pss_one (ps_raise rfl (takes_of rfl rfl rfl rfl) (pmk_oex BA.ox BA.iC BA.tI GB (hr.mono (by decide)) bB .nil pass0 (by rfl) BA.gB (pa_cons pe_str pa_nil)))) pss_nil)
      (pss_cons (ps_fld (pv 0) (pe_join pe_str (pe_callB (cr_sortT rfl) (by rfl) T.z_sorted (by decide +kernel) (pa_cons (pv 1) pa_nil))) rfl)
      (pss_cons (ps_fld (pv 0) (pe_join pe_str (pe_callB (cr_sortT rfl) (by rfl) T.z_sorted (by decide +kernel) (pa_cons (pv 2) pa_nil))) rfl)
      (pss_cons (ps_fld (pv 0) (pe_join pe_str (pe_lc (own := [("letter", 3)]) (g := gName 3) (by rfl) scAI.nd (pi_str (pe_fld (pv 0) rfl)) (blkOk_by (own := [("letter", 3)]) (N := ["self", "letters", "vowels", "letter"]) (sc := defScope sAI) (by decide +kernel)) (fun _ _ _ _ _ => pg_name (i := 3) scAI.nd rfl (Or.inl rfl)) (fun _ _ _ _ _ => (pts_one (pt_cmpR op_notIn_sign (pv 3) (pv 2) rfl))) (fun _ _ _ _ _ => (pv 3)))) rfl)
      (pss_one (ps_fld (pv 0) (pe_op op_add_str (ClX.pe_cval (pe_glob (v := .ref C) (by rfl) AV.gC rfl)) (pe_fld (pv 0) rfl)) rfl))))))), ?_⟩
    have hll : (S l).length ≤ sizeLine := sz4 (by rw [S_len]; omega)
    -- what a raise leaves
    have rz : ∀ (z : Str) (H1 : Hp), z.length ≤ 100 → z ≠ "" → dueT l v = z → Same H H1 → ∀ b, H1 b = none → spBA B [.ref b, .str z] (upd H1 b (exo b B none)) (fun v H2 => v = .non ∧ ∃ (d : Addr) (fs : List (Str × V)), H2 b = some (exo b B (some d)) ∧ H2 d = some (exd d fs) ∧ H1 d = none ∧ E (.ref B) (some d) (upd (del H2 b) d (.xd fs))) (fun _ _ _ => False) := by
      intro z H1 hz hne hdue hs b hb
      refine ⟨b, z, rfl, hz, upd_same, fun d hd hn => ⟨rfl, d, [("part", .str z)], upd_same, ?_, ?_, ?_⟩⟩
      · rw [upd_ne hn, upd_same]
      · rw [upd_ne hn] at hd
        exact hd
      · have h0 : H d = none := by
          cases e : H d with
          | none => rfl
          | some u =>
            have q := hs _ _ e
            rw [upd_ne hn, q] at hd
            cases hd
        refine ke (by rw [hdue]; exact hne) d _ h0 ?_ (Same.kp (Same.trans hs (kp_exc hb hd hn)) a)
        rw [hdue]
        exact upd_same
    have rl : dueT l v = "letters" → ∀ H1, Same H H1 → ([V.str "letters"] : List V).length ≤ 1000 ∧ ∀ b, H1 b = none → spBA B [.ref b, .str "letters"] (upd H1 b (exo b B none)) (fun v H2 => v = .non ∧ ∃ (d : Addr) (fs : List (Str × V)), H2 b = some (exo b B (some d)) ∧ H2 d = some (exd d fs) ∧ H1 d = none ∧ E (.ref B) (some d) (upd (del H2 b) d (.xd fs))) (fun _ _ _ => False) :=
      fun hd H1 hs => ⟨by show 1 ≤ 1000; decide, rz "letters" H1 (by decide +kernel) (by decide +kernel) hd hs⟩
    have rv : dueT l v = "vowels" → ∀ H1, Same H H1 → ([V.str "vowels"] : List V).length ≤ 1000 ∧ ∀ b, H1 b = none → spBA B [.ref b, .str "vowels"] (upd H1 b (exo b B none)) (fun v H2 => v = .non ∧ ∃ (d : Addr) (fs : List (Str × V)), H2 b = some (exo b B (some d)) ∧ H2 d = some (exd d fs) ∧ H1 d = none ∧ E (.ref B) (some d) (upd (del H2 b) d (.xd fs))) (fun _ _ _ => False) :=
      fun hd H1 hs => ⟨by show 1 ≤ 1000; decide, rz "vowels" H1 (by decide +kernel) (by decide +kernel) hd hs⟩
    have dl : (l.length < 1 ∨ 4 < l.length ∨ ¬ Differ l azL) → dueT l v = "letters" := fun h => if_pos h
    refine ⟨_, rfl, _, rfl, hll, _, _, rfl, rfl, _, rfl, ite2 (fun h1 => ⟨C, mc, _, _, rfl, AV.rd, AV.most, _, _, rfl, rfl, _, rfl, ?_⟩) (fun h1 => ⟨_, rfl, iteT (iteT (rl (dl (.inl ?_)) H (Same.refl H)))⟩)⟩
    rotate_left
    · have : ¬ (1 : Int) ≤ ((S l).length : Int) := fun z => h1 (decide_eq_true z)
      rw [S_len] at this
      omega
    refine ite2 (fun h2 => iteT (rl (dl (.inr (.inl ?_))) H (Same.refl H))) (fun h2 => ?_)
    · have h3 : decide (((S l).length : Int) ≤ 4) = false := by
        cases e : decide (((S l).length : Int) ≤ 4) with
        | false => rfl
        | true =>
          have h2' : (!decide (((S l).length : Int) ≤ 4)) = true := h2
          rw [e] at h2'
          cases h2'
      have := of_decide_eq_false h3
      rw [S_len] at this
      omega
    have g1 : 1 ≤ l.length := by
      have := of_decide_eq_true h1
      rw [S_len] at this
      omega
    have g2 : l.length ≤ 4 := by
      have h3 : decide (((S l).length : Int) ≤ 4) = true := by
        cases e : decide (((S l).length : Int) ≤ 4) with
        | true => rfl
        | false => exact absurd (show (!decide (((S l).length : Int) ≤ 4)) = true by rw [e]; rfl) h2
      have := of_decide_eq_true h3
      rw [S_len] at this
      omega
    refine ⟨_, rfl, l, azL, rfl, by omega, fun H1 s1 => ⟨_, rfl, ite2 (fun h3 => rl (dl (.inr (.inr ?_))) H1 s1) (fun h3 => ?_)⟩⟩
    · intro z
      rw [decide_eq_true z] at h3
      cases h3
    have hDl : Differ l azL := Classical.byContradiction fun z => h3 (by rw [decide_eq_false z]; rfl)
    have hnl : ¬ (l.length < 1 ∨ 4 < l.length ∨ ¬ Differ l azL) := fun z => z.elim (fun z => by omega) fun z => z.elim (fun z => by omega) fun z => z hDl
    refine ⟨_, rfl, _, rfl, v, l, rfl, by omega, fun H2 s2' => ⟨_, rfl, ite2 (fun h4 => rv ?_ H2 (Same.trans s1 s2')) (fun h4 => ?_)⟩⟩
    · unfold dueT
      rw [if_neg hnl, if_pos ?_]
      intro z
      rw [decide_eq_true z] at h4
      cases h4
    have hDv : Differ v l := Classical.byContradiction fun z => h4 (by rw [decide_eq_false z]; rfl)
    have hdue : dueT l v = "" := by
      unfold dueT
      rw [if_neg hnl, if_neg (fun z => z hDv)]
    have hvl := differ_len hDv
    have s2 := Same.trans s1 s2'
    have ha2 := s2 _ _ ha
    -- letters
    refine ⟨⟨_, rfl⟩, _, rfl, S l, rfl, (by rw [S_len]; omega), fun ys p1 hp hs n1 => ?_⟩
    obtain ⟨b1, e1⟩ := joined (by omega) hp hs
    refine ⟨_, p1, ys, rfl, rfl, .inl (SqL.of upd_same), b1, ?_⟩
    rw [e1]
    have k3 := Same.kp (Same.trans s2 (upd_laid (o := .lst (ys.map V.str)) n1)) a
    have ha3 : (upd H2 p1 (.lst (ys.map V.str))) a = some (.ins C dx []) := upd_laid n1 _ _ ha2
    generalize upd H2 p1 (.lst (ys.map V.str)) = H3 at k3 ha3
    refine ⟨_, rfl, a, C, dx, [], rfl, ha3, A.cl, A.nL, (by show 0 < 1000; decide), ?_⟩
    have k4 := k3.trans (Kp.upd a H3 (.ins C dx (putF "letters" (.str (S (srtL l))) [])))
    have ha4 : (upd H3 a (.ins C dx (putF "letters" (.str (S (srtL l))) []))) a = some (.ins C dx [("letters", .str (S (srtL l)))]) := upd_same
    generalize upd H3 a (.ins C dx (putF "letters" (.str (S (srtL l))) [])) = H4 at k4 ha4
    -- vowels
    refine ⟨⟨_, rfl⟩, _, rfl, S v, rfl, (by rw [S_len]; omega), fun zs p2 hp2 hs2 n2 => ?_⟩
    obtain ⟨b2, e2⟩ := joined (by omega) hp2 hs2
    refine ⟨_, p2, zs, rfl, rfl, .inl (SqL.of upd_same), b2, ?_⟩
    rw [e2]
    have k5 := k4.trans (Same.kp (upd_laid (o := .lst (zs.map V.str)) n2) a)
    have ha5 : (upd H4 p2 (.lst (zs.map V.str))) a = some (.ins C dx [("letters", .str (S (srtL l)))]) := upd_laid n2 _ _ ha4
    generalize upd H4 p2 (.lst (zs.map V.str)) = H5 at k5 ha5
    refine ⟨_, rfl, a, C, dx, _, rfl, ha5, A.cl, A.nV, (by show 1 < 1000; decide), ?_⟩
    rw [put2]
    have k6 := k5.trans (Kp.upd a H5 (.ins C dx [("letters", .str (S (srtL l))), ("vowels", .str (S (srtL v)))]))
    have ha6 : (upd H5 a (.ins C dx [("letters", .str (S (srtL l))), ("vowels", .str (S (srtL v)))])) a = some (.ins C dx [("letters", .str (S (srtL l))), ("vowels", .str (S (srtL v)))]) := upd_same
    generalize upd H5 a (.ins C dx [("letters", .str (S (srtL l))), ("vowels", .str (S (srtL v)))]) = H6 at k6 ha6
    -- consonants
    have hk4 : (srtL l).length ≤ 4000 := by rw [srtL_len]; omega
    refine ⟨⟨_, rfl⟩, _, rfl, a, C, dx, _, _, rfl, ha6, A.cl, A.nL, rfl, _, rfl, fun D hD => lc_text (fun c => !decide (c ∈ v)) (fun c => V.str (S [c])) hk4 (fun _ => rfl) (fun c hc H3 Q3 _ q => ⟨_, rfl, _, rfl, c, S v, rfl, rfl, _, rfl, by rw [S_cps]; exact q⟩) (fun c hc _ H3 Q3 _ q => ⟨_, rfl, q⟩) ?_⟩
    have hc64 : (consL l v).length < 1000 := by
      have := List.length_filter_le (fun c => !decide (c ∈ v)) (srtL l)
      rw [srtL_len] at this
      unfold consL
      omega
    obtain ⟨b3, e3⟩ := joinedL hc64
    refine ⟨_, D, (consL l v).map fun c => S [c], rfl, rfl, .inl (SqL.of (by rw [List.map_map]; exact upd_same)), b3, ?_⟩
    rw [e3]
    have k7 := k6.trans (Same.kp (upd_laid (o := .lst (((srtL l).filter fun c => !decide (c ∈ v)).map fun c => V.str (S [c]))) hD) a)
    have ha7 := upd_laid (o := .lst (((srtL l).filter fun c => !decide (c ∈ v)).map fun c => V.str (S [c]))) hD _ _ ha6
    generalize upd H6 D (.lst (((srtL l).filter fun c => !decide (c ∈ v)).map fun c => V.str (S [c]))) = H7 at k7 ha7
    refine ⟨_, rfl, a, C, dx, _, rfl, ha7, A.cl, A.nC, (by show 2 < 1000; decide), ?_⟩
    rw [put3]
    have k8 := k7.trans (Kp.upd a H7 (.ins C dx [("letters", .str (S (srtL l))), ("vowels", .str (S (srtL v))), ("consonants", .str (S (consL l v)))]))
    have ha8 : (upd H7 a (.ins C dx [("letters", .str (S (srtL l))), ("vowels", .str (S (srtL v))), ("consonants", .str (S (consL l v)))])) a = some (.ins C dx [("letters", .str (S (srtL l))), ("vowels", .str (S (srtL v))), ("consonants", .str (S (consL l v)))]) := upd_same
    generalize upd H7 a (.ins C dx [("letters", .str (S (srtL l))), ("vowels", .str (S (srtL v))), ("consonants", .str (S (consL l v)))]) = H8 at k8 ha8
    -- signs
    refine ⟨C, mc, _, _, rfl, AV.rd, AV.joint, _, rfl, a, C, dx, _, _, rfl, ha8, A.cl, A.nL, rfl, _, _, rfl, rfl, ?_, _, rfl, a, C, dx, _, rfl, ha8, A.cl, A.nS, (by show 3 < 1000; decide), ?_⟩
    · refine sz4 ?_
      rw [S_len, srtL_len]
      have : (PySem.Str.ofString "-").length = 1 := by decide +kernel
      omega
    have e4 : PySem.Str.ofString "-" ++ S (srtL l) = S (45 :: srtL l) := by
      have : PySem.Str.ofString "-" = S [45] := by decide +kernel
      rw [this, S_app]
      rfl
    rw [e4, put4]
    exact kq hdue _ ⟨dx, upd_same⟩ (k8.trans (Kp.upd a H8 _))
end
end Vk
set_option Elab.async false
set_option linter.all false
set_option maxRecDepth 100000
set_option maxHeartbeats 4000000
namespace Vk
open PySem PySem.Spec PyProof.Rows L2
abbrev sBoxB : Stmt := top 29
abbrev sDraw : Stmt := top 30
/-- the box of draws at b, its great numbers at g -/
def BoxB (H : Hp) (b g : Addr) : Prop := ∃ (x m sd : Int) (gs : List Int), H b = some (.lst [.int x, .int m, .int sd, .ref g]) ∧ H g = some (.lst (gs.map V.int)) ∧ (0 ≤ x ∧ 0 ≤ m ∧ 0 ≤ sd ∧ sd ≤ 2147483647) ∧ ∀ z ∈ gs, 0 ≤ z
def Kp2 (b g : Addr) (H H' : Hp) : Prop := ∀ c o, c ≠ b → c ≠ g → H c = some o → H' c = some o
theorem Kp2.refl (b g : Addr) (H : Hp) : Kp2 b g H H := fun _ _ _ _ h => h
theorem Kp2.trans {b g : Addr} {H H1 H2 : Hp} (a : Kp2 b g H H1) (c : Kp2 b g H1 H2) : Kp2 b g H H2 := fun d o h h' e => c d o h h' (a d o h h' e)
theorem Same.kp2 {H H' : Hp} (h : Same H H') (b g : Addr) : Kp2 b g H H' := fun c o _ _ e => h c o e
theorem Kp2.updB (b g : Addr) (H : Hp) (o : HO) : Kp2 b g H (upd H b o) := fun c u h _ e => by rw [upd_ne h]; exact e
theorem Kp2.updG (b g : Addr) (H : Hp) (o : HO) : Kp2 b g H (upd H g o) := fun c u _ h e => by rw [upd_ne h]; exact e
theorem BoxB.same {H H' : Hp} {b g : Addr} (h : BoxB H b g) (s : Same H H') : BoxB H' b g := by
  obtain ⟨x, m, sd, gs, h1, h2, h3⟩ := h
  exact ⟨x, m, sd, gs, s _ _ h1, s _ _ h2, h3⟩
theorem BoxB.ne {H : Hp} {b g : Addr} (h : BoxB H b g) : b ≠ g := by
  obtain ⟨x, m, sd, gs, h1, h2, _⟩ := h
  intro e
  rw [e, h2] at h1
  have z := HO.lst.inj (Option.some.inj h1)
  cases gs with
  | nil => cases z
  | cons y r => 
    cases r with
    | nil => simp at z
    | cons y2 r =>
      cases r with
      | nil => simp at z
      | cons y3 r =>
        cases r with
        | nil => simp at z
        | cons y4 r => simp at z
theorem cut_ints (ns : List Int) (lo hi : Option Int) : ∃ ms : List Int, cutV (ns.map V.int) lo hi = ms.map V.int ∧ ms.length ≤ ns.length := by
  refine ⟨(ns.drop (HT.sIx ns.length 0 lo)).take (HT.sIx ns.length ns.length hi - HT.sIx ns.length 0 lo), ?_, ?_⟩
  · unfold cutV
    rw [List.length_map, List.map_take, List.map_drop]
  · rw [List.length_take, List.length_drop]
    omega
section
variable {P : Program} {w : World} {K : PySem.W.Frag} {mg : Str → Option Value} {base : Heap} {aDiff : Addr}
def spBoxB (K : PySem.W.Frag) : Sp := fun vs H Q _ => ∃ (a : Addr) (ns : List Int), vs = [.ref a] ∧ SqL K H a (ns.map V.int) ∧ ns.length ≤ 63 ∧ ∀ (b g : Addr) (H' : Hp), H b = none → H g = none → BoxB H' b g → Same H H' → Q (.ref b) H'
theorem scBoxB : FnScope ["_law_script", "_law_seed", "_law_great", "_law_cell"] ["_law_script"] (defScope sBoxB) := ⟨rfl, rfl, rfl, by decide +kernel, rfl, by decide +kernel, by decide +kernel⟩
theorem ok_boxB {f : Addr} {fd : FuncData} (F : Fun K "_law_box" "_law_box" sBoxB f fd) (T : TxA K mg aDiff) : FnOk P w K mg base CX0 1 f fd ["_law_script"] (spBoxB K) := by
  refine F.ok scBoxB (fun vs H Q E h => ?_) (fun cdv A outer s H vs Q E hr h => ?_)
  · obtain ⟨a, ns, rfl, _⟩ := h
    rfl
  · obtain ⟨a, ns, rfl, hS, hl, k⟩ := h
    refine ⟨_, (pss_cons (ps_set (i := 1) scBoxB.nd rfl (Or.inl rfl) pe_int)
      (pss_cons (ps_set (i := 2) scBoxB.nd rfl (Or.inl rfl) (pe_lst pa_nil))
      (pss_cons (ps_for PassesOwn.never rfl (pi_list (pe_slice sl_list (pv 0) po_none (po_some pe_int))) (pg_name (i := 3) scBoxB.nd rfl (Or.inl rfl)) (pss_cons (ps_set (i := 1) scBoxB.nd rfl (Or.inl rfl) (pe_op op_mod (pe_callTy call_int1 (by rfl) T.z_int (by decide +kernel) (pa_cons (pe_op op_add (pe_op op_add (pe_op op_mul (pv 1) pe_int) (pe_op op_mod (pe_callTy call_int1 (by rfl) T.z_int (by decide +kernel) (pa_cons (pv 3) pa_nil)) pe_int)) pe_int) pa_nil)) pe_int))
      (pss_one (ps_if (pt_cmpR op_ge (pe_callB call_abs (by rfl) T.z_abs (by decide +kernel) (pa_cons (pv 3) pa_nil)) (pe_op op_pow pe_int pe_int) (nomark _)) (pss_one (ps_expr (pe_bm PySem.F.plainAttrs_list PySem.F.slot_list_append PySem.F.type_list_append mt_append (pv 2) (pa_cons (pe_callB call_abs (by rfl) T.z_abs (by decide +kernel) (pa_cons (pv 3) pa_nil)) pa_nil)))) pss_nil))))
      (pss_one (ps_ret (pe_lst (pa_cons pe_int (pa_cons pe_int (pa_cons (pv 1) (pa_cons (pv 2) pa_nil)))))))))), ?_⟩
    refine ⟨(by show 0 ≤ sizeLine; exact Nat.zero_le _), fun g hg => ?_⟩
    have s1 : Same H (upd H g (.lst [])) := upd_laid hg
    obtain ⟨ms, ems, hms⟩ := cut_ints ns none (some 63)
    refine ⟨_, rfl, _, rfl, a, _, rfl, s1.seq hS, fun p hp => ?_⟩
    rw [ems]
    have hpg : p ≠ g := fun e => by
      rw [e, upd_same] at hp
      cases hp
    have s2 : Same H (upd (upd H g (.lst [])) p (.lst (ms.map V.int))) := Same.trans s1 (upd_laid hp)
    have hp2 : (upd (upd H g (.lst [])) p (.lst (ms.map V.int))) p = some (.lst (ms.map V.int)) := upd_same
    have hg2 : (upd (upd H g (.lst [])) p (.lst (ms.map V.int))) g = some (.lst (([] : List Int).map V.int)) := by
      rw [upd_ne hpg.symm, upd_same]
      rfl
    have hgH : H g = none := hg
    generalize upd (upd H g (.lst [])) p (.lst (ms.map V.int)) = H2 at s2 hp2 hg2
    refine ⟨p, rfl, ⟨_, SqL.of hp2⟩, for_list (K := K) (a := p) (xs := ms.map V.int) (fun i σ H' => ∃ (sd : Int) (gs : List Int) (v3 : Option V), σ = [some (.ref a), some (.int sd), some (.ref g), v3] ∧ H' g = some (.lst (gs.map V.int)) ∧ (∀ z ∈ gs, 0 ≤ z) ∧ gs.length ≤ i ∧ (0 ≤ sd ∧ sd ≤ 2147483647) ∧ Kp g H2 H')
      ⟨0, [], none, rfl, hg2, by simp, Nat.le_refl _, by decide, fun _ _ _ e => e⟩ (fun i σ H' _ ⟨_, _, _, _, _, _, _, _, kp⟩ => SqL.of (kp _ _ hpg hp2)) ?_ ?_⟩
    · rintro i y σ H1 hi ⟨sd, gs, v3, rfl, hg1, hz, hlen, ⟨q1, q2⟩, kp⟩
      obtain ⟨c, hc, rfl⟩ : ∃ c, ms[i]? = some c ∧ y = V.int c := by
        rw [List.getElem?_map] at hi
        cases e : ms[i]? with
        | none => rw [e] at hi; cases hi
        | some z => rw [e] at hi; exact ⟨z, rfl, (Option.some.inj hi).symm⟩
      have hil : i < ms.length := (List.getElem?_eq_some_iff.mp hc).1
      refine ⟨_, rfl, _, _, rfl, rfl, .inl ⟨by omega, by omega⟩, _, rfl, .inl ⟨_, rfl, _, _, rfl, rfl, by show (0 : Int) < _; decide, _, _, rfl, rfl, _, _, rfl, rfl, .inl ⟨_, rfl, _, _, rfl, rfl, by show (0 : Int) < _; decide, ?_⟩⟩⟩
      refine ⟨_, rfl, _, rfl, _, _, rfl, rfl, ⟨by decide, by decide, by decide⟩, _, _, rfl, rfl, _, rfl, ?_⟩
      have g0 := Int.emod_nonneg (sd * 69621 + c % 1000003 + 1) (show (2147483647 : Int) ≠ 0 by decide)
      have g1 := Int.emod_lt_of_pos (sd * 69621 + c % 1000003 + 1) (show (0 : Int) < 2147483647 by decide)
      refine ite2 (fun h => ?_) (fun h => ?_)
      · refine ⟨_, rfl, .inl ⟨rfl, _, SqL.of hg1⟩, _, rfl, _, rfl, g, _, _, rfl, rfl, hg1, by rw [List.length_map, sizeLine_eq]; omega, ?_⟩
        refine ⟨_, gs ++ [if c < 0 then -c else c], _, rfl, ?_, ?_, ?_, ⟨g0, by omega⟩, kp.trans (Kp.upd _ _ _)⟩
        · rw [upd_same, List.map_append]
          rfl
        · intro z hzm
          rcases List.mem_append.mp hzm with h | h
          · exact hz z h
          · rw [List.mem_singleton] at h
            rw [h]
            split <;> omega
        · rw [List.length_append]
          show gs.length + 1 ≤ i + 1
          omega
      · exact ⟨_, gs, _, rfl, hg1, hz, by omega, ⟨g0, by omega⟩, kp⟩
    · rintro σ H1 ⟨sd, gs, v3, rfl, hg1, hz, hlen, hq, kp⟩
      refine ⟨_, rfl, _, rfl, (by show 4 ≤ sizeLine; decide), fun b hb => ?_⟩
      have hbg : b ≠ g := fun e => by
        rw [e, hg1] at hb
        cases hb
      have s3 : Same H H1 := fun c u e => kp c u (ne_of_none e hgH) (s2 _ _ e)
      refine k b g _ (s3.free hb) hgH ⟨0, 0, sd, gs, upd_same, ?_, ⟨by decide, by decide, hq⟩, hz⟩ (Same.trans s3 (upd_laid hb))
      rw [upd_ne hbg.symm]
      exact hg1
end
end Vk
set_option Elab.async false
set_option linter.all false
set_option maxRecDepth 100000
set_option maxHeartbeats 4000000
namespace Vk
open PySem PySem.Spec PyProof.Rows L2
theorem dp_ints {K : PySem.W.Frag} {H : Hp} : ∀ ns : List Int, DpAll K H (ns.map V.int) (ns.map PyData.int)
  | [] => .nil
  | n :: r => .cons (.int n) (dp_ints r)
theorem em1 (z : Int) : -(2 ^ 64) < z % 2147483563 ∧ z % 2147483563 < 2 ^ 64 := by
  have h0 := Int.emod_nonneg z (show (2147483563 : Int) ≠ 0 by decide)
  have h1 := Int.emod_lt_of_pos z (show (0 : Int) < 2147483563 by decide)
  omega
theorem em2 (z : Int) : -(2 ^ 64) < z % 998244353 ∧ z % 998244353 < 2 ^ 64 := by
  have h0 := Int.emod_nonneg z (show (998244353 : Int) ≠ 0 by decide)
  have h1 := Int.emod_lt_of_pos z (show (0 : Int) < 998244353 by decide)
  omega
section
variable {P : Program} {w : World} {K : PySem.W.Frag} {mg : Str → Option Value} {base : Heap} {aDiff : Addr}
def spDraw : Sp := fun vs H Q _ => ∃ (b g : Addr) (n : Int), vs = [.ref b, .int n] ∧ BoxB H b g ∧ n < 2 ^ 30 ∧
  ∀ (r : Nat) (H' : Hp), (r = 0 ∨ (r : Int) < n) → BoxB H' b g → Kp2 b g H H' → Q (.int r) H'
theorem scDraw : FnScope ["_law_box_here", "_law_many", "_law_digit", "_law_first", "_law_second", "_law_third"] ["_law_box_here", "_law_many"] (defScope sDraw) := ⟨rfl, rfl, rfl, by decide +kernel, rfl, by decide +kernel, by decide +kernel⟩
theorem ok_draw {f : Addr} {fd : FuncData} (F : Fun K "_law_draw" "_law_draw" sDraw f fd) (T : TxA K mg aDiff) : FnOk P w K mg base CX0 1 f fd ["_law_box_here", "_law_many"] spDraw := by
  refine F.ok scDraw (fun vs H Q E h => ?_) (fun cdv A outer s H vs Q E hr h => ?_)
  · obtain ⟨b, g, n, rfl, _⟩ := h
    rfl
  · obtain ⟨b, g, n, rfl, hB, h30, k⟩ := h
    refine ⟨_, (pss_cons (ps_if (pt_cmpR op_lt (pv 1) pe_int (nomark _)) (pss_one (ps_ret pe_int)) pss_nil)
      (pss_cons (ps_if (PW.pt (pw_and (pt_cmpR op_lt (pe_ix ix_list (pv 0) pe_int (fun _ _ => rfl)) pe_int (nomark _)) (pw_and1 (pt_cmpR (op_neD hr.units) (pe_ix ix_list (pv 0) pe_int (fun _ _ => rfl)) (pe_lst pa_nil) (nomark _))))) (pss_one (ps_asg (pe_bm PySem.F.plainAttrs_list PySem.F.slot_list_pop PySem.F.type_list_pop mt_popAt (pe_ix ix_list (pv 0) pe_int (fun _ _ => rfl)) (pa_cons pe_int pa_nil)) (pg_sub (pv 0) pe_int set_list))) pss_nil)
      (pss_cons (ps_if (pt_cmpR op_gt (pe_ix ix_list (pv 0) pe_int (fun _ _ => rfl)) pe_int (nomark _)) (pss_cons (ps_set (i := 2) scDraw.nd rfl (Or.inl rfl) (pe_op op_mod (pe_callTy call_int1 (by rfl) T.z_int (by decide +kernel) (pa_cons (pe_ix ix_list (pv 0) pe_int (fun _ _ => rfl)) pa_nil)) (pv 1)))
      (pss_cons (ps_asg (pe_op op_fdivN (pe_ix ix_list (pv 0) pe_int (fun _ _ => rfl)) (pv 1)) (pg_sub (pv 0) pe_int set_list))
      (pss_one (ps_ret (pv 2))))) pss_nil)
      (pss_cons (ps_if (pt_cmpR op_eq (pe_ix ix_list (pv 0) pe_int (fun _ _ => rfl)) pe_int (nomark _)) (pss_one (ps_ret pe_int)) pss_nil)
      (pss_cons (ps_asg (pe_op op_add (pe_ix ix_list (pv 0) pe_int (fun _ _ => rfl)) pe_int) (pg_sub (pv 0) pe_int set_list))
      (pss_cons (ps_set (i := 3) scDraw.nd rfl (Or.inl rfl) (pe_op op_mod (pe_callTy call_int1 (by rfl) T.z_int (by decide +kernel) (pa_cons (pe_op op_add (pe_op op_mul (pe_ix ix_list (pv 0) pe_int (fun _ _ => rfl)) pe_int) (pe_op op_mul (pe_ix ix_list (pv 0) pe_int (fun _ _ => rfl)) pe_int)) pa_nil)) pe_int))
      (pss_cons (ps_set (i := 4) scDraw.nd rfl (Or.inl rfl) (pe_op op_mod (pe_callTy call_int1 (by rfl) T.z_int (by decide +kernel) (pa_cons (pe_op op_add (pe_op op_add (pe_op op_mul (pv 3) (pv 3)) (pe_op op_mul (pe_ix ix_list (pv 0) pe_int (fun _ _ => rfl)) pe_int)) (pe_ix ix_list (pv 0) pe_int (fun _ _ => rfl))) pa_nil)) pe_int))
      (pss_cons (ps_set (i := 5) scDraw.nd rfl (Or.inl rfl) (pe_op op_mod (pe_callTy call_int1 (by rfl) T.z_int (by decide +kernel) (pa_cons (pe_op op_add (pe_op op_mul (pv 4) (pv 4)) (pe_op op_mul (pv 3) pe_int)) pa_nil)) pe_int))
      (pss_one (ps_ret (pe_op op_mod (pe_callTy call_int1 (by rfl) T.z_int (by decide +kernel) (pa_cons (pe_op op_fdiv (pv 5) pe_int) pa_nil)) (pv 1)))))))))))), ?_⟩
    have hB0 := hB
    have hbg := hB.ne
    obtain ⟨x, m, sd, gs, hb, hg, ⟨hx, hm, hs1, hs2⟩, hgs⟩ := hB
    refine ⟨_, rfl, _, _, rfl, rfl, _, rfl, ite2 (fun hn => k 0 H (.inl rfl) hB0 (Kp2.refl _ _ _)) (fun hn => ?_)⟩
    have h2 : 2 ≤ n := by
      have : ¬ n < 2 := fun z => hn (decide_eq_true z)
      omega
    have h0 : 0 < n := by omega
    refine ⟨_, rfl, b, _, 0, _, rfl, rfl, SqL.of hb, rfl, _, _, rfl, rfl, _, rfl, ite2 (fun hc => ?_) (fun hc => iteF ?_)⟩
    · refine ⟨_, rfl, b, _, 3, _, rfl, rfl, SqL.of hb, rfl, (by show 0 ≤ sizeLine; exact Nat.zero_le _), fun p hp => ?_⟩
      have hb' := upd_laid (o := .lst []) hp _ _ hb
      have hg' := upd_laid (o := .lst []) hp _ _ hg
      have s1 : Same H (upd H p (.lst [])) := upd_laid hp
      refine ⟨.list (gs.map PyData.int), .list (([] : List Int).map PyData.int), .lst (SqL.of hg') (dp_ints gs), .lst (SqL.of (xs := ([] : List Int).map V.int) upd_same) (dp_ints []), PySem.W.ke_shaped_ints gs, PySem.W.ke_shaped_ints [], ?_⟩
      generalize upd H p (.lst []) = H1 at hb' hg' s1
      have kp1 : Kp2 b g H H1 := Same.kp2 s1 b g
      rw [show PyData.eqv (.list (gs.map PyData.int)) (.list (([] : List Int).map PyData.int)) = decide (gs = []) from PySem.W.Datum.eqv (α := List Int) gs []]
      refine ⟨_, rfl, ite2 (fun he => ?_) (fun he => ?_)⟩
      · cases gs with
        | nil => cases he
        | cons z r =>
          refine ⟨_, rfl, b, _, 3, _, rfl, rfl, SqL.of hb', rfl, .inl ⟨rfl, _, SqL.of hg'⟩, g, _, 0, 0, _, rfl, rfl, hg', by decide, by decide, ?_, rfl, ?_⟩
          · show seqIndex? 0 _ = some 0
            unfold seqIndex?
            rw [List.length_map, List.length_cons]
            simp
          · have hb2 : (upd H1 g (.lst ((V.int z :: r.map V.int).eraseIdx 0))) b = some (.lst [.int x, .int m, .int sd, .ref g]) := by rw [upd_ne hbg]; exact hb'
            refine ⟨_, rfl, b, _, 0, 0, rfl, rfl, hb2, rfl, ?_⟩
            have hb3 : (upd (upd H1 g (.lst ((V.int z :: r.map V.int).eraseIdx 0))) b (.lst [.int z, .int m, .int sd, .ref g])) b = some (.lst [.int z, .int m, .int sd, .ref g]) := upd_same
            have hg3 : (upd (upd H1 g (.lst ((V.int z :: r.map V.int).eraseIdx 0))) b (.lst [.int z, .int m, .int sd, .ref g])) g = some (.lst (r.map V.int)) := by
              rw [upd_ne hbg.symm, upd_same]
              rfl
            have kp3 := (kp1.trans (Kp2.updG b g H1 (.lst ((V.int z :: r.map V.int).eraseIdx 0)))).trans (Kp2.updB b g _ (.lst [.int z, .int m, .int sd, .ref g]))
            have hz : 0 ≤ z := hgs z List.mem_cons_self
            have hgs' : ∀ z ∈ r, 0 ≤ z := fun y hy => hgs y (List.mem_cons_of_mem _ hy)
            refine ⟨_, rfl, b, _, 0, _, rfl, rfl, SqL.of hb3, rfl, _, _, rfl, rfl, _, rfl, ite2 (fun h => ?_) (fun h => ?_)⟩
            · refine ⟨_, rfl, b, _, 0, _, rfl, rfl, SqL.of hb3, rfl, .inl ⟨_, rfl, _, rfl, _, _, rfl, rfl, h0, ?_⟩⟩
              refine ⟨_, rfl, b, _, 0, _, rfl, rfl, SqL.of hb3, rfl, _, rfl, _, _, rfl, rfl, ⟨by omega, by omega⟩, ?_⟩
              refine ⟨_, rfl, b, _, 0, 0, rfl, rfl, hb3, rfl, _, rfl, ?_⟩
              have g0 := Int.emod_nonneg z (Int.ne_of_gt h0)
              have g1 := Int.emod_lt_of_pos z h0
              obtain ⟨r1, er⟩ : ∃ r1 : Nat, z % n = (r1 : Int) := ⟨(z % n).toNat, by omega⟩
              have gq : 0 ≤ (z).fdiv n := by
                rw [Int.fdiv_eq_ediv_of_nonneg _ (Int.le_of_lt h0)]
                exact Int.ediv_nonneg hz (Int.le_of_lt h0)
              show Q (.int (z % n)) _
              rw [er]
              refine k r1 _ (.inr (by omega)) ⟨(z).fdiv n, m, sd, _, upd_same, (by rw [upd_ne hbg.symm]; exact hg3), ⟨gq, hm, hs1, hs2⟩, hgs'⟩ (kp3.trans (Kp2.updB _ _ _ _))
            · refine ⟨_, rfl, b, _, 2, _, rfl, rfl, SqL.of hb3, rfl, rfl, _, rfl, ite2 (fun h => k 0 _ (.inl rfl) ⟨z, m, sd, _, hb3, hg3, ⟨hz, hm, hs1, hs2⟩, hgs'⟩ kp3) (fun h => ?_)⟩
              refine ⟨_, rfl, b, _, 1, _, rfl, rfl, SqL.of hb3, rfl, _, _, rfl, rfl, _, rfl, b, _, 1, 1, rfl, rfl, hb3, rfl, ?_⟩
              refine ⟨_, rfl, b, _, 2, _, rfl, rfl, SqL.of upd_same, rfl, _, _, rfl, rfl, .inr ⟨by decide, by decide⟩, _, rfl, b, _, 1, _, rfl, rfl, SqL.of upd_same, rfl, _, _, rfl, rfl, .inr ⟨by decide, by decide⟩, _, _, rfl, rfl, .inl ⟨_, rfl, _, _, rfl, rfl, by show (0 : Int) < _; decide, ?_⟩⟩
              refine ⟨_, rfl, _, rfl, _, _, rfl, rfl, .inl (em1 _), _, rfl, b, _, 1, _, rfl, rfl, SqL.of upd_same, rfl, _, _, rfl, rfl, .inr ⟨by decide, by decide⟩, _, _, rfl, rfl, _, rfl, b, _, 2, _, rfl, rfl, SqL.of upd_same, rfl, _, _, rfl, rfl, .inl ⟨_, rfl, _, _, rfl, rfl, by show (0 : Int) < _; decide, ?_⟩⟩
              refine ⟨_, rfl, _, rfl, _, _, rfl, rfl, .inl (em2 _), _, rfl, _, _, rfl, rfl, .inr ⟨by decide, by decide⟩, _, _, rfl, rfl, .inl ⟨_, rfl, _, _, rfl, rfl, by show (0 : Int) < _; decide, ?_⟩⟩
              refine ⟨_, rfl, _, _, rfl, rfl, ⟨by decide, by decide⟩, .inl ⟨_, rfl, _, rfl, _, _, rfl, rfl, h0, ?_⟩⟩
              have key : ∀ zz : Int, Q (.int (zz % n)) (upd _ b (.lst [.int z, .int (m + 1), .int sd, .ref g])) := fun zz => by
                have g0 := Int.emod_nonneg zz (Int.ne_of_gt h0)
                have g1 := Int.emod_lt_of_pos zz h0
                obtain ⟨r1, er⟩ : ∃ r1 : Nat, zz % n = (r1 : Int) := ⟨(zz % n).toNat, by omega⟩
                rw [er]
                exact k r1 _ (.inr (by omega)) ⟨z, m + 1, sd, _, upd_same, (by rw [upd_ne hbg.symm]; exact hg3), ⟨hz, by omega, hs1, hs2⟩, hgs'⟩ (kp3.trans (Kp2.updB _ _ _ _))
              exact key _
      · refine ⟨_, rfl, b, _, 0, _, rfl, rfl, SqL.of hb', rfl, _, _, rfl, rfl, _, rfl, ite2 (fun h => ?_) (fun h => ?_)⟩
        · refine ⟨_, rfl, b, _, 0, _, rfl, rfl, SqL.of hb', rfl, .inl ⟨_, rfl, _, rfl, _, _, rfl, rfl, h0, ?_⟩⟩
          refine ⟨_, rfl, b, _, 0, _, rfl, rfl, SqL.of hb', rfl, _, rfl, _, _, rfl, rfl, ⟨by omega, by omega⟩, ?_⟩
          refine ⟨_, rfl, b, _, 0, 0, rfl, rfl, hb', rfl, _, rfl, ?_⟩
          have g0 := Int.emod_nonneg x (Int.ne_of_gt h0)
          have g1 := Int.emod_lt_of_pos x h0
          obtain ⟨r1, er⟩ : ∃ r1 : Nat, x % n = (r1 : Int) := ⟨(x % n).toNat, by omega⟩
          have gq : 0 ≤ (x).fdiv n := by
            rw [Int.fdiv_eq_ediv_of_nonneg _ (Int.le_of_lt h0)]
            exact Int.ediv_nonneg hx (Int.le_of_lt h0)
          show Q (.int (x % n)) _
          rw [er]
          refine k r1 _ (.inr (by omega)) ⟨(x).fdiv n, m, sd, _, upd_same, (by rw [upd_ne hbg.symm]; exact hg'), ⟨gq, hm, hs1, hs2⟩, hgs⟩ (kp1.trans (Kp2.updB _ _ _ _))
        · refine ⟨_, rfl, b, _, 2, _, rfl, rfl, SqL.of hb', rfl, rfl, _, rfl, ite2 (fun h => k 0 _ (.inl rfl) ⟨x, m, sd, _, hb', hg', ⟨hx, hm, hs1, hs2⟩, hgs⟩ kp1) (fun h => ?_)⟩
          refine ⟨_, rfl, b, _, 1, _, rfl, rfl, SqL.of hb', rfl, _, _, rfl, rfl, _, rfl, b, _, 1, 1, rfl, rfl, hb', rfl, ?_⟩
          refine ⟨_, rfl, b, _, 2, _, rfl, rfl, SqL.of upd_same, rfl, _, _, rfl, rfl, .inr ⟨by decide, by decide⟩, _, rfl, b, _, 1, _, rfl, rfl, SqL.of upd_same, rfl, _, _, rfl, rfl, .inr ⟨by decide, by decide⟩, _, _, rfl, rfl, .inl ⟨_, rfl, _, _, rfl, rfl, by show (0 : Int) < _; decide, ?_⟩⟩
          refine ⟨_, rfl, _, rfl, _, _, rfl, rfl, .inl (em1 _), _, rfl, b, _, 1, _, rfl, rfl, SqL.of upd_same, rfl, _, _, rfl, rfl, .inr ⟨by decide, by decide⟩, _, _, rfl, rfl, _, rfl, b, _, 2, _, rfl, rfl, SqL.of upd_same, rfl, _, _, rfl, rfl, .inl ⟨_, rfl, _, _, rfl, rfl, by show (0 : Int) < _; decide, ?_⟩⟩
          refine ⟨_, rfl, _, rfl, _, _, rfl, rfl, .inl (em2 _), _, rfl, _, _, rfl, rfl, .inr ⟨by decide, by decide⟩, _, _, rfl, rfl, .inl ⟨_, rfl, _, _, rfl, rfl, by show (0 : Int) < _; decide, ?_⟩⟩
          refine ⟨_, rfl, _, _, rfl, rfl, ⟨by decide, by decide⟩, .inl ⟨_, rfl, _, rfl, _, _, rfl, rfl, h0, ?_⟩⟩
          have key : ∀ zz : Int, Q (.int (zz % n)) (upd _ b (.lst [.int x, .int (m + 1), .int sd, .ref g])) := fun zz => by
            have g0 := Int.emod_nonneg zz (Int.ne_of_gt h0)
            have g1 := Int.emod_lt_of_pos zz h0
            obtain ⟨r1, er⟩ : ∃ r1 : Nat, zz % n = (r1 : Int) := ⟨(zz % n).toNat, by omega⟩
            rw [er]
            exact k r1 _ (.inr (by omega)) ⟨x, m + 1, sd, _, upd_same, (by rw [upd_ne hbg.symm]; exact hg'), ⟨hx, by omega, hs1, hs2⟩, hgs⟩ (kp1.trans (Kp2.updB _ _ _ _))
          exact key _
    · refine ⟨_, rfl, b, _, 0, _, rfl, rfl, SqL.of hb, rfl, _, _, rfl, rfl, _, rfl, ite2 (fun h => ?_) (fun h => ?_)⟩
      · refine ⟨_, rfl, b, _, 0, _, rfl, rfl, SqL.of hb, rfl, .inl ⟨_, rfl, _, rfl, _, _, rfl, rfl, h0, ?_⟩⟩
        refine ⟨_, rfl, b, _, 0, _, rfl, rfl, SqL.of hb, rfl, _, rfl, _, _, rfl, rfl, ⟨by omega, by omega⟩, ?_⟩
        refine ⟨_, rfl, b, _, 0, 0, rfl, rfl, hb, rfl, _, rfl, ?_⟩
        have g0 := Int.emod_nonneg x (Int.ne_of_gt h0)
        have g1 := Int.emod_lt_of_pos x h0
        obtain ⟨r1, er⟩ : ∃ r1 : Nat, x % n = (r1 : Int) := ⟨(x % n).toNat, by omega⟩
        have gq : 0 ≤ (x).fdiv n := by
          rw [Int.fdiv_eq_ediv_of_nonneg _ (Int.le_of_lt h0)]
          exact Int.ediv_nonneg hx (Int.le_of_lt h0)
        show Q (.int (x % n)) _
        rw [er]
        refine k r1 _ (.inr (by omega)) ⟨(x).fdiv n, m, sd, _, upd_same, (by rw [upd_ne hbg.symm]; exact hg), ⟨gq, hm, hs1, hs2⟩, hgs⟩ ((Kp2.refl b g H).trans (Kp2.updB _ _ _ _))
      · refine ⟨_, rfl, b, _, 2, _, rfl, rfl, SqL.of hb, rfl, rfl, _, rfl, ite2 (fun h => k 0 _ (.inl rfl) ⟨x, m, sd, _, hb, hg, ⟨hx, hm, hs1, hs2⟩, hgs⟩ (Kp2.refl b g H)) (fun h => ?_)⟩
        refine ⟨_, rfl, b, _, 1, _, rfl, rfl, SqL.of hb, rfl, _, _, rfl, rfl, _, rfl, b, _, 1, 1, rfl, rfl, hb, rfl, ?_⟩
        refine ⟨_, rfl, b, _, 2, _, rfl, rfl, SqL.of upd_same, rfl, _, _, rfl, rfl, .inr ⟨by decide, by decide⟩, _, rfl, b, _, 1, _, rfl, rfl, SqL.of upd_same, rfl, _, _, rfl, rfl, .inr ⟨by decide, by decide⟩, _, _, rfl, rfl, .inl ⟨_, rfl, _, _, rfl, rfl, by show (0 : Int) < _; decide, ?_⟩⟩
        refine ⟨_, rfl, _, rfl, _, _, rfl, rfl, .inl (em1 _), _, rfl, b, _, 1, _, rfl, rfl, SqL.of upd_same, rfl, _, _, rfl, rfl, .inr ⟨by decide, by decide⟩, _, _, rfl, rfl, _, rfl, b, _, 2, _, rfl, rfl, SqL.of upd_same, rfl, _, _, rfl, rfl, .inl ⟨_, rfl, _, _, rfl, rfl, by show (0 : Int) < _; decide, ?_⟩⟩
        refine ⟨_, rfl, _, rfl, _, _, rfl, rfl, .inl (em2 _), _, rfl, _, _, rfl, rfl, .inr ⟨by decide, by decide⟩, _, _, rfl, rfl, .inl ⟨_, rfl, _, _, rfl, rfl, by show (0 : Int) < _; decide, ?_⟩⟩
        refine ⟨_, rfl, _, _, rfl, rfl, ⟨by decide, by decide⟩, .inl ⟨_, rfl, _, rfl, _, _, rfl, rfl, h0, ?_⟩⟩
        have key : ∀ zz : Int, Q (.int (zz % n)) (upd _ b (.lst [.int x, .int (m + 1), .int sd, .ref g])) := fun zz => by
          have g0 := Int.emod_nonneg zz (Int.ne_of_gt h0)
          have g1 := Int.emod_lt_of_pos zz h0
          obtain ⟨r1, er⟩ : ∃ r1 : Nat, zz % n = (r1 : Int) := ⟨(zz % n).toNat, by omega⟩
          rw [er]
          exact k r1 _ (.inr (by omega)) ⟨x, m + 1, sd, _, upd_same, (by rw [upd_ne hbg.symm]; exact hg), ⟨hx, by omega, hs1, hs2⟩, hgs⟩ ((Kp2.refl b g H).trans (Kp2.updB _ _ _ _))
        exact key _
end
end Vk
set_option Elab.async false
set_option linter.all false
set_option maxRecDepth 100000
set_option maxHeartbeats 4000000
namespace Vk
open PySem PySem.Spec PyProof.Rows L2
structure Ad where
  aDiff : Addr
  aBoxB : Addr
  aDraw : Addr
  aLetters : Addr
  aWord : Addr
  aSucc : Addr
  aFresh : Addr
  aOverL : Addr
  aKin : Addr
  aRows : Addr
  aIsWord : Addr
  aFault : Addr
  aBookL : Addr
  aLine : Addr
  aMixed : Addr
  aCharL : Addr
  aEdited : Addr
  aFurther : Addr
  aExch : Addr
  aChanged : Addr
  aReadL : Addr
  aParsed : Addr
  aJudged : Addr
  aCheck : Addr
  aIsForm : Addr
  aOver : Addr
  aConf : Addr
  aFormat : Addr
  aParse : Addr
  aLaw : Addr
  cBook : Addr
  cAlphabet : Addr
structure Fd where
  dDiff : FuncData
  dBoxB : FuncData
  dDraw : FuncData
  dLetters : FuncData
  dWord : FuncData
  dSucc : FuncData
  dFresh : FuncData
  dOverL : FuncData
  dKin : FuncData
  dRows : FuncData
  dIsWord : FuncData
  dFault : FuncData
  dBookL : FuncData
  dLine : FuncData
  dMixed : FuncData
  dCharL : FuncData
  dEdited : FuncData
  dFurther : FuncData
  dExch : FuncData
  dChanged : FuncData
  dReadL : FuncData
  dParsed : FuncData
  dJudged : FuncData
  dCheck : FuncData
  dIsForm : FuncData
  dOver : FuncData
  dConf : FuncData
  dFormat : FuncData
  dParse : FuncData
  dLaw : FuncData
abbrev sLetters : Stmt := top 31
abbrev sWord : Stmt := top 32
abbrev sSucc : Stmt := top 33
abbrev sFresh : Stmt := top 34
abbrev sOverL : Stmt := top 35
abbrev sKin : Stmt := top 36
abbrev sRows : Stmt := top 37
abbrev sIsWord : Stmt := top 38
abbrev sFault : Stmt := top 39
abbrev sBookL : Stmt := top 40
abbrev sLine : Stmt := top 41
abbrev sMixed : Stmt := top 42
abbrev sCharL : Stmt := top 43
abbrev sEdited : Stmt := top 44
abbrev sFurther : Stmt := top 45
abbrev sExch : Stmt := top 46
abbrev sChanged : Stmt := top 47
abbrev sReadL : Stmt := top 48
abbrev sParsed : Stmt := top 49
abbrev sJudged : Stmt := top 50
abbrev sCheck : Stmt := top 17
abbrev sIsForm : Stmt := top 18
abbrev sOver : Stmt := top 19
abbrev sConf : Stmt := top 20
abbrev sFormat : Stmt := top 22
abbrev sParse : Stmt := top 23
abbrev sLaw : Stmt := top 51
structure Fns (K : PySem.W.Frag) (mg : Str → Option Value) (a : Ad) (d : Fd) : Prop extends TxA K mg a.aDiff where
  FDiff : Fun K "differ_within" "differ_within" sDiff a.aDiff d.dDiff
  bDiff : Binds K d.dDiff ["text", "allowed"] []
  gBoxB : mg "_law_box" = some (.ref a.aBoxB)
  FBoxB : Fun K "_law_box" "_law_box" sBoxB a.aBoxB d.dBoxB
  bBoxB : Binds K d.dBoxB ["_law_script"] []
  gDraw : mg "_law_draw" = some (.ref a.aDraw)
  FDraw : Fun K "_law_draw" "_law_draw" sDraw a.aDraw d.dDraw
  bDraw : Binds K d.dDraw ["_law_box_here", "_law_many"] []
  gLetters : mg "_law_letters" = some (.ref a.aLetters)
  FLetters : Fun K "_law_letters" "_law_letters" sLetters a.aLetters d.dLetters
  bLetters : Binds K d.dLetters ["_law_box_here", "_law_count"] []
  gWord : mg "_law_word" = some (.ref a.aWord)
  FWord : Fun K "_law_word" "_law_word" sWord a.aWord d.dWord
  bWord : Binds K d.dWord ["_law_box_here", "_law_signs", "_law_most", "_law_shift"] []
  gSucc : mg "_law_successor" = some (.ref a.aSucc)
  FSucc : Fun K "_law_successor" "_law_successor" sSucc a.aSucc d.dSucc
  bSucc : Binds K d.dSucc ["_law_signs", "_law_word_here", "_law_most"] []
  gFresh : mg "_law_fresh" = some (.ref a.aFresh)
  FFresh : Fun K "_law_fresh" "_law_fresh" sFresh a.aFresh d.dFresh
  bFresh : Binds K d.dFresh ["_law_signs", "_law_word_here", "_law_most", "_law_used"] []
  gOverL : mg "_law_overlap" = some (.ref a.aOverL)
  FOverL : Fun K "_law_overlap" "_law_overlap" sOverL a.aOverL d.dOverL
  bOverL : Binds K d.dOverL ["_law_place", "_law_other"] []
  gKin : mg "_law_kin" = some (.ref a.aKin)
  FKin : Fun K "_law_kin" "_law_kin" sKin a.aKin d.dKin
  bKin : Binds K d.dKin ["_law_box_here", "_law_signs", "_law_words", "_law_most"] []
  gRows : mg "_law_rows" = some (.ref a.aRows)
  FRows : Fun K "_law_rows" "_law_rows" sRows a.aRows d.dRows
  bRows : Binds K d.dRows ["_law_box_here", "_law_signs", "_law_count", "_law_most"] []
  gIsWord : mg "_law_is_word" = some (.ref a.aIsWord)
  FIsWord : Fun K "_law_is_word" "_law_is_word" sIsWord a.aIsWord d.dIsWord
  bIsWord : Binds K d.dIsWord ["_law_word_here", "_law_signs", "_law_most"] []
  gFault : mg "_law_fault" = some (.ref a.aFault)
  FFault : Fun K "_law_fault" "_law_fault" sFault a.aFault d.dFault
  bFault : Binds K d.dFault ["_law_signs", "_law_entry", "_law_rows_here"] []
  gBookL : mg "_law_book" = some (.ref a.aBookL)
  FBookL : Fun K "_law_book" "_law_book" sBookL a.aBookL d.dBookL
  bBookL : Binds K d.dBookL ["_law_alphabet", "_law_rows_here"] []
  gLine : mg "_law_line" = some (.ref a.aLine)
  FLine : Fun K "_law_line" "_law_line" sLine a.aLine d.dLine
  bLine : Binds K d.dLine ["_law_row"] []
  gMixed : mg "_law_mixed" = some (.ref a.aMixed)
  FMixed : Fun K "_law_mixed" "_law_mixed" sMixed a.aMixed d.dMixed
  bMixed : Binds K d.dMixed ["_law_box_here", "_law_lines"] []
  gCharL : mg "_law_char" = some (.ref a.aCharL)
  FCharL : Fun K "_law_char" "_law_char" sCharL a.aCharL d.dCharL
  bCharL : Binds K d.dCharL ["_law_box_here", "_law_signs"] []
  gEdited : mg "_law_edited" = some (.ref a.aEdited)
  FEdited : Fun K "_law_edited" "_law_edited" sEdited a.aEdited d.dEdited
  bEdited : Binds K d.dEdited ["_law_box_here", "_law_signs", "_law_text"] []
  gFurther : mg "_law_further" = some (.ref a.aFurther)
  FFurther : Fun K "_law_further" "_law_further" sFurther a.aFurther d.dFurther
  bFurther : Binds K d.dFurther ["_law_box_here", "_law_signs", "_law_rows_here"] []
  gExch : mg "_law_exchanged" = some (.ref a.aExch)
  FExch : Fun K "_law_exchanged" "_law_exchanged" sExch a.aExch d.dExch
  bExch : Binds K d.dExch ["_law_box_here", "_law_line_here"] []
  gChanged : mg "_law_changed" = some (.ref a.aChanged)
  FChanged : Fun K "_law_changed" "_law_changed" sChanged a.aChanged d.dChanged
  bChanged : Binds K d.dChanged ["_law_box_here", "_law_signs", "_law_rows_here", "_law_lines"] []
  gReadL : mg "_law_read" = some (.ref a.aReadL)
  FReadL : Fun K "_law_read" "_law_read" sReadL a.aReadL d.dReadL
  bReadL : Binds K d.dReadL ["_law_signs", "_law_text"] []
  gParsed : mg "_law_parsed" = some (.ref a.aParsed)
  FParsed : Fun K "_law_parsed" "_law_parsed" sParsed a.aParsed d.dParsed
  bParsed : Binds K d.dParsed ["_law_alphabet", "_law_text"] []
  gJudged : mg "_law_judged" = some (.ref a.aJudged)
  FJudged : Fun K "_law_judged" "_law_judged" sJudged a.aJudged d.dJudged
  bJudged : Binds K d.dJudged ["_law_alphabet", "_law_signs", "_law_text"] []
  gCheck : mg "check_entry" = some (.ref a.aCheck)
  FCheck : Fun K "check_entry" "check_entry" sCheck a.aCheck d.dCheck
  bCheck : Binds K d.dCheck ["alphabet", "entry", "earlier"] []
  gIsForm : mg "is_form" = some (.ref a.aIsForm)
  FIsForm : Fun K "is_form" "is_form" sIsForm a.aIsForm d.dIsForm
  bIsForm : Binds K d.dIsForm ["alphabet", "form"] []
  gOver : mg "overlap" = some (.ref a.aOver)
  FOver : Fun K "overlap" "overlap" sOver a.aOver d.dOver
  bOver : Binds K d.dOver ["place", "other"] []
  gConf : mg "conflict" = some (.ref a.aConf)
  FConf : Fun K "conflict" "conflict" sConf a.aConf d.dConf
  bConf : Binds K d.dConf ["entry", "other"] []
  gFormat : mg "format_book" = some (.ref a.aFormat)
  FFormat : Fun K "format_book" "format_book" sFormat a.aFormat d.dFormat
  bFormat : Binds K d.dFormat ["book"] []
  gParse : mg "parse_book" = some (.ref a.aParse)
  FParse : Fun K "parse_book" "parse_book" sParse a.aParse d.dParse
  bParse : Binds K d.dParse ["alphabet", "text"] []
  gLaw : mg "law" = some (.ref a.aLaw)
  FLaw : Fun K "law" "law" sLaw a.aLaw d.dLaw
  bLaw : Binds K d.dLaw ["_law_script"] []
theorem Fns.tx {K : PySem.W.Frag} {mg : Str → Option Value} {a : Ad} {d : Fd} (T : Fns K mg a d) : TxA K mg a.aDiff := T.toTxA
theorem cut_perm {q : List Nat} {r c : Nat} (h : q[r]? = some c) : (c :: (q.take r ++ q.drop (r + 1))).Perm q := by
  have hr : r < q.length := (List.getElem?_eq_some_iff.mp h).1
  have hc : q[r] = c := (List.getElem?_eq_some_iff.mp h).2
  have e : q.take r ++ c :: q.drop (r + 1) = q := by
    rw [← hc, ← List.drop_eq_getElem_cons hr, List.take_append_drop]
  exact List.perm_middle.symm.trans (List.Perm.of_eq e)
theorem erase_map {α β : Type} (f : α → β) : ∀ (q : List α) (r : Nat), (q.map f).eraseIdx r = (q.take r ++ q.drop (r + 1)).map f
  | [], r => by simp
  | x :: q, 0 => by simp
  | x :: q, r + 1 => by
    rw [List.map_cons, List.eraseIdx_cons_succ, erase_map f q r]
    rfl
theorem alen (a b : Str) : (a ++ b).length = a.length + b.length := by
  rw [S_of a, S_of b, S_app, S_len, S_len, S_len, List.length_append]
theorem atI_mod {l : List Nat} (h : 0 < l.length) (z : Int) : ∃ c, atI (S l).cps.toList (z % ((S l).length : Int)) = some c ∧ c ∈ l := by
  rw [S_cps, S_len]
  have h0 := Int.emod_nonneg z (show (l.length : Int) ≠ 0 by omega)
  have h1 := Int.emod_lt_of_pos z (show (0 : Int) < l.length by omega)
  obtain ⟨j, ej⟩ : ∃ j : Nat, z % (l.length : Int) = (j : Int) := ⟨(z % (l.length : Int)).toNat, by omega⟩
  obtain ⟨c, hc⟩ : ∃ c, l[j]? = some c := ⟨_, List.getElem?_eq_getElem (by omega)⟩
  exact ⟨c, by rw [ej]; exact atI_nat hc, List.mem_of_getElem? hc⟩
section
variable {P : Program} {w : World} {K : PySem.W.Frag} {mg : Str → Option Value} {base : Heap} {a : Ad} {d : Fd}
theorem gDraw (T : Fns K mg a d) : FnOk P w K mg base CX0 1 a.aDraw d.dDraw ["_law_box_here", "_law_many"] spDraw := ok_draw T.FDraw T.tx
def spLetters : Sp := fun vs H Q _ => ∃ (b g : Addr) (n : Nat), vs = [.ref b, .int (n : Int)] ∧ BoxB H b g ∧ n ≤ 20 ∧
  ∀ (l : List Nat) (H' : Hp), l.length = n → Differ l azL → BoxB H' b g → Kp2 b g H H' → Q (.str (S l)) H'
theorem scLetters : FnScope ["_law_box_here", "_law_count", "_law_pool", "_law_letters_here", "_law_k"] ["_law_box_here", "_law_count"] (defScope sLetters) := ⟨rfl, rfl, rfl, by decide +kernel, rfl, by decide +kernel, by decide +kernel⟩
theorem BoxB.al {H : Hp} {b g : Addr} (h : BoxB H b g) : (∃ o, H b = some o) ∧ ∃ o, H g = some o := by
  obtain ⟨x, m, sd, gs, h1, h2, _⟩ := h
  exact ⟨⟨_, h1⟩, ⟨_, h2⟩⟩
theorem ok_letters (T : Fns K mg a d) : FnOk P w K mg base CX0 2 a.aLetters d.dLetters ["_law_box_here", "_law_count"] spLetters := by
  have GDraw : FnOk P w K mg base CX0 1 a.aDraw d.dDraw ["_law_box_here", "_law_many"] spDraw := gDraw T
  refine T.FLetters.ok scLetters (fun vs H Q E h => ?_) (fun cdv A outer s H vs Q E hr h => ?_)
  · obtain ⟨b, g, n, rfl, _⟩ := h
    rfl
  · obtain ⟨b, g, n, rfl, hB, hn, k⟩ := h
    refine ⟨_, (pss_cons (ps_set (i := 2) scLetters.nd rfl (Or.inl rfl) (pe_callTy (call_listT rfl) (by rfl) T.z_list (by decide +kernel) (pa_cons pe_str pa_nil)))
      (pss_cons (ps_set (i := 3) scLetters.nd rfl (Or.inl rfl) pe_str)
      (pss_cons (ps_for PassesOwn.never rfl (pi_range1 (by rfl) T.z_range (pa_cons (pv 1) pa_nil)) (pg_name (i := 4) scLetters.nd rfl (Or.inl rfl)) (pss_one (ps_set (i := 3) scLetters.nd rfl (Or.inl rfl) (pe_op op_add_str (pv 3) (pe_bm PySem.F.plainAttrs_list PySem.F.slot_list_pop PySem.F.type_list_pop mt_popAt (pv 2) (pa_cons (pe_call GDraw (hr.mono (by decide)) (by rfl) T.gDraw T.FDraw.kp T.bDraw .nil pass0 (pa_cons (pv 0) (pa_cons (pe_callB call_len_seq (by rfl) T.z_len (by decide +kernel) (pa_cons (pv 2) pa_nil)) pa_nil))) pa_nil))))))
      (pss_one (ps_ret (pv 3)))))), ?_⟩
    obtain ⟨⟨ob, hob⟩, ⟨og, hog⟩⟩ := hB.al
    refine ⟨_, rfl, (by decide +kernel), fun p hp => ?_⟩
    rw [az_S, signs_S]
    have pb : p ≠ b := fun z => by rw [z, hob] at hp; cases hp
    have pg : p ≠ g := fun z => by rw [z, hog] at hp; cases hp
    have hp1 : (upd H p (.lst ((azL.map fun c => S [c]).map V.str))) p = some (.lst (azL.map fun c => V.str (S [c]))) := by
      rw [upd_same, List.map_map]
      rfl
    have s1 : Same H (upd H p (.lst ((azL.map fun c => S [c]).map V.str))) := upd_laid hp
    generalize upd H p (.lst ((azL.map fun c => S [c]).map V.str)) = H1 at hp1 s1
    have e0 : PySem.Str.ofString "" = S [] := by decide +kernel
    rw [e0]
    refine ⟨_, rfl, _, rfl, by omega, by omega, for_range (lo := 0) (n := n) (fun i σ H' => ∃ (l q : List Nat) (v4 : Option V), σ = [some (.ref b), some (.int n), some (.ref p), some (.str (S l)), v4] ∧ l.length = i ∧ (l ++ q).Perm azL ∧ H' p = some (.lst (q.map fun c => V.str (S [c]))) ∧ BoxB H' b g ∧ Kp2 b g H H')
      ⟨[], azL, none, rfl, rfl, List.Perm.refl _, hp1, hB.same s1, Same.kp2 s1 b g⟩ ?_ ?_⟩
    · rintro i σ H2 hi ⟨l, q, v4, rfl, hl, hper, hp2, hB2, hk2⟩
      have hq := hper.length_eq
      rw [List.length_append, az_len] at hq
      refine ⟨_, rfl, _, rfl, .inl ⟨rfl, _, SqL.of hp2⟩, _, rfl, _, rfl, p, _, rfl, .inl (SqL.of hp2), b, g, _, rfl, hB2, by rw [List.length_map]; omega, fun r H3 hr3 hB3 hk3 => ?_⟩
      rw [List.length_map] at hr3
      have hp3 := hk3 _ _ pb pg hp2
      obtain ⟨c, hc⟩ : ∃ c, q[r]? = some c := ⟨_, List.getElem?_eq_getElem (by omega)⟩
      have hrq : r < q.length := (List.getElem?_eq_some_iff.mp hc).1
      have hat : (q.map fun c => V.str (S [c]))[r]? = some (V.str (S [c])) := by
        rw [List.getElem?_map, hc]
        rfl
      obtain ⟨j, j1, j2, _⟩ := atI_get (atI_nat hat)
      have hj : j = r := by
        have h3 : seqIndex? (r : Int) (q.map fun c => V.str (S [c])).length = some r := by
          unfold seqIndex?
          rw [List.length_map]
          have h4 : ¬ ((r : Int) < 0) := by omega
          simp [h4, hrq]
        rw [h3] at j1
        exact (Option.some.inj j1).symm
      subst hj
      refine ⟨p, _, _, j, _, rfl, rfl, hp3, by omega, by omega, j1, hat, _, _, rfl, rfl, ?_, ?_⟩
      · rw [S_len, S_len]
        exact sz4 (by show l.length + 1 ≤ 4000; omega)
      · refine ⟨l ++ [c], q.take j ++ q.drop (j + 1), _, (by rw [← S_app]; rfl), by rw [List.length_append, hl]; rfl, ?_, ?_, ?_, ?_⟩
        · rw [List.append_assoc]
          exact ((cut_perm hc).append_left l).trans hper
        · rw [upd_same, erase_map]
        · obtain ⟨x, m, sd, gs, h1, h2, h3⟩ := hB3
          exact ⟨x, m, sd, gs, by rw [upd_ne pb.symm]; exact h1, by rw [upd_ne pg.symm]; exact h2, h3⟩
        · intro c2 o h1 h2 h3
          have hne : c2 ≠ p := ne_of_none h3 hp
          rw [upd_ne hne]
          exact hk3 _ _ h1 h2 (hk2 _ _ h1 h2 h3)
    · rintro σ H2 ⟨l, q, v4, rfl, hl, hper, hp2, hB2, hk2⟩
      have hnd := hper.nodup_iff.mpr az_nodup
      exact ⟨_, rfl, k l H2 hl ⟨(List.nodup_append.mp hnd).1, fun c hc => hper.mem_iff.mp (List.mem_append_left _ hc)⟩ hB2 hk2⟩
def spWord : Sp := fun vs H Q _ => ∃ (b g : Addr) (sg : List Nat) (m z : Nat), vs = [.ref b, .str (S sg), .int (m : Int), .int (z : Int)] ∧ BoxB H b g ∧ 1 ≤ sg.length ∧ sg.length ≤ 100 ∧ 1 ≤ m ∧ m ≤ 8 ∧ z ≤ 1000 ∧
  ∀ (l : List Nat) (H' : Hp), 1 ≤ l.length → l.length ≤ m → (∀ c ∈ l, c ∈ sg) → BoxB H' b g → Kp2 b g H H' → Q (.str (S l)) H'
theorem scWord : FnScope ["_law_box_here", "_law_signs", "_law_most", "_law_shift", "_law_word_here", "_law_k"] ["_law_box_here", "_law_signs", "_law_most", "_law_shift"] (defScope sWord) := ⟨rfl, rfl, rfl, by decide +kernel, rfl, by decide +kernel, by decide +kernel⟩
theorem ok_word (T : Fns K mg a d) : FnOk P w K mg base CX0 2 a.aWord d.dWord ["_law_box_here", "_law_signs", "_law_most", "_law_shift"] spWord := by
  have GDraw : FnOk P w K mg base CX0 1 a.aDraw d.dDraw ["_law_box_here", "_law_many"] spDraw := gDraw T
  refine T.FWord.ok scWord (fun vs H Q E h => ?_) (fun cdv A outer s H vs Q E hr h => ?_)
  · obtain ⟨b, g, sg, m, z, rfl, _⟩ := h
    rfl
  · obtain ⟨b, g, sg, m, z, rfl, hB, hs1, hs2, hm1, hm2, hz, k⟩ := h
    refine ⟨_, (pss_cons (ps_set (i := 4) scWord.nd rfl (Or.inl rfl) pe_str)
      (pss_cons (ps_for PassesOwn.never rfl (pi_range1 (by rfl) T.z_range (pa_cons (pe_op op_add pe_int (pe_op op_mod (pe_callTy call_int1 (by rfl) T.z_int (by decide +kernel) (pa_cons (pe_op op_add (pe_call GDraw (hr.mono (by decide)) (by rfl) T.gDraw T.FDraw.kp T.bDraw .nil pass0 (pa_cons (pv 0) (pa_cons (pv 2) pa_nil))) (pv 3)) pa_nil)) (pv 2))) pa_nil)) (pg_name (i := 5) scWord.nd rfl (Or.inl rfl)) (pss_one (ps_set (i := 4) scWord.nd rfl (Or.inl rfl) (pe_op op_add_str (pv 4) (pe_ix ix_str (pv 1) (pe_op op_mod (pe_callTy call_int1 (by rfl) T.z_int (by decide +kernel) (pa_cons (pe_op op_add (pe_op op_add (pe_call GDraw (hr.mono (by decide)) (by rfl) T.gDraw T.FDraw.kp T.bDraw .nil pass0 (pa_cons (pv 0) (pa_cons (pe_callB call_len_str (by rfl) T.z_len (by decide +kernel) (pa_cons (pv 1) pa_nil)) pa_nil))) (pv 5)) pe_int) pa_nil)) (pe_callB call_len_str (by rfl) T.z_len (by decide +kernel) (pa_cons (pv 1) pa_nil))) (fun _ _ => rfl))))))
      (pss_one (ps_ret (pv 4))))), ?_⟩
    have hsl : (S sg).length ≤ sizeLine := sz4 (by rw [S_len]; omega)
    have e0 : PySem.Str.ofString "" = S [] := by decide +kernel
    rw [e0]
    refine ⟨_, rfl, _, rfl, b, g, _, rfl, hB, by omega, fun r H1 hr1 hB1 hk1 => ⟨_, rfl, _, _, rfl, rfl, .inl ⟨_, rfl, _, rfl, _, _, rfl, rfl, by omega, _, _, rfl, rfl, ?_⟩⟩⟩
    have g0 := Int.emod_nonneg ((r : Int) + (z : Int)) (show (m : Int) ≠ 0 by omega)
    have g1 := Int.emod_lt_of_pos ((r : Int) + (z : Int)) (show (0 : Int) < m by omega)
    refine ⟨_, rfl, by omega, by omega, for_range (lo := 0) (n := (1 + ((r : Int) + (z : Int)) % (m : Int)).toNat) (fun i σ H' => ∃ (l : List Nat) (v5 : Option V), σ = [some (.ref b), some (.str (S sg)), some (.int m), some (.int z), some (.str (S l)), v5] ∧ l.length = i ∧ (∀ c ∈ l, c ∈ sg) ∧ BoxB H' b g ∧ Kp2 b g H H')
      ⟨[], none, rfl, rfl, by simp, hB1, hk1⟩ ?_ ?_⟩
    · rintro i σ H2 hi ⟨l, v5, rfl, hl, hsub, hB2, hk2⟩
      refine ⟨_, rfl, _, rfl, _, rfl, _, rfl, _, rfl, hsl, b, g, _, rfl, hB2, by rw [S_len]; omega, fun r2 H3 hr3 hB3 hk3 => ?_⟩
      obtain ⟨c, hc1, hc2⟩ := atI_mod (l := sg) (by omega) ((r2 : Int) + (0 + (i : Int)) + 1)
      refine ⟨_, rfl, _, _, rfl, rfl, _, _, rfl, rfl, .inl ⟨_, rfl, _, rfl, _, rfl, hsl, _, _, rfl, rfl, by rw [S_len]; omega, S sg, _, c, rfl, rfl, hsl, hc1, _, _, rfl, rfl, ?_, ?_⟩⟩
      · rw [S_len]
        exact sz4 (by show l.length + 1 ≤ 4000; omega)
      · refine ⟨l ++ [c], _, (by rw [← S_app]; rfl), by rw [List.length_append, hl]; rfl, ?_, hB3, hk2.trans hk3⟩
        intro x hx
        rcases List.mem_append.mp hx with h | h
        · exact hsub x h
        · rw [List.mem_singleton] at h
          subst h
          exact hc2
    · rintro σ H2 ⟨l, v5, rfl, hl, hsub, hB2, hk2⟩
      exact ⟨_, rfl, k l H2 (by omega) (by omega) hsub hB2 hk2⟩
end
end Vk
set_option Elab.async false
set_option linter.all false
set_option maxRecDepth 100000
set_option maxHeartbeats 4000000
namespace Vk
open PySem PySem.Spec PyProof.Rows L2
theorem idx_first {sg : List Nat} {c : Nat} (hc : c ∈ sg) : ∃ i rest, Builtin.Str.occurrences (S sg) (⟨#[c]⟩ : Str) 0 (S sg).length 1 = i :: rest ∧ sg[i]? = some c := by
  rcases StrLaws.occ_head (S sg) (⟨#[c]⟩ : Str) 1 (Nat.le_refl 1) with ⟨h1, _⟩ | ⟨i, r, h1, h2, _⟩
  · have h := PySem.StrLaws.found_one (S sg) c
    rw [h1, S_cps, decide_eq_true hc] at h
    cases h
  · refine ⟨i, r, h1, ?_⟩
    have h3 := PySem.StrLaws.at_take h2
    rw [S_cps] at h3
    have h4 : (sg.drop i).take 1 = [c] := h3
    have h5 : (sg.drop i)[0]? = some c := by
      cases e : sg.drop i with
      | nil => rw [e] at h4; cases h4
      | cons x xs =>
        rw [e] at h4
        have := List.head_eq_of_cons_eq h4
        rw [this]
        rfl
    rw [List.getElem?_drop, Nat.add_zero] at h5
    exact h5
theorem atI_last {l : List Nat} (h : 0 < l.length) : ∃ e, atI (S l).cps.toList (-1) = some e ∧ l[l.length - 1]? = some e := by
  obtain ⟨e, he⟩ : ∃ e, l[l.length - 1]? = some e := ⟨_, List.getElem?_eq_getElem (by omega)⟩
  refine ⟨e, ?_, he⟩
  rw [S_cps]
  unfold atI ixN
  rw [if_neg (by omega), if_pos (by omega)]
  have : ((-1 : Int) + (l.length : Int)).toNat = l.length - 1 := by omega
  rw [this]
  exact he
theorem one_eq {c e : Nat} : decide ((V.str (⟨#[c]⟩ : Str)) = V.str (⟨#[e]⟩ : Str)) = decide (c = e) := by
  have h : ((V.str (⟨#[c]⟩ : Str)) = V.str (⟨#[e]⟩ : Str)) ↔ c = e := ⟨fun h => List.head_eq_of_cons_eq (S_inj.mp (show S [c] = S [e] from V.str.inj h)), fun h => by rw [h]⟩
  rw [Bool.eq_iff_iff, decide_eq_true_iff, decide_eq_true_iff]
  exact h
theorem rep_one {n c : Nat} : repL n [c] = List.replicate n c := by
  unfold repL
  induction n with
  | zero => rfl
  | succ n ih => rw [List.replicate_succ, List.flatten_cons, ih, List.replicate_succ]; rfl
def WordOk (sg : List Nat) (m : Nat) (l : List Nat) : Prop := 1 ≤ l.length ∧ l.length ≤ m ∧ ∀ c ∈ l, c ∈ sg
def anyL : List Nat := (PySem.Str.ofString "any").cps.toList
def ovB (p o : List Nat) : Bool := decide (p = o) || (decide (p = anyL) || decide (o = anyL))
theorem rep_mem {n c : Nat} {l : List Nat} (h : c ∈ repL n l) : c ∈ l := by
  unfold repL at h
  obtain ⟨x, hx, hc⟩ := List.mem_flatten.mp h
  rw [List.eq_of_mem_replicate hx] at hc
  exact hc
theorem eqV_S (a b : List Nat) : eqV (.str (S a)) (.str (S b)) = decide (a = b) := by
  show (S a == S b) = _
  rw [Bool.eq_iff_iff, beq_iff_eq, decide_eq_true_iff]
  exact S_inj
theorem inV_strs (t : List Nat) : ∀ us : List (List Nat), inV (.str (S t)) (us.map fun l => V.str (S l)) = decide (t ∈ us)
  | [] => by simp [inV]
  | u :: us => by
    have ih := inV_strs t us
    unfold inV at ih ⊢
    rw [List.map_cons, List.any_cons, ih, eqV_S, Bool.eq_iff_iff, Bool.or_eq_true_iff, decide_eq_true_iff, decide_eq_true_iff, decide_eq_true_iff, List.mem_cons]
    exact ⟨fun h => h.imp Eq.symm id, fun h => h.imp Eq.symm id⟩
section
variable {P : Program} {w : World} {K : PySem.W.Frag} {mg : Str → Option Value} {base : Heap} {a : Ad} {d : Fd}
def spSucc : Sp := fun vs H Q _ => ∃ (sg l : List Nat) (m : Nat), vs = [.str (S sg), .str (S l), .int (m : Int)] ∧ 1 ≤ sg.length ∧ sg.length ≤ 100 ∧ m ≤ 8 ∧ WordOk sg m l ∧ ∀ t, WordOk sg m t → Fw.Next sg m l t → Q (.str (S t)) H
theorem scSucc : FnScope ["_law_signs", "_law_word_here", "_law_most", "_law_at"] ["_law_signs", "_law_word_here", "_law_most"] (defScope sSucc) := ⟨rfl, rfl, rfl, by decide +kernel, rfl, by decide +kernel, by decide +kernel⟩
theorem ok_succ (T : Fns K mg a d) : FnOk P w K mg base CX0 1 a.aSucc d.dSucc ["_law_signs", "_law_word_here", "_law_most"] spSucc := by
  refine T.FSucc.ok scSucc (fun vs H Q E h => ?_) (fun cdv A outer s H vs Q E hr h => ?_)
  · obtain ⟨sg, l, m, rfl, _⟩ := h
    rfl
  · obtain ⟨sg, l, m, rfl, hs1, hs2, hm, ⟨hw1, hw2, hw3⟩, k⟩ := h
    refine ⟨_, (pss_cons (ps_set (i := 3) scSucc.nd rfl (Or.inl rfl) (pe_op op_sub (pe_callB call_len_str (by rfl) T.z_len (by decide +kernel) (pa_cons (pv 1) pa_nil)) pe_int))
      (pss_cons (ps_while PassesOwn.never (PW.pt (pw_and (pt_cmpR op_ge (pv 3) pe_int (nomark _)) (pw_and1 (pt_cmpR op_eq (pe_ix ix_str (pv 1) (pv 3) (fun _ _ => rfl)) (pe_ix ix_str (pv 0) (pe_un un_neg pe_int) (fun _ _ => rfl)) (nomark _))))) (pss_one (ps_set (i := 3) scSucc.nd rfl (Or.inl rfl) (pe_op op_sub (pv 3) pe_int))))
      (pss_cons (ps_if (pt_cmpR op_lt (pv 3) pe_int (nomark _)) (pss_one (ps_ret (pe_op op_mulT (pe_ix ix_str (pv 0) pe_int (fun _ _ => rfl)) (pe_op op_add (pe_op op_mod (pe_callTy call_int1 (by rfl) T.z_int (by decide +kernel) (pa_cons (pe_callB call_len_str (by rfl) T.z_len (by decide +kernel) (pa_cons (pv 1) pa_nil)) pa_nil)) (pv 2)) pe_int)))) pss_nil)
      (pss_one (ps_ret (pe_op op_add_str (pe_op op_add_str (pe_slice sl_str (pv 1) po_none (po_some (pv 3))) (pe_ix ix_str (pv 0) (pe_op op_add (pe_m1 PySem.F.slot_str_index PySem.F.type_str_index mt_sindex (pv 0) (pe_ix ix_str (pv 1) (pv 3) (fun _ _ => rfl))) pe_int) (fun _ _ => rfl))) (pe_op op_mulT (pe_ix ix_str (pv 0) pe_int (fun _ _ => rfl)) (pe_op op_sub (pe_op op_sub (pe_callB call_len_str (by rfl) T.z_len (by decide +kernel) (pa_cons (pv 1) pa_nil)) pe_int) (pv 3))))))))), ?_⟩
    have hsl : (S sg).length ≤ sizeLine := sz4 (by rw [S_len]; omega)
    have hll : (S l).length ≤ sizeLine := sz4 (by rw [S_len]; omega)
    obtain ⟨e, he1, he2⟩ := atI_last (l := sg) (by omega)
    obtain ⟨f0, hf0⟩ : ∃ f0, sg[0]? = some f0 := ⟨_, List.getElem?_eq_getElem (by omega)⟩
    have hat0 : atI (S sg).cps.toList 0 = some f0 := by rw [S_cps]; exact atI_nat (j := 0) hf0
    have hf0m := List.mem_of_getElem? hf0
    refine ⟨_, rfl, _, rfl, hll, _, _, rfl, rfl, fun m0 σ H1 => H1 = H ∧ ∃ t : Int, σ = [some (.str (S sg)), some (.str (S l)), some (.int m), some (.int t)] ∧ t + 1 = (m0 : Int) ∧ (m0 : Int) ≤ l.length ∧ l.drop m0 = List.replicate (l.length - m0) e, ⟨l.length, rfl, _, rfl, ?_, Int.le_refl _, by simp⟩, ?_⟩
    · rw [S_len]
      show ((l.length : Int) - 1) + 1 = _
      omega
    rintro m0 σ H1 ⟨rfl, t, rfl, ht1, ht2, hdr⟩
    refine ⟨_, rfl, _, _, rfl, rfl, _, rfl, ite2 (fun h => ?_) (fun h => iteF ?_)⟩
    · have h0 : 0 ≤ t := of_decide_eq_true h
      obtain ⟨j, rfl⟩ : ∃ j : Nat, t = (j : Int) := ⟨t.toNat, by omega⟩
      obtain ⟨c, hc⟩ : ∃ c, l[j]? = some c := ⟨_, List.getElem?_eq_getElem (by omega)⟩
      have hcm := List.mem_of_getElem? hc
      have hatc : atI (S l).cps.toList (j : Int) = some c := by rw [S_cps]; exact atI_nat hc
      refine ⟨_, rfl, _, rfl, S l, _, c, rfl, rfl, hll, hatc, _, rfl, _, rfl, S sg, _, e, rfl, rfl, hsl, he1, rfl, ?_⟩
      rw [one_eq]
      refine ⟨_, rfl, ite2 (fun h2 => ?_) (fun h2 => ?_)⟩
      · refine ⟨fun σ' H' => H' = H1 ∧ σ' = [some (.str (S sg)), some (.str (S l)), some (.int m), some (.int ((j : Int) - 1))], ?_, ?_⟩
        · rintro σ' H' ⟨rfl, rfl⟩
          refine ⟨j, by omega, rfl, _, rfl, by omega, by omega, ?_⟩
          have hm0 : m0 = j + 1 := by omega
          have hjl : j < l.length := by omega
          rw [hm0] at hdr
          have hcj : l[j] = c := by
            have := (List.getElem?_eq_some_iff.mp hc).2
            exact this
          rw [List.drop_eq_getElem_cons hjl, hdr, hcj, of_decide_eq_true h2, show l.length - j = (l.length - (j + 1)) + 1 by omega, List.replicate_succ]
        · exact ⟨_, rfl, _, _, rfl, rfl, rfl, rfl⟩
      · refine ⟨_, rfl, _, _, rfl, rfl, _, rfl, ite2 (fun h3 => absurd (of_decide_eq_true h3) (by omega)) (fun h3 => ?_)⟩
        obtain ⟨i, rest, ho, hi⟩ := idx_first (hw3 c hcm)
        have hil : i < sg.length := (List.getElem?_eq_some_iff.mp hi).1
        have hne : i ≠ sg.length - 1 := fun z => by
          rw [z, he2] at hi
          exact h2 (decide_eq_true (Option.some.inj hi).symm)
        obtain ⟨x, hx⟩ : ∃ x, sg[i + 1]? = some x := ⟨_, List.getElem?_eq_getElem (by omega)⟩
        have hatx : atI (S sg).cps.toList ((i : Int) + 1) = some x := by rw [S_cps]; exact atI_nat hx
        refine ⟨_, rfl, _, rfl, _, rfl, S l, rfl, hll, ?_⟩
        refine ⟨_, rfl, _, rfl, ⟨_, rfl⟩, _, rfl, _, rfl, S l, _, c, rfl, rfl, hll, hatc, S sg, ⟨#[c]⟩, i, rest, rfl, rfl, ho, _, _, rfl, rfl, S sg, _, x, rfl, rfl, hsl, hatx, _, _, rfl, rfl, ?_⟩
        have h1 := S_to l j
        rw [h1]
        refine ⟨?_, _, rfl, S sg, 0, f0, rfl, rfl, hsl, hat0, _, rfl, _, rfl, hll, _, _, rfl, rfl, _, rfl, _, _, rfl, rfl, [f0], l.length - 1 - j, rfl, ?_, ?_, by omega, _, _, rfl, rfl, ?_, ?_⟩
        · rw [S_len]
          show (l.take j).length + 1 ≤ sizeLine
          rw [List.length_take]
          exact sz4 (by omega)
        · rw [S_len]
          show V.int _ = V.int _
          congr 1
          show ((l.length : Int) - 1) - (j : Int) = _
          omega
        · show 1 * _ ≤ 4000
          omega
        · rw [alen, S_len, S_len, repL_len]
          show (l.take j).length + 1 + _ * 1 ≤ sizeLine
          rw [List.length_take]
          exact sz4 (by omega)
        · have eq : S (l.take j) ++ (⟨#[x]⟩ : Str) ++ S (repL (l.length - 1 - j) [f0]) = S (l.take j ++ [x] ++ repL (l.length - 1 - j) [f0]) := by
            rw [← S_app, ← S_app]
            rfl
          have q := k (l.take j ++ [x] ++ repL (l.length - 1 - j) [f0]) ⟨?_, ?_, ?_⟩ ?_
          · rw [← eq] at q
            exact q
          · simp only [List.length_append, List.length_singleton]
            omega
          · rw [List.length_append, List.length_append, repL_len, List.length_take]
            show min j l.length + 1 + (l.length - 1 - j) * 1 ≤ m
            omega
          · intro y hy
            rcases List.mem_append.mp hy with hy | hy
            · rcases List.mem_append.mp hy with hy | hy
              · exact hw3 y (List.mem_of_mem_take hy)
              · rw [List.mem_singleton] at hy
                subst hy
                exact List.mem_of_getElem? hx
            · have := rep_mem hy
              rw [List.mem_singleton] at this
              subst this
              exact hf0m
          · have hm0 : m0 = j + 1 := by omega
            rw [hm0] at hdr
            refine .inl ⟨l.take j, i, l.length - 1 - j, c, x, e, f0, ?_, by rw [rep_one], hi, hx, hf0, he2⟩
            have hjl : j < l.length := by omega
            have hcj : l[j] = c := (List.getElem?_eq_some_iff.mp hc).2
            have := List.drop_eq_getElem_cons hjl
            rw [hdr, hcj, show l.length - (j + 1) = l.length - 1 - j by omega] at this
            rw [List.append_assoc]
            show l = l.take j ++ c :: List.replicate (l.length - 1 - j) e
            rw [← this, List.take_append_drop]
    · have h0 : t < 0 := by
        have : ¬ 0 ≤ t := fun z => h (decide_eq_true z)
        omega
      refine ⟨_, rfl, _, _, rfl, rfl, _, rfl, ite2 (fun h3 => ?_) (fun h3 => absurd (decide_eq_true h0) h3)⟩
      have g0 := Int.emod_nonneg (l.length : Int) (show (m : Int) ≠ 0 by omega)
      have g1 := Int.emod_lt_of_pos (l.length : Int) (show (0 : Int) < m by omega)
      obtain ⟨n, hn⟩ : ∃ n : Nat, (l.length : Int) % (m : Int) = (n : Int) := ⟨((l.length : Int) % (m : Int)).toNat, by omega⟩
      refine ⟨_, rfl, S sg, 0, f0, rfl, rfl, hsl, hat0, _, rfl, _, rfl, hll, .inl ⟨_, rfl, _, rfl, _, _, rfl, rfl, by omega, _, _, rfl, rfl, [f0], n + 1, rfl, ?_, ?_, by omega, ?_⟩⟩
      · rw [S_len]
        show V.int _ = V.int _
        congr 1
        show ((l.length : Int) % (m : Int)) + 1 = _
        omega
      · show 1 * (n + 1) ≤ 4000
        omega
      · refine k _ ⟨?_, ?_, ?_⟩ ?_
        · rw [repL_len]
          show 1 ≤ (n + 1) * 1
          omega
        · rw [repL_len]
          show (n + 1) * 1 ≤ m
          omega
        · intro y hy
          have := rep_mem hy
          rw [List.mem_singleton] at this
          subst this
          exact hf0m
        · have hm0 : m0 = 0 := by omega
          rw [hm0] at hdr
          refine .inr ⟨e, f0, by simpa using hdr, ?_, hf0, he2⟩
          rw [rep_one, show l.length % m + 1 = n + 1 by omega]
def spFresh (K : PySem.W.Frag) : Sp := fun vs H Q _ => ∃ (sg l : List Nat) (m : Nat) (u : Addr) (us : List (List Nat)), vs = [.str (S sg), .str (S l), .int (m : Int), .ref u] ∧ 1 ≤ sg.length ∧ sg.length ≤ 100 ∧ m ≤ 8 ∧ WordOk sg m l ∧ SqL K H u (us.map fun t => V.str (S t)) ∧ us.length ≤ 100 ∧
  ∀ t, WordOk sg m t → (sg.Nodup → us.length < Fw.top sg.length m → t ∉ us) → Q (.str (S t)) H
theorem scFresh : FnScope ["_law_signs", "_law_word_here", "_law_most", "_law_used", "_law_turn"] ["_law_signs", "_law_word_here", "_law_most", "_law_used"] (defScope sFresh) := ⟨rfl, rfl, rfl, by decide +kernel, rfl, by decide +kernel, by decide +kernel⟩
theorem flat_strs (us : List (List Nat)) : (us.map fun t => V.str (S t)).all flatV = true := by
  rw [List.all_map]
  simp [flatV]
theorem ok_fresh (T : Fns K mg a d) : FnOk P w K mg base CX0 2 a.aFresh d.dFresh ["_law_signs", "_law_word_here", "_law_most", "_law_used"] (spFresh K) := by
  have GSucc : FnOk P w K mg base CX0 1 a.aSucc d.dSucc ["_law_signs", "_law_word_here", "_law_most"] spSucc := ok_succ T
  refine T.FFresh.ok scFresh (fun vs H Q E h => ?_) (fun cdv A outer s H vs Q E hr h => ?_)
  · obtain ⟨sg, l, m, u, us, rfl, _⟩ := h
    rfl
  · obtain ⟨sg, l, m, u, us, rfl, hs1, hs2, hm, hw, hu, hul, k⟩ := h
    refine ⟨_, (pss_cons (ps_for PassesOwn.never rfl (pi_range1 (by rfl) T.z_range (pa_cons (pe_callB call_len_seq (by rfl) T.z_len (by decide +kernel) (pa_cons (pv 3) pa_nil)) pa_nil)) (pg_name (i := 4) scFresh.nd rfl (Or.inl rfl)) (pss_one (ps_if (pt_cmpR op_in_seq (pv 1) (pv 3) rfl) (pss_one (ps_set (i := 1) scFresh.nd rfl (Or.inl rfl) (pe_call GSucc (hr.mono (by decide)) (by rfl) T.gSucc T.FSucc.kp T.bSucc .nil pass0 (pa_cons (pv 0) (pa_cons (pv 1) (pa_cons (pv 2) pa_nil)))))) pss_nil)))
      (pss_one (ps_ret (pv 1)))), ?_⟩
    refine ⟨_, rfl, u, _, rfl, .inl hu, _, rfl, by rw [List.length_map]; omega, by rw [List.length_map]; omega, for_range (lo := 0) (n := (us.map fun t => V.str (S t)).length) (fun i σ H' => H' = H ∧ ∃ (t : List Nat) (v4 : Option V), σ = [some (.str (S sg)), some (.str (S t)), some (.int m), some (.ref u), v4] ∧ WordOk sg m t ∧ (sg.Nodup → us.length < Fw.top sg.length m → Fw.At sg m us (Fw.val sg l - 1) i t))
      ⟨rfl, l, none, rfl, hw, fun _ _ => Fw.At.start hw.1 hw.2.1 hw.2.2⟩ ?_ ?_⟩
    · rintro i σ H1 hi ⟨rfl, t, v4, rfl, ht, hat⟩
      rw [List.length_map] at hi
      refine ⟨_, rfl, _, rfl, u, _, rfl, .inl hu, rfl, flat_strs us, _, rfl, ?_⟩
      rw [inV_strs]
      refine ite2 (fun h => ?_) (fun h => ⟨rfl, t, _, rfl, ht, fun _ _ => .inl fun z => h (decide_eq_true z)⟩)
      exact ⟨_, rfl, _, rfl, _, rfl, sg, t, m, rfl, hs1, hs2, hm, ht, fun t2 ht2 hx => ⟨rfl, t2, _, rfl, ht2, fun a1 a2 => Fw.At.move a1 (hat a1 a2) (of_decide_eq_true h) ht.1 ht.2.1 ht2.2.1 ht2.2.2 hx (by omega)⟩⟩
    · rintro σ H1 ⟨rfl, t, v4, rfl, ht, hat⟩
      rw [List.length_map] at hat
      exact ⟨_, rfl, k t ht fun a1 a2 => Fw.At.stop (hat a1 a2) a2⟩
def spOverL : Sp := fun vs H Q _ => ∃ p o : List Nat, vs = [.str (S p), .str (S o)] ∧ Q (.bl (ovB p o)) H
theorem any_S : PySem.Str.ofString "any" = S anyL := S_of _
theorem scOverL : FnScope ["_law_place", "_law_other"] ["_law_place", "_law_other"] (defScope sOverL) := ⟨rfl, rfl, rfl, by decide +kernel, rfl, by decide +kernel, by decide +kernel⟩
theorem ok_overL (T : Fns K mg a d) : FnOk P w K mg base CX0 1 a.aOverL d.dOverL ["_law_place", "_law_other"] spOverL := by
  refine T.FOverL.ok scOverL (fun vs H Q E h => ?_) (fun cdv A outer s H vs Q E hr h => ?_)
  · obtain ⟨p, o, rfl, _⟩ := h
    rfl
  · obtain ⟨p, o, rfl, k⟩ := h
    refine ⟨_, (pss_one (ps_ret (pe_or (pe_cmpR op_eq (pv 0) (pv 1) (nomark _)) (pe_or (pe_cmpR op_eq (pv 0) pe_str (nomark _)) (pe_one (pe_cmpR op_eq (pv 1) pe_str (nomark _))))))), ?_⟩
    unfold ovB at k
    refine ⟨_, rfl, _, rfl, rfl, ?_⟩
    rw [S_eq_iff]
    refine ⟨_, rfl, ite2 (fun h1 => by rw [h1, Bool.true_or] at k; exact k) (fun h1 => ?_)⟩
    rw [Bool.eq_false_iff.mpr h1, Bool.false_or] at k
    refine ⟨_, rfl, rfl, ?_⟩
    rw [any_S, S_eq_iff]
    refine ⟨_, rfl, ite2 (fun h2 => by rw [h2, Bool.true_or] at k; exact k) (fun h2 => ?_)⟩
    rw [Bool.eq_false_iff.mpr h2, Bool.false_or] at k
    refine ⟨_, rfl, rfl, ?_⟩
    rw [S_eq_iff]
    exact k
def spKin : Sp := fun vs H Q _ => ∃ (b g : Addr) (sg : List Nat) (u : Addr) (us : List (List Nat)) (m : Nat), vs = [.ref b, .str (S sg), .ref u, .int (m : Int)] ∧ BoxB H b g ∧ 1 ≤ sg.length ∧ sg.length ≤ 100 ∧ m ≤ 8 ∧ H u = some (.lst (us.map fun t => V.str (S t))) ∧ (u ≠ b ∧ u ≠ g) ∧ 1 ≤ us.length ∧ us.length ≤ 100 ∧ (∀ t ∈ us, WordOk sg m t) ∧
  ∀ t H', WordOk sg m t → BoxB H' b g → Kp2 b g H H' → Q (.str (S t)) H'
theorem scKin : FnScope ["_law_box_here", "_law_signs", "_law_words", "_law_most", "_law_word_here", "_law_way"] ["_law_box_here", "_law_signs", "_law_words", "_law_most"] (defScope sKin) := ⟨rfl, rfl, rfl, by decide +kernel, rfl, by decide +kernel, by decide +kernel⟩
theorem ok_kin (T : Fns K mg a d) : FnOk P w K mg base CX0 2 a.aKin d.dKin ["_law_box_here", "_law_signs", "_law_words", "_law_most"] spKin := by
  have GDraw : FnOk P w K mg base CX0 1 a.aDraw d.dDraw ["_law_box_here", "_law_many"] spDraw := gDraw T
  refine T.FKin.ok scKin (fun vs H Q E h => ?_) (fun cdv A outer s H vs Q E hr h => ?_)
  · obtain ⟨b, g, sg, u, us, m, rfl, _⟩ := h
    rfl
  · obtain ⟨b, g, sg, u, us, m, rfl, hB, hs1, hs2, hm, hu, ⟨hub, hug⟩, hu1, hu2, hus, k⟩ := h
    refine ⟨_, (pss_cons (ps_set (i := 4) scKin.nd rfl (Or.inl rfl) (pe_ix ix_list (pv 2) (pe_call GDraw (hr.mono (by decide)) (by rfl) T.gDraw T.FDraw.kp T.bDraw .nil pass0 (pa_cons (pv 0) (pa_cons (pe_callB call_len_seq (by rfl) T.z_len (by decide +kernel) (pa_cons (pv 2) pa_nil)) pa_nil))) (fun _ _ => rfl)))
      (pss_cons (ps_set (i := 5) scKin.nd rfl (Or.inl rfl) (pe_call GDraw (hr.mono (by decide)) (by rfl) T.gDraw T.FDraw.kp T.bDraw .nil pass0 (pa_cons (pv 0) (pa_cons pe_int pa_nil))))
      (pss_cons (ps_if (PW.pt (pw_and (pt_cmpR op_eq (pv 5) pe_int (nomark _)) (pw_and1 (pt_cmpR op_lt (pe_callB call_len_str (by rfl) T.z_len (by decide +kernel) (pa_cons (pv 4) pa_nil)) (pv 3) (nomark _))))) (pss_one (ps_ret (pe_op op_add_str (pv 4) (pe_ix ix_str (pv 1) (pe_call GDraw (hr.mono (by decide)) (by rfl) T.gDraw T.FDraw.kp T.bDraw .nil pass0 (pa_cons (pv 0) (pa_cons (pe_callB call_len_str (by rfl) T.z_len (by decide +kernel) (pa_cons (pv 1) pa_nil)) pa_nil))) (fun _ _ => rfl))))) pss_nil)
      (pss_cons (ps_if (PW.pt (pw_and (pt_cmpR op_eq (pv 5) pe_int (nomark _)) (pw_and1 (pt_cmpR op_gt (pe_callB call_len_str (by rfl) T.z_len (by decide +kernel) (pa_cons (pv 4) pa_nil)) pe_int (nomark _))))) (pss_one (ps_ret (pe_slice sl_str (pv 4) po_none (po_some (pe_un un_neg pe_int))))) pss_nil)
      (pss_one (ps_ret (pv 4))))))), ?_⟩
    have hsl : (S sg).length ≤ sizeLine := sz4 (by rw [S_len]; omega)
    refine ⟨_, rfl, _, rfl, _, rfl, u, _, rfl, .inl (SqL.of hu), b, g, _, rfl, hB, by rw [List.length_map]; omega, fun r H1 hr1 hB1 hk1 => ?_⟩
    rw [List.length_map] at hr1
    obtain ⟨t, ht⟩ : ∃ t, us[r]? = some t := ⟨_, List.getElem?_eq_getElem (by omega)⟩
    have htm := hus t (List.mem_of_getElem? ht)
    obtain ⟨w1, w2, w3⟩ := id htm
    have htl : (S t).length ≤ sizeLine := sz4 (by rw [S_len]; omega)
    have hat : (us.map fun t => V.str (S t))[r]? = some (V.str (S t)) := by
      rw [List.getElem?_map, ht]
      rfl
    refine ⟨u, _, _, _, rfl, rfl, SqL.of (hk1 _ _ hub hug hu), atI_nat hat, ?_⟩
    refine ⟨_, rfl, b, g, _, rfl, hB1, by decide, fun way H2 hw2 hB2 hk2 => ?_⟩
    have hk := hk1.trans hk2
    have word : ∀ {c : Nat}, c ∈ sg → t.length < m → WordOk sg m (t ++ [c]) := fun {c} hc hlt => ⟨by rw [List.length_append]; omega, by rw [List.length_append]; show t.length + 1 ≤ m; omega, fun x hx => by
      rcases List.mem_append.mp hx with h | h
      · exact w3 x h
      · rw [List.mem_singleton] at h
        subst h
        exact hc⟩
    have hcut : 1 < t.length → WordOk sg m (t.take (t.length - 1)) := fun h => ⟨by rw [List.length_take]; omega, by rw [List.length_take]; omega, fun x hx => w3 x (List.mem_of_mem_take hx)⟩
    have ecut : 1 < t.length → cutS (S t) none (some (-1)) = S (t.take (t.length - 1)) := fun h => by
      rw [S_cut, HT.sIx_none]
      have e : HT.sIx t.length t.length (some (-1)) = t.length - 1 := by
        show (if (-1 : Int) < 0 then ((-1 : Int) + (t.length : Int)).toNat else min (-1 : Int).toNat t.length) = _
        rw [if_pos (by decide)]
        omega
      rw [e, List.drop_zero, Nat.sub_zero]
    refine ⟨_, rfl, rfl, _, rfl, ite2 (fun h1 => ?_) (fun h1 => ?_)⟩
    · refine ⟨_, rfl, _, rfl, htl, _, rfl, _, _, rfl, rfl, _, rfl, ite2 (fun h2 => ?_) (fun h2 => ?_)⟩
      · have hlt := of_decide_eq_true h2
        rw [S_len] at hlt
        refine ⟨_, rfl, _, rfl, _, rfl, _, rfl, _, rfl, hsl, b, g, _, rfl, hB2, by rw [S_len]; omega, fun r3 H3 hr3 hB3 hk3 => ?_⟩
        rw [S_len] at hr3
        obtain ⟨c, hc⟩ : ∃ c, sg[r3]? = some c := ⟨_, List.getElem?_eq_getElem (by omega)⟩
        refine ⟨S sg, _, c, rfl, rfl, hsl, by rw [S_cps]; exact atI_nat hc, _, _, rfl, rfl, ?_, ?_⟩
        · rw [S_len]
          exact sz4 (by show t.length + 1 ≤ 4000; omega)
        · have q := k _ H3 (word (List.mem_of_getElem? hc) (by omega)) hB3 (hk.trans hk3)
          rw [← S_app] at q
          exact q
      · refine ⟨_, rfl, rfl, _, rfl, ite2 (fun h3 => ⟨_, rfl, _, rfl, htl, _, _, rfl, rfl, _, rfl, ite2 (fun h4 => ?_) (fun h4 => ⟨_, rfl, k t H2 htm hB2 hk⟩)⟩) (fun h3 => iteF ⟨_, rfl, k t H2 htm hB2 hk⟩)⟩
        have hlt := of_decide_eq_true h4
        rw [S_len] at hlt
        have hlt2 : 1 < t.length := by omega
        refine ⟨_, rfl, _, rfl, _, rfl, S t, rfl, htl, ?_⟩
        have q := k _ H2 (hcut hlt2) hB2 hk
        rw [← ecut hlt2] at q
        exact q
    · refine iteF ?_
      refine ⟨_, rfl, rfl, _, rfl, ite2 (fun h3 => ⟨_, rfl, _, rfl, htl, _, _, rfl, rfl, _, rfl, ite2 (fun h4 => ?_) (fun h4 => ⟨_, rfl, k t H2 htm hB2 hk⟩)⟩) (fun h3 => iteF ⟨_, rfl, k t H2 htm hB2 hk⟩)⟩
      have hlt := of_decide_eq_true h4
      rw [S_len] at hlt
      have hlt2 : 1 < t.length := by omega
      refine ⟨_, rfl, _, rfl, _, rfl, S t, rfl, htl, ?_⟩
      have q := k _ H2 (hcut hlt2) hB2 hk
      rw [← ecut hlt2] at q
      exact q
end
end Vk
set_option Elab.async false
set_option linter.all false
set_option maxRecDepth 100000
set_option maxHeartbeats 8000000
namespace Vk
open PySem PySem.Spec PyProof.Rows L2
/-- an entry: four texts -/
structure Row where
  n : List Nat
  l : List Nat
  s : List Nat
  p : List Nat
def confB (r e : Row) : Bool := ovB r.p e.p && (decide (r.l = e.l) || decide (r.s = e.s))
def Lt (z : Str) : List Nat := z.cps.toList
theorem Lt_S (z : Str) : S (Lt z) = z := (S_of z).symm
def kindsL : List (List Nat) := [Lt "any", Lt "opening", Lt "inner"]
/-- a row by itself -/
def RowW (sg : List Nat) (m : Nat) (r : Row) : Prop := WordOk azL 8 r.n ∧ WordOk sg m r.l ∧ WordOk sg m r.s ∧ r.p ∈ kindsL
/-- two rows that may stand in one book -/
def Apart (r e : Row) : Prop := r.n ≠ e.n ∧ confB r e = false
def Row.vs (r : Row) : List V := [.str (S r.n), .str (S r.l), .str (S r.s), .str (S r.p)]
def Tx (t : List Nat) : Prop := t.length ≤ 3000 ∧ ∀ c ∈ t, c < 0x110000
def Row.ok (r : Row) : Prop := Tx r.n ∧ Tx r.l ∧ Tx r.s ∧ Tx r.p
/-- a list of entries at u -/
def RowsAt (H : Hp) (u : Addr) (ps : List (Addr × Row)) : Prop := H u = some (.lst (ps.map fun q => V.ref q.1)) ∧ ∀ q ∈ ps, H q.1 = some (.tup q.2.vs) ∧ q.2.ok
theorem RowsAt.same {H H' : Hp} {u : Addr} {ps : List (Addr × Row)} (h : RowsAt H u ps) (s : Same H H') : RowsAt H' u ps := ⟨s _ _ h.1, fun q hq => ⟨s _ _ (h.2 q hq).1, (h.2 q hq).2⟩⟩
theorem tup_box {H : Hp} {b g x : Addr} {xs : List V} (hB : BoxB H b g) (h : H x = some (.tup xs)) : x ≠ b ∧ x ≠ g := by
  obtain ⟨_, _, _, _, h1, h2, _⟩ := hB
  exact ⟨fun z => (by rw [z, h1] at h; cases h), fun z => (by rw [z, h2] at h; cases h)⟩
theorem RowsAt.kp {H H' : Hp} {b g u : Addr} {ps : List (Addr × Row)} (h : RowsAt H u ps) (hB : BoxB H b g) (hu : u ≠ b ∧ u ≠ g) (k : Kp2 b g H H') : RowsAt H' u ps :=
  ⟨k _ _ hu.1 hu.2 h.1, fun q hq => by
    obtain ⟨h1, h2⟩ := h.2 q hq
    obtain ⟨n1, n2⟩ := tup_box hB h1
    exact ⟨k _ _ n1 n2 h1, h2⟩⟩
def Row.py (r : Row) : PyData := .tuple [.str (S r.n), .str (S r.l), .str (S r.s), .str (S r.p)]
theorem tx_ok {t : List Nat} (h : Tx t) : PyData.strOk (S t) = true := by
  show t.toArray.all (fun c => decide (c < 0x110000)) = true
  simp
  exact h.2
theorem dp_row {K : PySem.W.Frag} {H : Hp} {x : Addr} {r : Row} (h : H x = some (.tup r.vs)) : Dp K H (.ref x) r.py := .tup (SqT.of h) (.cons (.str _) (.cons (.str _) (.cons (.str _) (.cons (.str _) .nil))))
theorem dp_rows {K : PySem.W.Frag} {H : Hp} : ∀ ps : List (Addr × Row), (∀ q ∈ ps, H q.1 = some (.tup q.2.vs)) → DpAll K H (ps.map fun q => V.ref q.1) (ps.map fun q => q.2.py)
  | [], _ => .nil
  | q :: r, h => .cons (dp_row (h q List.mem_cons_self)) (dp_rows r fun x hx => h x (List.mem_cons_of_mem _ hx))
theorem can_row {r : Row} (h : r.ok) : PyData.canLay0 r.py = true := by
  obtain ⟨h1, h2, h3, h4⟩ := h
  simp [Row.py, PyData.canLay0, PyData.canLayAll0, tx_ok h1, tx_ok h2, tx_ok h3, tx_ok h4]
theorem dep_row (r : Row) : PyData.depth r.py = 1 := by
  simp [Row.py, PyData.depth, PyData.depthAll]
theorem can_rows : ∀ ps : List (Addr × Row), (∀ q ∈ ps, q.2.ok) → PyData.canLayAll0 (ps.map fun q => q.2.py) = true
  | [], _ => by simp [PyData.canLayAll0]
  | q :: r, h => by
    have h1 := can_row (h q List.mem_cons_self)
    have h2 := can_rows r fun x hx => h x (List.mem_cons_of_mem _ hx)
    rw [List.map_cons]
    unfold PyData.canLayAll0
    rw [h1, h2]
    rfl
theorem dep_rows : ∀ ps : List (Addr × Row), PyData.depthAll (ps.map fun q => q.2.py) ≤ 1
  | [] => by simp [PyData.depthAll]
  | q :: r => by
    rw [List.map_cons]
    unfold PyData.depthAll
    rw [dep_row]
    exact Nat.max_le.mpr ⟨Nat.le_refl _, dep_rows r⟩
theorem shaped_rows {ps : List (Addr × Row)} (h : ∀ q ∈ ps, q.2.ok) : SeqAt.shaped (.list (ps.map fun q => q.2.py)) = true := by
  have h1 := dep_rows ps
  unfold SeqAt.shaped
  rw [Bool.and_eq_true_iff]
  refine ⟨?_, decide_eq_true ?_⟩
  · unfold PyData.canLay0
    exact can_rows ps h
  · unfold PyData.depth
    omega
theorem eqv_nil : ∀ ds : List PyData, PyData.eqv (.list ds) (.list []) = ds.isEmpty
  | [] => by simp [PyData.eqv, PyData.eqvAll]
  | d :: r => by simp [PyData.eqv, PyData.eqvAll]
theorem shaped_nil : SeqAt.shaped (.list []) = true := by
  simp [SeqAt.shaped, PyData.canLay0, PyData.canLayAll0, PyData.depth, PyData.depthAll]
theorem az_ok : ∀ c ∈ azL, c < 0x110000 := by decide +kernel
def WideOk (sg : List Nat) : Prop := ∀ c ∈ sg, c < 0x110000
theorem WordOk.tx {sg t : List Nat} {m : Nat} (hs : WideOk sg) (h : WordOk sg m t) (hm : m ≤ 8) : Tx t := ⟨by have := h.2.1; omega, fun c hc => hs c (h.2.2 c hc)⟩
theorem lit_S (z : Str) : z = S z.cps.toList := S_of z
theorem _root_.L2.PS.imp {X : Cx} {st : Stmt} {t t' : TS} (h : PS X st t) (k : ∀ D σ H, t' D σ H → t D σ H) : PS X st t' := ⟨fun pins s σ H D I q => h.run pins s σ H D I (k D σ H q)⟩
theorem col_map {α β : Type} (ps : List α) (f : α → β) : (ps.filter fun _ => true).map f = ps.map f := by
  rw [List.filter_eq_self.mpr (fun _ _ => rfl)]
def stR (b : Addr) (sg : List Nat) (n m : Nat) (u : Addr) (v6 v7 v8 v9 v10 v11 v12 : Option V) : L2.St := [some (.ref b), some (.str (S sg)), some (.int n), some (.int m), some (.str (S azL)), some (.ref u), v6, v7, v8, v9, v10, v11, v12]
def tKin11 : TS := fun D σ H => ∃ (b g : Addr) (sg : List Nat) (n m : Nat) (u : Addr) (ps : List (Addr × Row)) (t : List Nat) (v6 v7 v8 v9 v10 v12 : Option V), σ = stR b sg n m u v6 v7 v8 v9 v10 (some (.str (S t))) v12 ∧ BoxB H b g ∧ 1 ≤ sg.length ∧ sg.length ≤ 100 ∧ m ≤ 8 ∧ RowsAt H u ps ∧ (u ≠ b ∧ u ≠ g) ∧ ps.length ≤ 100 ∧ (∀ q ∈ ps, WordOk sg m q.2.l) ∧ WordOk sg m t ∧
  ∀ t2 H', WordOk sg m t2 → BoxB H' b g → Kp2 b g H H' → D.nx (stR b sg n m u v6 v7 v8 v9 v10 (some (.str (S t2))) v12) H'
def tKin12 : TS := fun D σ H => ∃ (b g : Addr) (sg : List Nat) (n m : Nat) (u : Addr) (ps : List (Addr × Row)) (t : List Nat) (v6 v7 v8 v9 v10 v11 : Option V), σ = stR b sg n m u v6 v7 v8 v9 v10 v11 (some (.str (S t))) ∧ BoxB H b g ∧ 1 ≤ sg.length ∧ sg.length ≤ 100 ∧ m ≤ 8 ∧ RowsAt H u ps ∧ (u ≠ b ∧ u ≠ g) ∧ ps.length ≤ 100 ∧ (∀ q ∈ ps, WordOk sg m q.2.s) ∧ WordOk sg m t ∧
  ∀ t2 H', WordOk sg m t2 → BoxB H' b g → Kp2 b g H H' → D.nx (stR b sg n m u v6 v7 v8 v9 v10 v11 (some (.str (S t2)))) H'
section
variable {P : Program} {w : World} {K : PySem.W.Frag} {mg : Str → Option Value} {base : Heap} {a : Ad} {d : Fd}
def spRows : Sp := fun vs H Q _ => ∃ (b g : Addr) (sg : List Nat) (n m : Nat), vs = [.ref b, .str (S sg), .int (n : Int), .int (m : Int)] ∧ BoxB H b g ∧ 1 ≤ sg.length ∧ sg.length ≤ 100 ∧ WideOk sg ∧ n ≤ 20 ∧ 1 ≤ m ∧ m ≤ 8 ∧
  ∀ (u : Addr) (ps : List (Addr × Row)) (H' : Hp), H u = none → RowsAt H' u ps → ps.length = n → (∀ q ∈ ps, RowW sg m q.2) → (sg.Nodup → n ≤ Fw.top sg.length m → (ps.map (·.2)).Pairwise Apart) → BoxB H' b g → Kp2 b g H H' → Q (.ref u) H'
theorem scRows : FnScope ["_law_box_here", "_law_signs", "_law_count", "_law_most", "_law_lowers", "_law_rows_here", "_law_k", "_law_name", "_law_row", "_law_place", "_law_near", "_law_long", "_law_short"] ["_law_box_here", "_law_signs", "_law_count", "_law_most"] (defScope sRows) := ⟨rfl, rfl, rfl, by decide +kernel, rfl, by decide +kernel, by decide +kernel⟩
theorem ok_rows (T : Fns K mg a d) : FnOk P w K mg base CX0 3 a.aRows d.dRows ["_law_box_here", "_law_signs", "_law_count", "_law_most"] spRows := by
  have GDraw : FnOk P w K mg base CX0 1 a.aDraw d.dDraw ["_law_box_here", "_law_many"] spDraw := gDraw T
  have GWord : FnOk P w K mg base CX0 2 a.aWord d.dWord ["_law_box_here", "_law_signs", "_law_most", "_law_shift"] spWord := ok_word T
  have GFresh : FnOk P w K mg base CX0 2 a.aFresh d.dFresh ["_law_signs", "_law_word_here", "_law_most", "_law_used"] (spFresh K) := ok_fresh T
  have GOverL : FnOk P w K mg base CX0 1 a.aOverL d.dOverL ["_law_place", "_law_other"] spOverL := ok_overL T
  have GKin : FnOk P w K mg base CX0 2 a.aKin d.dKin ["_law_box_here", "_law_signs", "_law_words", "_law_most"] spKin := ok_kin T
  refine T.FRows.ok scRows (fun vs H Q E h => ?_) (fun cdv A outer s H vs Q E hr h => ?_)
  · obtain ⟨b, g, sg, n, m, rfl, _⟩ := h
    rfl
  · obtain ⟨b, g, sg, n, m, rfl, hB, hs1, hs2, hsw, hn, hm1, hm2, k⟩ := h
    refine ⟨_, (pss_cons (ps_set (i := 4) scRows.nd rfl (Or.inl rfl) pe_str)
      (pss_cons (ps_set (i := 5) scRows.nd rfl (Or.inl rfl) (pe_lst pa_nil))
      (pss_cons (ps_for PassesOwn.never rfl (pi_range1 (by rfl) T.z_range (pa_cons (pv 2) pa_nil)) (pg_name (i := 6) scRows.nd rfl (Or.inl rfl)) (pss_cons (ps_set (i := 7) scRows.nd rfl (Or.inl rfl) (pe_call GFresh (hr.mono (by decide)) (by rfl) T.gFresh T.FFresh.kp T.bFresh .nil pass0 (pa_cons (pv 4) (pa_cons (pe_call GWord (hr.mono (by decide)) (by rfl) T.gWord T.FWord.kp T.bWord .nil pass0 (pa_cons (pv 0) (pa_cons (pv 4) (pa_cons pe_int (pa_cons pe_int pa_nil))))) (pa_cons pe_int (pa_cons (pe_lc (own := [("_law_row", 8)]) (g := gName 8) (by rfl) scRows.nd (pi_list (pv 5)) (blkOk_by (own := [("_law_row", 8)]) (N := ["_law_box_here", "_law_signs", "_law_count", "_law_most", "_law_lowers", "_law_rows_here", "_law_k", "_law_name", "_law_row", "_law_place", "_law_near", "_law_long", "_law_short"]) (sc := defScope sRows) (by decide +kernel)) (fun _ _ _ _ _ => pg_name (i := 8) scRows.nd rfl (Or.inl rfl)) (fun _ _ _ _ _ => pts_nil) (fun _ _ _ _ _ => (pe_ix (r := rIxT K) ix_tup (pv 8) pe_int (fun _ _ => rfl)))) pa_nil))))))
      (pss_cons (ps_set (i := 9) scRows.nd rfl (Or.inr rfl) (pe_ix (r := rIxL K) ix_list (pe_lst (pa_cons pe_str (pa_cons pe_str (pa_cons pe_str pa_nil)))) (pe_op op_mod (pe_callTy call_int1 (by rfl) T.z_int (by decide +kernel) (pa_cons (pe_op op_add (pe_call GDraw (hr.mono (by decide)) (by rfl) T.gDraw T.FDraw.kp T.bDraw .nil pass0 (pa_cons (pv 0) (pa_cons pe_int pa_nil))) (pv 6)) pa_nil)) pe_int) (fun _ _ => rfl)))
      (pss_cons (ps_setLc (i := 10) (own := [("_law_row", 8)]) (g := gName 8) (by rfl) scRows.nd rfl rfl (by rfl) (pi_list (pv 5)) (blkOk_by (own := [("_law_row", 8)]) (N := ["_law_box_here", "_law_signs", "_law_count", "_law_most", "_law_lowers", "_law_rows_here", "_law_k", "_law_name", "_law_row", "_law_place", "_law_near", "_law_long", "_law_short"]) (sc := defScope sRows) (by decide +kernel)) (fun _ _ _ _ _ => pg_name (i := 8) scRows.nd rfl (Or.inl rfl)) (fun _ _ _ _ _ => (pts_one (pt_val (pe_call GOverL (hr.mono (by decide)) (by rfl) T.gOverL T.FOverL.kp T.bOverL .nil pass0 (pa_cons (pe_ix (r := rIxT K) ix_tup (pv 8) pe_int (fun _ _ => rfl)) (pa_cons (pv 9) pa_nil)))))) (fun _ _ _ _ _ => (pv 8)))
      (pss_cons (ps_set (i := 11) scRows.nd rfl (Or.inl rfl) (pe_call GWord (hr.mono (by decide)) (by rfl) T.gWord T.FWord.kp T.bWord .nil pass0 (pa_cons (pv 0) (pa_cons (pv 1) (pa_cons (pv 3) (pa_cons (pe_op op_add (pv 6) pe_int) pa_nil))))))
      (pss_cons (ps_set (i := 12) scRows.nd rfl (Or.inl rfl) (pe_call GWord (hr.mono (by decide)) (by rfl) T.gWord T.FWord.kp T.bWord .nil pass0 (pa_cons (pv 0) (pa_cons (pv 1) (pa_cons (pv 3) (pa_cons pe_int pa_nil))))))
      (pss_cons (PS.imp (t' := tKin11) (ps_if (PW.pt (pw_and (pt_cmpR (op_neD hr.units) (pv 5) (pe_lst pa_nil) (nomark _)) (pw_and1 (pt_cmpR op_eq (pe_call GDraw (hr.mono (by decide)) (by rfl) T.gDraw T.FDraw.kp T.bDraw .nil pass0 (pa_cons (pv 0) (pa_cons pe_int pa_nil))) pe_int (nomark _))))) (pss_one (ps_set (i := 11) scRows.nd rfl (Or.inl rfl) (pe_call GKin (hr.mono (by decide)) (by rfl) T.gKin T.FKin.kp T.bKin .nil pass0 (pa_cons (pv 0) (pa_cons (pv 1) (pa_cons (pe_lc (own := [("_law_row", 8)]) (g := gName 8) (by rfl) scRows.nd (pi_list (pv 5)) (blkOk_by (own := [("_law_row", 8)]) (N := ["_law_box_here", "_law_signs", "_law_count", "_law_most", "_law_lowers", "_law_rows_here", "_law_k", "_law_name", "_law_row", "_law_place", "_law_near", "_law_long", "_law_short"]) (sc := defScope sRows) (by decide +kernel)) (fun _ _ _ _ _ => pg_name (i := 8) scRows.nd rfl (Or.inl rfl)) (fun _ _ _ _ _ => pts_nil) (fun _ _ _ _ _ => (pe_ix (r := rIxT K) ix_tup (pv 8) pe_int (fun _ _ => rfl)))) (pa_cons (pv 3) pa_nil))))))) pss_nil) (fun D σ H h => (by
      obtain ⟨b, g, sg, n, m, u, ps, t, v6, v7, v8, v9, v10, vx, rfl, hB, hs1, hs2, hm2, hR, hub, hps, hw, ht, k⟩ := h
      refine ⟨_, rfl, Nat.zero_le _, fun p hp => ?_⟩
      have s1 : Same H (upd H p (.lst [])) := upd_laid hp
      have hR1 := hR.same s1
      refine ⟨.list (ps.map fun q => q.2.py), .list [], .lst (SqL.of hR1.1) (dp_rows ps fun q hq => (hR1.2 q hq).1), .lst (SqL.of upd_same) .nil, shaped_rows (fun q hq => (hR1.2 q hq).2), shaped_nil, ?_⟩
      rw [eqv_nil]
      have hB1 := hB.same s1
      have k1 : Kp2 b g H (upd H p (.lst [])) := Same.kp2 s1 b g
      generalize upd H p (.lst []) = H1 at hR1 hB1 k1
      refine ⟨_, rfl, ite2 (fun h => ?_) (fun h => iteF (k t H1 ht hB1 k1))⟩
      have hne : ps ≠ [] := fun z => by
        subst z
        cases h
      have hpos : 1 ≤ ps.length := by
        cases ps with
        | nil => exact absurd rfl hne
        | cons x r => exact Nat.succ_le_succ (Nat.zero_le _)
      refine ⟨_, rfl, b, g, _, rfl, hB1, by decide, fun r H2 hr2 hB2 hk2 => ⟨rfl, _, rfl, ite2 (fun h2 => ?_) (fun h2 => k t H2 ht hB2 (k1.trans hk2))⟩⟩
      have hR2 := hR1.kp hB1 hub hk2
      refine ⟨_, rfl, _, rfl, _, rfl, u, rfl, ⟨_, SqL.of hR2.1⟩, fun D2 hD2 => lc_lst (fun q : Addr × Row => V.ref q.1) (fun _ => true) (fun q => V.str (S q.2.l)) (by omega) hR2.1 hD2 (fun _ => rfl) (fun _ _ _ _ _ q => q) (fun q hq _ H3 Q3 off k3 => ⟨_, rfl, q.1, _, 1, _, rfl, rfl, SqT.of ((off q.1 (ne_of_none (hR2.2 q hq).1 hD2)).trans (hR2.2 q hq).1), rfl, k3⟩) ?_⟩
      rw [col_map]
      have s3 : Same H2 (upd H2 D2 (.lst (ps.map fun q => V.str (S q.2.l)))) := upd_laid hD2
      have hD3 : (upd H2 D2 (.lst (ps.map fun q => V.str (S q.2.l)))) D2 = some (.lst ((ps.map fun q => q.2.l).map fun t => V.str (S t))) := by
        rw [upd_same, List.map_map]
        rfl
      obtain ⟨⟨ob, hob⟩, ⟨og, hog⟩⟩ := hB2.al
      exact ⟨_, rfl, b, g, sg, D2, ps.map fun q => q.2.l, m, rfl, hB2.same s3, hs1, hs2, hm2, hD3, ⟨(ne_of_none hob hD2).symm, (ne_of_none hog hD2).symm⟩, by rw [List.length_map]; exact hpos, by rw [List.length_map]; exact hps, fun t ht => by
        obtain ⟨q, hq, rfl⟩ := List.mem_map.mp ht
        exact hw q hq, fun t2 H4 ht2 hB4 hk4 => k t2 H4 ht2 hB4 (k1.trans (hk2.trans ((Same.kp2 s3 b g).trans hk4)))⟩)))
      (pss_cons (PS.imp (t' := tKin12) (ps_if (PW.pt (pw_and (pt_cmpR (op_neD hr.units) (pv 5) (pe_lst pa_nil) (nomark _)) (pw_and1 (pt_cmpR op_eq (pe_call GDraw (hr.mono (by decide)) (by rfl) T.gDraw T.FDraw.kp T.bDraw .nil pass0 (pa_cons (pv 0) (pa_cons pe_int pa_nil))) pe_int (nomark _))))) (pss_one (ps_set (i := 12) scRows.nd rfl (Or.inl rfl) (pe_call GKin (hr.mono (by decide)) (by rfl) T.gKin T.FKin.kp T.bKin .nil pass0 (pa_cons (pv 0) (pa_cons (pv 1) (pa_cons (pe_lc (own := [("_law_row", 8)]) (g := gName 8) (by rfl) scRows.nd (pi_list (pv 5)) (blkOk_by (own := [("_law_row", 8)]) (N := ["_law_box_here", "_law_signs", "_law_count", "_law_most", "_law_lowers", "_law_rows_here", "_law_k", "_law_name", "_law_row", "_law_place", "_law_near", "_law_long", "_law_short"]) (sc := defScope sRows) (by decide +kernel)) (fun _ _ _ _ _ => pg_name (i := 8) scRows.nd rfl (Or.inl rfl)) (fun _ _ _ _ _ => pts_nil) (fun _ _ _ _ _ => (pe_ix (r := rIxT K) ix_tup (pv 8) pe_int (fun _ _ => rfl)))) (pa_cons (pv 3) pa_nil))))))) pss_nil) (fun D σ H h => (by
      obtain ⟨b, g, sg, n, m, u, ps, t, v6, v7, v8, v9, v10, vx, rfl, hB, hs1, hs2, hm2, hR, hub, hps, hw, ht, k⟩ := h
      refine ⟨_, rfl, Nat.zero_le _, fun p hp => ?_⟩
      have s1 : Same H (upd H p (.lst [])) := upd_laid hp
      have hR1 := hR.same s1
      refine ⟨.list (ps.map fun q => q.2.py), .list [], .lst (SqL.of hR1.1) (dp_rows ps fun q hq => (hR1.2 q hq).1), .lst (SqL.of upd_same) .nil, shaped_rows (fun q hq => (hR1.2 q hq).2), shaped_nil, ?_⟩
      rw [eqv_nil]
      have hB1 := hB.same s1
      have k1 : Kp2 b g H (upd H p (.lst [])) := Same.kp2 s1 b g
      generalize upd H p (.lst []) = H1 at hR1 hB1 k1
      refine ⟨_, rfl, ite2 (fun h => ?_) (fun h => iteF (k t H1 ht hB1 k1))⟩
      have hne : ps ≠ [] := fun z => by
        subst z
        cases h
      have hpos : 1 ≤ ps.length := by
        cases ps with
        | nil => exact absurd rfl hne
        | cons x r => exact Nat.succ_le_succ (Nat.zero_le _)
      refine ⟨_, rfl, b, g, _, rfl, hB1, by decide, fun r H2 hr2 hB2 hk2 => ⟨rfl, _, rfl, ite2 (fun h2 => ?_) (fun h2 => k t H2 ht hB2 (k1.trans hk2))⟩⟩
      have hR2 := hR1.kp hB1 hub hk2
      refine ⟨_, rfl, _, rfl, _, rfl, u, rfl, ⟨_, SqL.of hR2.1⟩, fun D2 hD2 => lc_lst (fun q : Addr × Row => V.ref q.1) (fun _ => true) (fun q => V.str (S q.2.s)) (by omega) hR2.1 hD2 (fun _ => rfl) (fun _ _ _ _ _ q => q) (fun q hq _ H3 Q3 off k3 => ⟨_, rfl, q.1, _, 2, _, rfl, rfl, SqT.of ((off q.1 (ne_of_none (hR2.2 q hq).1 hD2)).trans (hR2.2 q hq).1), rfl, k3⟩) ?_⟩
      rw [col_map]
      have s3 : Same H2 (upd H2 D2 (.lst (ps.map fun q => V.str (S q.2.s)))) := upd_laid hD2
      have hD3 : (upd H2 D2 (.lst (ps.map fun q => V.str (S q.2.s)))) D2 = some (.lst ((ps.map fun q => q.2.s).map fun t => V.str (S t))) := by
        rw [upd_same, List.map_map]
        rfl
      obtain ⟨⟨ob, hob⟩, ⟨og, hog⟩⟩ := hB2.al
      exact ⟨_, rfl, b, g, sg, D2, ps.map fun q => q.2.s, m, rfl, hB2.same s3, hs1, hs2, hm2, hD3, ⟨(ne_of_none hob hD2).symm, (ne_of_none hog hD2).symm⟩, by rw [List.length_map]; exact hpos, by rw [List.length_map]; exact hps, fun t ht => by
        obtain ⟨q, hq, rfl⟩ := List.mem_map.mp ht
        exact hw q hq, fun t2 H4 ht2 hB4 hk4 => k t2 H4 ht2 hB4 (k1.trans (hk2.trans ((Same.kp2 s3 b g).trans hk4)))⟩)))
      (pss_cons (ps_set (i := 11) scRows.nd rfl (Or.inl rfl) (pe_call GFresh (hr.mono (by decide)) (by rfl) T.gFresh T.FFresh.kp T.bFresh .nil pass0 (pa_cons (pv 1) (pa_cons (pv 11) (pa_cons (pv 3) (pa_cons (pe_lc (own := [("_law_row", 8)]) (g := gName 8) (by rfl) scRows.nd (pi_list (pv 10)) (blkOk_by (own := [("_law_row", 8)]) (N := ["_law_box_here", "_law_signs", "_law_count", "_law_most", "_law_lowers", "_law_rows_here", "_law_k", "_law_name", "_law_row", "_law_place", "_law_near", "_law_long", "_law_short"]) (sc := defScope sRows) (by decide +kernel)) (fun _ _ _ _ _ => pg_name (i := 8) scRows.nd rfl (Or.inl rfl)) (fun _ _ _ _ _ => pts_nil) (fun _ _ _ _ _ => (pe_ix (r := rIxT K) ix_tup (pv 8) pe_int (fun _ _ => rfl)))) pa_nil))))))
      (pss_cons (ps_set (i := 12) scRows.nd rfl (Or.inl rfl) (pe_call GFresh (hr.mono (by decide)) (by rfl) T.gFresh T.FFresh.kp T.bFresh .nil pass0 (pa_cons (pv 1) (pa_cons (pv 12) (pa_cons (pv 3) (pa_cons (pe_lc (own := [("_law_row", 8)]) (g := gName 8) (by rfl) scRows.nd (pi_list (pv 10)) (blkOk_by (own := [("_law_row", 8)]) (N := ["_law_box_here", "_law_signs", "_law_count", "_law_most", "_law_lowers", "_law_rows_here", "_law_k", "_law_name", "_law_row", "_law_place", "_law_near", "_law_long", "_law_short"]) (sc := defScope sRows) (by decide +kernel)) (fun _ _ _ _ _ => pg_name (i := 8) scRows.nd rfl (Or.inl rfl)) (fun _ _ _ _ _ => pts_nil) (fun _ _ _ _ _ => (pe_ix (r := rIxT K) ix_tup (pv 8) pe_int (fun _ _ => rfl)))) pa_nil))))))
      (pss_one (ps_expr (pe_bm PySem.F.plainAttrs_list PySem.F.slot_list_append PySem.F.type_list_append mt_append (pv 5) (pa_cons (pe_tup (pa_cons (pv 7) (pa_cons (pv 11) (pa_cons (pv 12) (pa_cons (pv 9) pa_nil))))) pa_nil))))))))))))))
      (pss_one (ps_ret (pv 5)))))), ?_⟩
    refine ⟨Nat.zero_le _, fun u hu => ?_⟩
    rw [az_S]
    obtain ⟨⟨ob, hob⟩, ⟨og, hog⟩⟩ := hB.al
    have hub : u ≠ b ∧ u ≠ g := ⟨(ne_of_none hob hu).symm, (ne_of_none hog hu).symm⟩
    have s1 : Same H (upd H u (.lst [])) := upd_laid hu
    have hR1 : RowsAt (upd H u (.lst [])) u [] := ⟨upd_same, by simp⟩
    have hB1 := hB.same s1
    have k1 : Kp2 b g H (upd H u (.lst [])) := Same.kp2 s1 b g
    generalize upd H u (.lst []) = H1 at hR1 hB1 k1
    have at3 : ∀ j : Nat, j < 3 → ∃ pl : List Nat, ([V.str "any", .str "inner", .str "opening"] : List V)[j]? = some (.str (S pl)) ∧ Tx pl ∧ pl ∈ kindsL := by
      intro j hj
      match j, hj with
      | 0, _ => exact ⟨("any" : Str).cps.toList, congrArg (fun z => some (V.str z)) (S_of _), ⟨by decide +kernel, by decide +kernel⟩, List.mem_cons_self⟩
      | 1, _ => exact ⟨("inner" : Str).cps.toList, congrArg (fun z => some (V.str z)) (S_of _), ⟨by decide +kernel, by decide +kernel⟩, (List.mem_cons_of_mem _ (List.mem_cons_of_mem _ List.mem_cons_self))⟩
      | 2, _ => exact ⟨("opening" : Str).cps.toList, congrArg (fun z => some (V.str z)) (S_of _), ⟨by decide +kernel, by decide +kernel⟩, (List.mem_cons_of_mem _ List.mem_cons_self)⟩
    have e26 := az_len
    refine ⟨_, rfl, _, rfl, by omega, by omega, for_range (lo := 0) (n := n) (fun i σ H' => ∃ (ps : List (Addr × Row)) (v6 v7 v8 v9 v10 v11 v12 : Option V), σ = stR b sg n m u v6 v7 v8 v9 v10 v11 v12 ∧ RowsAt H' u ps ∧ ps.length = i ∧ (∀ q ∈ ps, RowW sg m q.2) ∧ (sg.Nodup → n ≤ Fw.top sg.length m → (ps.map (·.2)).Pairwise Apart) ∧ BoxB H' b g ∧ Kp2 b g H H')
      ⟨[], _, _, _, _, _, _, _, rfl, hR1, rfl, by simp, fun _ _ => .nil, hB1, k1⟩ ?_ ?_⟩
    · rintro i σ H2 hi ⟨ps, v6, v7, v8, v9, v10, v11, v12, rfl, hR2, hlen, hws, hpw, hB2, k2⟩
      -- the name
      refine ⟨_, rfl, _, rfl, _, rfl, b, g, azL, 8, 0, rfl, hB2, by omega, by omega, by omega, by omega, by omega, fun w1 H3 hw1 hw2 hw3 hB3 k3 => ?_⟩
      have hR3 := hR2.kp hB2 hub k3
      refine ⟨_, rfl, u, rfl, ⟨_, SqL.of hR3.1⟩, fun D2 hD2 => lc_lst (fun q : Addr × Row => V.ref q.1) (fun _ => true) (fun q => V.str (S q.2.n)) (by omega) hR3.1 hD2 (fun _ => rfl) (fun _ _ _ _ _ q => q) (fun q hq _ H3 Q3 off k3 => ⟨_, rfl, q.1, _, 0, _, rfl, rfl, SqT.of ((off q.1 (ne_of_none (hR3.2 q hq).1 hD2)).trans (hR3.2 q hq).1), rfl, k3⟩) ?_⟩
      rw [col_map]
      have s4 : Same H3 (upd H3 D2 (.lst (ps.map fun q => V.str (S q.2.n)))) := upd_laid hD2
      have hD4 : (upd H3 D2 (.lst (ps.map fun q => V.str (S q.2.n)))) D2 = some (.lst ((ps.map fun q => q.2.n).map fun t => V.str (S t))) := by
        rw [upd_same, List.map_map]
        rfl
      have hR4 := hR3.same s4
      have hB4 := hB3.same s4
      have k4 := k2.trans (k3.trans (Same.kp2 s4 b g))
      generalize upd H3 D2 (.lst (ps.map fun q => V.str (S q.2.n))) = H4 at hD4 hR4 hB4 k4
      refine ⟨azL, w1, 8, D2, ps.map fun q => q.2.n, rfl, by omega, by omega, by omega, ⟨hw1, hw2, hw3⟩, SqL.of hD4, by rw [List.length_map]; omega, fun nm hnm hnf => ?_⟩
      have hnmx : Tx nm := hnm.tx az_ok (by omega)
      -- the place
      refine ⟨(by show 3 ≤ sizeLine; decide), fun L hL => ?_⟩
      have s5 : Same H4 (upd H4 L (.lst [.str "any", .str "inner", .str "opening"])) := upd_laid hL
      have hL5 : (upd H4 L (.lst [.str "any", .str "inner", .str "opening"])) L = some (.lst [.str "any", .str "inner", .str "opening"]) := upd_same
      have hR5 := hR4.same s5
      have hB5 := hB4.same s5
      have k5 := k4.trans (Same.kp2 s5 b g)
      obtain ⟨⟨ob5, hob5⟩, ⟨og5, hog5⟩⟩ := hB4.al
      have hLb : L ≠ b ∧ L ≠ g := ⟨(ne_of_none hob5 hL).symm, (ne_of_none hog5 hL).symm⟩
      generalize upd H4 L (.lst [.str "any", .str "inner", .str "opening"]) = H5 at hL5 hR5 hB5 k5
      refine ⟨_, rfl, b, g, _, rfl, hB5, by decide, fun r H6 hr6 hB6 hk6 => ?_⟩
      have hR6 := hR5.kp hB5 hub hk6
      have k6 := k5.trans hk6
      have g0 := Int.emod_nonneg ((r : Int) + (0 + (i : Int))) (show (3 : Int) ≠ 0 by decide)
      have g1 := Int.emod_lt_of_pos ((r : Int) + (0 + (i : Int))) (show (0 : Int) < 3 by decide)
      obtain ⟨j, hj⟩ : ∃ j : Nat, ((r : Int) + (0 + (i : Int))) % 3 = (j : Int) := ⟨(((r : Int) + (0 + (i : Int))) % 3).toNat, by omega⟩
      obtain ⟨pl, hpl, hplx, hplk⟩ := at3 j (by omega)
      refine ⟨_, rfl, _, _, rfl, rfl, .inl ⟨_, rfl, _, _, rfl, rfl, by show (0 : Int) < _; decide, L, _, _, _, rfl, rfl, SqL.of (hk6 _ _ hLb.1 hLb.2 hL5), (by rw [hj]; exact atI_nat hpl), ?_⟩⟩
      -- those near
      refine ⟨_, rfl, u, rfl, ⟨_, SqL.of hR6.1⟩, fun D7 hD7 => lc_lst (fun q : Addr × Row => V.ref q.1) (fun q => ovB q.2.p pl) (fun q => V.ref q.1) (by omega) hR6.1 hD7 (fun _ => rfl) (fun q hq H3 Q3 off k3 => ⟨_, rfl, q.1, _, 3, _, rfl, rfl, SqT.of ((off q.1 (ne_of_none (hR6.2 q hq).1 hD7)).trans (hR6.2 q hq).1), rfl, _, rfl, q.2.p, pl, rfl, _, rfl, k3⟩) (fun q hq _ H3 Q3 off k3 => ⟨_, rfl, k3⟩) ?_⟩
      have s7 : Same H6 (upd H6 D7 (.lst ((ps.filter fun q => ovB q.2.p pl).map fun q => V.ref q.1))) := upd_laid hD7
      have hN7 : RowsAt (upd H6 D7 (.lst ((ps.filter fun q => ovB q.2.p pl).map fun q => V.ref q.1))) D7 (ps.filter fun q => ovB q.2.p pl) := ⟨upd_same, fun q hq => ((hR6.same s7).2 q (List.mem_filter.mp hq).1)⟩
      have hR7 := hR6.same s7
      have hB7 := hB6.same s7
      have k7 := k6.trans (Same.kp2 s7 b g)
      obtain ⟨⟨ob7, hob7⟩, ⟨og7, hog7⟩⟩ := hB6.al
      have hDb : D7 ≠ b ∧ D7 ≠ g := ⟨(ne_of_none hob7 hD7).symm, (ne_of_none hog7 hD7).symm⟩
      have hNl : (ps.filter fun q => ovB q.2.p pl).length ≤ ps.length := List.length_filter_le _ _
      generalize upd H6 D7 (.lst ((ps.filter fun q => ovB q.2.p pl).map fun q => V.ref q.1)) = H7 at hN7 hR7 hB7 k7
      have hNm : ∀ q ∈ ps, ovB q.2.p pl = true → q ∈ ps.filter fun q => ovB q.2.p pl := fun q hq h => List.mem_filter.mpr ⟨hq, h⟩
      generalize (ps.filter fun q => ovB q.2.p pl) = ns at hN7 hNl hNm
      -- long and short
      refine ⟨_, rfl, _, rfl, _, rfl, _, rfl, _, _, rfl, rfl, b, g, sg, m, i + 1, (congrArg (fun z : Int => ([V.ref b, .str (S sg), .int (m : Int), V.int z] : List V)) (by omega : (0 + (i : Int)) + 1 = ((i + 1 : Nat) : Int))), hB7, hs1, hs2, hm1, hm2, by omega, fun w2 H8 a1 a2 a3 hB8 hk8 => ?_⟩
      refine ⟨_, rfl, _, rfl, _, rfl, b, g, sg, m, 0, rfl, hB8, hs1, hs2, hm1, hm2, by omega, fun w3 H9 c1 c2 c3 hB9 hk9 => ?_⟩
      have hR9 := (hR7.kp hB7 hub hk8).kp hB8 hub hk9
      have hN9 := (hN7.kp hB7 hDb hk8).kp hB8 hDb hk9
      have k9 := k7.trans (hk8.trans hk9)
      refine ⟨b, g, sg, n, m, u, ps, w2, _, _, _, _, _, _, rfl, hB9, hs1, hs2, hm2, hR9, hub, by omega, fun q hq => (hws q hq).2.1, ⟨a1, a2, a3⟩, fun t2 H10 ht2 hB10 hk10 => ?_⟩
      have hR10 := hR9.kp hB9 hub hk10
      refine ⟨b, g, sg, n, m, u, ps, w3, _, _, _, _, _, _, rfl, hB10, hs1, hs2, hm2, hR10, hub, by omega, fun q hq => (hws q hq).2.2.1, ⟨c1, c2, c3⟩, fun t3 H11 ht3 hB11 hk11 => ?_⟩
      have hR11 := hR10.kp hB10 hub hk11
      have hN11 := (hN9.kp hB9 hDb hk10).kp hB10 hDb hk11
      have k11 := k9.trans (hk10.trans hk11)
      -- fresh ones
      refine ⟨_, rfl, _, rfl, _, rfl, _, rfl, D7, rfl, ⟨_, SqL.of hN11.1⟩, fun D2 hD2 => lc_lst (fun q : Addr × Row => V.ref q.1) (fun _ => true) (fun q => V.str (S q.2.l)) (by omega) hN11.1 hD2 (fun _ => rfl) (fun _ _ _ _ _ q => q) (fun q hq _ H3 Q3 off k3 => ⟨_, rfl, q.1, _, 1, _, rfl, rfl, SqT.of ((off q.1 (ne_of_none (hN11.2 q hq).1 hD2)).trans (hN11.2 q hq).1), rfl, k3⟩) ?_⟩
      rw [col_map]
      have s12 : Same H11 (upd H11 D2 (.lst (ns.map fun q => V.str (S q.2.l)))) := upd_laid hD2
      have hD12 : (upd H11 D2 (.lst (ns.map fun q => V.str (S q.2.l)))) D2 = some (.lst ((ns.map fun q => q.2.l).map fun t => V.str (S t))) := by
        rw [upd_same, List.map_map]
        rfl
      have hR12 := hR11.same s12
      have hN12 := hN11.same s12
      have hB12 := hB11.same s12
      have k12 := k11.trans (Same.kp2 s12 b g)
      generalize upd H11 D2 (.lst (ns.map fun q => V.str (S q.2.l))) = H12 at hD12 hR12 hN12 hB12 k12
      refine ⟨sg, t2, m, D2, ns.map fun q => q.2.l, rfl, hs1, hs2, hm2, ht2, SqL.of hD12, by rw [List.length_map]; omega, fun lg hlg hlf => ?_⟩
      refine ⟨_, rfl, _, rfl, _, rfl, _, rfl, D7, rfl, ⟨_, SqL.of hN12.1⟩, fun D3 hD3 => lc_lst (fun q : Addr × Row => V.ref q.1) (fun _ => true) (fun q => V.str (S q.2.s)) (by omega) hN12.1 hD3 (fun _ => rfl) (fun _ _ _ _ _ q => q) (fun q hq _ H3 Q3 off k3 => ⟨_, rfl, q.1, _, 2, _, rfl, rfl, SqT.of ((off q.1 (ne_of_none (hN12.2 q hq).1 hD3)).trans (hN12.2 q hq).1), rfl, k3⟩) ?_⟩
      rw [col_map]
      have s13 : Same H12 (upd H12 D3 (.lst (ns.map fun q => V.str (S q.2.s)))) := upd_laid hD3
      have hD13 : (upd H12 D3 (.lst (ns.map fun q => V.str (S q.2.s)))) D3 = some (.lst ((ns.map fun q => q.2.s).map fun t => V.str (S t))) := by
        rw [upd_same, List.map_map]
        rfl
      have hR13 := hR12.same s13
      have hB13 := hB12.same s13
      have k13 := k12.trans (Same.kp2 s13 b g)
      generalize upd H12 D3 (.lst (ns.map fun q => V.str (S q.2.s))) = H13 at hD13 hR13 hB13 k13
      refine ⟨sg, t3, m, D3, ns.map fun q => q.2.s, rfl, hs1, hs2, hm2, ht3, SqL.of hD13, by rw [List.length_map]; omega, fun sh hsh hsf => ?_⟩
      -- the row
      refine ⟨_, rfl, .inl ⟨rfl, _, SqL.of hR13.1⟩, _, rfl, _, rfl, _, rfl, _, rfl, (by show 4 ≤ sizeLine; decide), fun tp htp => ?_⟩
      have s14 : Same H13 (upd H13 tp (.tup [.str (S nm), .str (S lg), .str (S sh), .str (S pl)])) := upd_laid htp
      have hR14 := hR13.same s14
      have hB14 := hB13.same s14
      have k14 := k13.trans (Same.kp2 s14 b g)
      have htp14 : (upd H13 tp (.tup [.str (S nm), .str (S lg), .str (S sh), .str (S pl)])) tp = some (.tup [.str (S nm), .str (S lg), .str (S sh), .str (S pl)]) := upd_same
      generalize upd H13 tp (.tup [.str (S nm), .str (S lg), .str (S sh), .str (S pl)]) = H14 at hR14 hB14 k14 htp14
      refine ⟨u, _, _, rfl, rfl, hR14.1, by rw [List.length_map, sizeLine_eq]; omega, ?_⟩
      have nu : ∀ {x : Addr} {xs : List V}, H14 x = some (.tup xs) → x ≠ u := fun {x xs} hx z => by
        rw [z, hR14.1] at hx
        cases hx
      refine ⟨ps ++ [(tp, ⟨nm, lg, sh, pl⟩)], _, _, _, _, _, _, _, rfl, ⟨?_, ?_⟩, ?_, ?_, ?_, ?_, ?_⟩
      · rw [upd_same, List.map_append]
        rfl
      · intro q hq
        rcases List.mem_append.mp hq with h | h
        · obtain ⟨h1, h2⟩ := hR14.2 q h
          exact ⟨by rw [upd_ne (nu h1)]; exact h1, h2⟩
        · rw [List.mem_singleton] at h
          subst h
          exact ⟨by rw [upd_ne (nu htp14)]; exact htp14, hnmx, hlg.tx hsw hm2, hsh.tx hsw hm2, hplx⟩
      · rw [List.length_append, hlen]
        rfl
      · intro q hq
        rcases List.mem_append.mp hq with h | h
        · exact hws q h
        · rw [List.mem_singleton] at h
          subst h
          exact ⟨hnm, hlg, hsh, hplk⟩
      · intro z1 z2
        rw [List.map_append]
        refine List.pairwise_append.mpr ⟨hpw z1 z2, List.pairwise_singleton _ _, fun r hr e he => ?_⟩
        obtain ⟨q, hq, rfl⟩ := List.mem_map.mp hr
        rw [List.map_cons, List.map_nil, List.mem_singleton] at he
        subst he
        have d1 := hnf az_nodup (by rw [List.length_map, az_len]; exact Nat.lt_of_le_of_lt (show ps.length ≤ 20 by omega) (by decide))
        have d2 := hlf z1 (by rw [List.length_map]; omega)
        have d3 := hsf z1 (by rw [List.length_map]; omega)
        refine ⟨fun z => d1 (List.mem_map.mpr ⟨q, hq, z⟩), ?_⟩
        unfold confB
        show (ovB q.2.p pl && (decide (q.2.l = lg) || decide (q.2.s = sh))) = false
        cases ho : ovB q.2.p pl with
        | false => rfl
        | true =>
          have hm := hNm q hq ho
          rw [decide_eq_false (fun z => d2 (List.mem_map.mpr ⟨q, hm, z⟩)), decide_eq_false (fun z => d3 (List.mem_map.mpr ⟨q, hm, z⟩))]
          rfl
      · obtain ⟨x, mm, sd, gs, h1, h2, h3⟩ := hB14
        exact ⟨x, mm, sd, gs, by rw [upd_ne hub.1.symm]; exact h1, by rw [upd_ne hub.2.symm]; exact h2, h3⟩
      · intro c o h1 h2 h3
        have hne : c ≠ u := ne_of_none h3 hu
        rw [upd_ne hne]
        exact k14 c o h1 h2 h3
    · rintro σ H2 ⟨ps, v6, v7, v8, v9, v10, v11, v12, rfl, hR2, hlen, hws, hpw, hB2, k2⟩
      exact ⟨_, rfl, k u ps H2 hu hR2 hlen hws hpw hB2 k2⟩
end
end Vk
set_option Elab.async false
set_option linter.all false
set_option maxRecDepth 100000
set_option maxHeartbeats 4000000
namespace Vk
open PySem PySem.Spec PyProof.Rows L2
/-! sorted of a list of tuples of four texts -/
def shT : Nat → Bool := fun _ => true
def rowK (r : Row) : List (Int ⊕ List Nat) := [.inr r.n, .inr r.l, .inr r.s, .inr r.p]
def sortedR (qs : List (Addr × Row)) : Prop := qs.Pairwise fun x y => PyProof.Rows.lexLt itemOrd (rowK y.2) (rowK x.2) = false
theorem perm_unmap {α β : Type} (f : α → β) {l m : List β} (h : l.Perm m) : ∀ ps : List α, m = ps.map f → ∃ qs : List α, qs.Perm ps ∧ l = qs.map f := by
  induction h with
  | nil =>
    intro ps e
    cases ps with
    | nil => exact ⟨[], .refl _, rfl⟩
    | cons p r => cases e
  | cons x _ ih =>
    intro ps e
    cases ps with
    | nil => cases e
    | cons p r =>
      obtain ⟨e1, e2⟩ := List.cons.inj e
      obtain ⟨qs, h1, h2⟩ := ih r e2
      exact ⟨p :: qs, h1.cons p, by rw [List.map_cons, ← h2, e1]⟩
  | swap x y l =>
    intro ps e
    match ps, e with
    | a :: b :: r, e =>
      obtain ⟨e1, e2⟩ := List.cons.inj e
      obtain ⟨e3, e4⟩ := List.cons.inj e2
      exact ⟨b :: a :: r, .swap _ _ _, by rw [e1, e3, e4]; rfl⟩
  | trans _ _ ih1 ih2 =>
    intro ps e
    obtain ⟨q2, p2, e2⟩ := ih2 ps e
    obtain ⟨q1, p1, e1⟩ := ih1 q2 e2
    exact ⟨q1, p1.trans p2, e1⟩
/-- at x in the heap: a tuple of r's four texts -/
def T4 (h : Heap) (x : Addr) (r : Row) : Prop := ∃ o xs n, h.get? x = some o ∧ o.cls = .type "tuple" ∧ o.data = .seq xs n ∧ tupItems shT 0 xs.toList = some (rowK r) ∧ ∃ y t, xs[0]? = some (.str y t)
theorem T4.keep {h h' : Heap} {x : Addr} {r : Row} (t : T4 h x r) (k : ∀ b o, h.get? b = some o → h'.get? b = some o) : T4 h' x r := by
  obtain ⟨o, xs, n, ho, z⟩ := t
  exact ⟨o, xs, n, k _ _ ho, z⟩
theorem tup4 {P : Program} {w : World} {H : Hp} {h : Heap} {x : Addr} {r : Row} (ok : HOk P w H h) (e : H x = some (.tup r.vs)) : T4 h x r := by
  obtain ⟨_, its, rv, o, ho, hc, n, hd⟩ := ok _ _ e
  cases rv with
  | cons r1 rv =>
    cases rv with
    | cons r2 rv =>
      cases rv with
      | cons r3 rv =>
        cases rv with
        | cons r4 rv =>
          cases rv
          obtain ⟨t1, rfl⟩ := r1
          obtain ⟨t2, rfl⟩ := r2
          obtain ⟨t3, rfl⟩ := r3
          obtain ⟨t4, rfl⟩ := r4
          refine ⟨o, _, n, ho, hc, hd, ?_, _, _, rfl⟩
          show some [Sum.inr (S r.n).cps.toList, Sum.inr (S r.l).cps.toList, Sum.inr (S r.s).cps.toList, Sum.inr (S r.p).cps.toList] = _
          rw [S_cps, S_cps, S_cps, S_cps]
          rfl
theorem key4 {h : Heap} {x : Addr} {r : Row} (t4 : T4 h x r) : G.tupKeyC h shT (.ref x) = some (rowK r) := by
  obtain ⟨o, xs, n, ho, hc, hd, hi, _⟩ := t4
  unfold G.tupKeyC
  have e1 : G.isTupObj h (.ref x) = true := by simp [G.isTupObj, ho, hc]
  rw [if_pos e1]
  simp only [tupKey, ho, hd]
  exact hi
theorem tups4 {h : Heap} : ∀ ps : List (Addr × Row), (∀ q ∈ ps, T4 h q.1 q.2) → ∃ fs, TupsOf h shT (ps.map fun q => Value.ref q.1) fs
  | [], _ => ⟨[], .nil⟩
  | q :: r, hp => by
    obtain ⟨fs, hf⟩ := tups4 r fun x hx => hp x (List.mem_cons_of_mem _ hx)
    obtain ⟨o, xs, n, ho, hc, hd, _, y, t, h0⟩ := hp q List.mem_cons_self
    exact ⟨_ :: fs, .cons ⟨q.1, o, xs, n, rfl, ho, hc, hd, h0, fun z => (by cases z), fun _ => ⟨y, t, rfl⟩⟩ hf⟩
theorem sorted_out {h : Heap} {ps : List (Addr × Row)} (hp : ∀ q ∈ ps, T4 h q.1 q.2) {arr : Array Keyed}
    (h1 : arr.Perm (pairsOf (ps.map fun q => Value.ref q.1))) (h2 : SortedToK (G.tupKindC h shT) arr (pairsOf (ps.map fun q => Value.ref q.1)).size) :
    ∃ qs : List (Addr × Row), qs.Perm ps ∧ sortedR qs ∧ (arr.map (·.2)).toList = qs.map fun q => Value.ref q.1 := by
  have e := Array.perm_iff_toList_perm.mp h1
  have ez : (pairsOf (ps.map fun q => Value.ref q.1)).toList = ps.map fun q => ((Value.ref q.1, Value.ref q.1) : Keyed) := by
    rw [pairsOf_toList]
    clear hp h1 h2 e
    induction ps with
    | nil => rfl
    | cons q r ih => rw [List.map_cons, List.zip_cons_cons, ih, List.map_cons]
  rw [ez] at e
  obtain ⟨qs, p1, e1⟩ := perm_unmap _ e ps rfl
  refine ⟨qs, p1, ?_, ?_⟩
  · unfold sortedR
    rw [List.pairwise_iff_getElem]
    intro i j hi hj hij
    have hlen : (pairsOf (ps.map fun q => Value.ref q.1)).size = qs.length := by rw [pairsOf_size, List.length_map, p1.length_eq]
    have kk : ∀ (k : Nat) (hk : k < qs.length), KK (G.tupKindC h shT) arr k = rowK qs[k].2 := fun k hk => by
      have e2 : arr[k]? = some ((Value.ref qs[k].1, Value.ref qs[k].1) : Keyed) := by
        rw [← Array.getElem?_toList, e1, List.getElem?_map, List.getElem?_eq_getElem hk]
        rfl
      unfold KK
      rw [e2]
      show (G.tupKeyC h shT (.ref qs[k].1)).getD _ = _
      rw [key4 (hp _ (p1.mem_iff.mp (List.getElem_mem hk)))]
      rfl
    have := h2 i j (Nat.le_of_lt hij) (by rw [hlen]; exact hj)
    rw [kk i hi, kk j hj] at this
    exact this
  · rw [Array.toList_map, e1, List.map_map]
    rfl
section
variable {X : Cx}
def rSort4 (K : PySem.W.Frag) : List V → Hp → VK → Prop := fun vs H Q => ∃ (a : Addr) (ps : List (Addr × Row)), vs = [V.ref a] ∧ SqL K H a (ps.map fun q => V.ref q.1) ∧ (∀ q ∈ ps, H q.1 = some (.tup q.2.vs)) ∧
  ∀ (qs : List (Addr × Row)) p, qs.Perm ps → sortedR qs → H p = none → Q (.ref p) (upd H p (.lst (qs.map fun q => V.ref q.1)))
theorem cr_sort4 : CallR X (.builtin "sorted") (rSort4 X.K) := by
  intro pins s σ H vs us Q I r h
  obtain ⟨a, ps, rfl, hs, hx, q⟩ := h
  obtain ⟨its, rv, hl, hz⟩ := I.list hs
  obtain ⟨u, rfl, ru⟩ := vals1 r
  obtain rfl : u = Value.ref a := ru
  have rv2 : Vals ((ps.map (·.1)).map V.ref) its := by
    rw [List.map_map]
    exact rv
  have hits := nts_of rv2
  rw [List.map_map] at hits
  have hits2 : its = ps.map fun q => Value.ref q.1 := hits
  subst hits2
  have hx4 : ∀ q ∈ ps, T4 s.heap q.1 q.2 := fun q hq => tup4 I.hok (hx q hq)
  obtain ⟨fs, hf⟩ := tups4 ps hx4
  have hzl : ps.length ≤ sizeLine := by
    have := rv.length
    rw [List.length_map, List.length_map] at this
    rw [List.length_map] at hz
    exact hz
  refine G.sorted_tups hl.isList hf (fun v hv => ?_) (by rw [List.length_map]; exact hzl) fun st' a1 a2 a3 => ?_
  · obtain ⟨q, hq, rfl⟩ := List.mem_map.mp hv
    exact ⟨_, key4 (hx4 q hq)⟩
  · obtain ⟨qs, p1, p2, p3⟩ := sorted_out hx4 a1 a2
    have hd : s.heap.objs.size ≤ s.heap.objs.size + 1 := Nat.le_succ _
    obtain ⟨n, hn⟩ := sortedAll_at s.heap (ps.map fun q => Value.ref q.1) ((arrOf st').map (·.2))
    refine ⟨.ref (s.heap.objs.size + 1), upd H (s.heap.objs.size + 1) (.lst (qs.map fun q => V.ref q.1)), I.laid (t' := s.toks) (fun b o e => sortedAll_old e) hd ⟨?_, qs.map fun q => Value.ref q.1, n, ?_, ?_⟩, rfl, q qs _ p1 p2 (I.hok.fresh hd)⟩
    · rw [List.length_map, p1.length_eq]
      exact hzl
    · have := of_nts (qs.map (·.1))
      rw [List.map_map, List.map_map] at this
      exact this
    · rw [hn, ← p3, Array.toArray_toList]
end
end Vk
set_option Elab.async false
set_option linter.all false
set_option maxRecDepth 100000
set_option maxHeartbeats 4000000
namespace Vk
open PySem PySem.W PySem.Calls PySem.Spec PyProof.Rows L2
/-! sorted of a tuple of tuples of four texts -/
section
variable {prog : Program} {w : World} {A : Around} {E : Value → Shared → Prop} {s : Shared}
theorem collect_tupT {t : Addr} {vs : List Value} {Q : List Value → Shared → Prop} (ht : s.heap.IsTuple t vs.toArray) (hz : vs.length ≤ sizeLine)
    (h : Q vs { s with heap := (s.heap.push (seqObj "list" #[] 0)).update s.heap.objs.size (Obj.mapSeq (· ++ vs.toArray)) }) :
    wpAny (model prog w) A (collect (.ref t)) Q E s := by
  obtain ⟨o, ho, hc, n, hd⟩ := ht
  have keep : (s.heap.push (seqObj "list" #[] 0)).get? t = some o := Heap.get?_push_of_some _ ho
  have new : (s.heap.push (seqObj "list" #[] 0)).get? s.heap.objs.size = some (seqObj "list" #[] 0) := Heap.get?_push_size _ rfl
  unfold collect
  refine wpAny_bind (wpAny_runValue (codeAny_builtin entry_proto_collect' ?_))
  refine wpAny_bind (wpAny_newList (wpAny_pure ⟨Code.quiet_builtin _ (by decide +kernel), codeAny_builtin entry_list_iadd' ?_⟩))
  show wpAny _ _ (Builtin.List.listExtendWith (.ref s.heap.objs.size) (.ref t) (.ref s.heap.objs.size)) _ _ { s with heap := s.heap.push (seqObj "list" #[] 0) }
  unfold Builtin.List.listExtendWith
  refine wpAny_bind (wpAny_typeOf (T := "tuple") ⟨o, keep, hc⟩ ?_)
  rw [if_pos (by rw [show (Value.type "tuple" == Value.type "tuple") = true by rfl, Bool.or_true])]
  refine wpAny_bind (listItems_at keep hd ?_)
  refine wpAny_bind (listItems_at (xs := #[]) (n := 0) new rfl ?_)
  rw [if_neg (by simp)]
  refine wpAny_bind (listUpdate_at (xs := #[]) (n := 0) new rfl (wpAny_pure ?_) (Nat.zero_le _) (by show (#[] ++ vs.toArray).size ≤ sizeLine + 1; simp only [Array.size_append, List.size_toArray, List.length_nil]; omega))
  refine wpAny_bind (wpAny_load (get?_update_seq new _) ?_)
  have e : ((#[] : Array Value) ++ vs.toArray).toList = vs := by simp
  show wpAny _ _ (pure ((#[] : Array Value) ++ vs.toArray).toList) Q E _
  rw [e]
  exact wpAny_pure h
theorem sorted_tupT {t : Addr} {ps : List (Addr × Row)} {Q : Value → Shared → Prop} (ht : s.heap.IsTuple t (ps.map fun q => Value.ref q.1).toArray) (hz : ps.length ≤ sizeLine) (h4 : ∀ q ∈ ps, T4 s.heap q.1 q.2)
    (h : ∀ (qs : List (Addr × Row)) (out : Array Value), qs.Perm ps → sortedR qs → out.toList = (qs.map fun q => Value.ref q.1) → Q (.ref (s.heap.objs.size + 1)) { s with heap := sortedAll s.heap (ps.map fun q => Value.ref q.1) out }) :
    wpAny (model prog w) A (call (.builtin "sorted") [.ref t]) Q E s := by
  have hzl : (ps.map fun q => Value.ref q.1).length ≤ sizeLine := by rw [List.length_map]; exact hz
  generalize hvs : (ps.map fun q => Value.ref q.1) = vs at ht hzl h
  refine Calls.call_function_entry kind_sorted plain_sorted entry_sorted (args_sorted1 _) ?_
  unfold Builtin.«sorted»
  refine wpAny_bind (m := checkCount "sorted" 1 1 _) (wpAny_pure ?_)
  refine wpAny_bind (collect_tupT ht hzl ?_)
  refine wpAny_bind (wpAny_newList ?_ hzl)
  have new : (s.heap.push (seqObj "list" #[] 0)).get? s.heap.objs.size = some (seqObj "list" #[] 0) := Heap.get?_push_size _ rfl
  have hsz : ((s.heap.push (seqObj "list" #[] 0)).update s.heap.objs.size (Obj.mapSeq (· ++ vs.toArray))).objs.size = s.heap.objs.size + 1 := by
    rw [Heap.size_update, size_push']
  have hoL : (((s.heap.push (seqObj "list" #[] 0)).update s.heap.objs.size (Obj.mapSeq (· ++ vs.toArray))).push (seqObj "list" vs.toArray 0)).get? (s.heap.objs.size + 1) = some (seqObj "list" vs.toArray 0) := by
    rw [← hsz]
    exact Heap.get?_push_size _ rfl
  have keep : ∀ b o, s.heap.get? b = some o → (((s.heap.push (seqObj "list" #[] 0)).update s.heap.objs.size (Obj.mapSeq (· ++ vs.toArray))).push (seqObj "list" vs.toArray 0)).get? b = some o := fun b o q => by
    have hlt : b < s.heap.objs.size := Heap.lt_size q
    refine Heap.get?_push_of_some _ ?_
    rw [Heap.get?_update_ne _ _ _ _ (Nat.ne_of_lt hlt)]
    exact Heap.get?_push_of_some _ q
  show wpAny _ _ _ _ _ { s with heap := ((s.heap.push (seqObj "list" #[] 0)).update s.heap.objs.size (Obj.mapSeq (· ++ vs.toArray))).push (seqObj "list" vs.toArray 0) }
  rw [hsz]
  have h4' : ∀ q ∈ ps, T4 (((s.heap.push (seqObj "list" #[] 0)).update s.heap.objs.size (Obj.mapSeq (· ++ vs.toArray))).push (seqObj "list" vs.toArray 0)) q.1 q.2 := fun q hq => (h4 q hq).keep keep
  obtain ⟨fs, hf⟩ := tups4 ps h4'
  rw [hvs] at hf
  refine wpAny_bind (wpAny_holding (wpAny_call_entry slot_list_sort ⟨_, hoL, rfl⟩ entry_list_sort (G.list_sort_tups hoL hf (fun v hv => ?_) hzl fun st' a1 a2 a3 => ⟨_, rfl, ?_⟩) (args_list_sort _)))
  · rw [← hvs] at hv
    obtain ⟨q, hq, rfl⟩ := List.mem_map.mp hv
    exact ⟨_, key4 (h4' q hq)⟩
  · rw [← hvs] at a1 a2
    obtain ⟨qs, p1, p2, p3⟩ := sorted_out (by rw [hvs]; exact h4') a1 a2
    exact wpAny_pure ⟨_, rfl, h qs _ p1 p2 p3⟩
end
section
variable {X : Cx}
def rSort4T (K : PySem.W.Frag) : List V → Hp → VK → Prop := fun vs H Q => ∃ (a : Addr) (ps : List (Addr × Row)), vs = [V.ref a] ∧ SqT K H a (ps.map fun q => V.ref q.1) ∧ (∀ q ∈ ps, H q.1 = some (.tup q.2.vs)) ∧
  ∀ (qs : List (Addr × Row)) p, qs.Perm ps → sortedR qs → H p = none → Q (.ref p) (upd H p (.lst (qs.map fun q => V.ref q.1)))
theorem cr_sort4T : CallR X (.builtin "sorted") (rSort4T X.K) := by
  intro pins s σ H vs us Q I r h
  obtain ⟨a, ps, rfl, hs, hx, q⟩ := h
  obtain ⟨its, rv, hl, hz⟩ := I.tuple hs
  obtain ⟨u, rfl, ru⟩ := vals1 r
  obtain rfl : u = Value.ref a := ru
  have rv2 : Vals ((ps.map (·.1)).map V.ref) its := by
    rw [List.map_map]
    exact rv
  have hits := nts_of rv2
  rw [List.map_map] at hits
  have hits2 : its = ps.map fun q => Value.ref q.1 := hits
  subst hits2
  have hzl : ps.length ≤ sizeLine := by
    rw [List.length_map] at hz
    exact hz
  refine sorted_tupT hl hzl (fun q hq => tup4 I.hok (hx q hq)) fun qs out p1 p2 p3 => ?_
  have hd : s.heap.objs.size ≤ s.heap.objs.size + 1 := Nat.le_succ _
  obtain ⟨n, hn⟩ := sortedAll_at s.heap (ps.map fun q => Value.ref q.1) out
  refine ⟨.ref (s.heap.objs.size + 1), upd H (s.heap.objs.size + 1) (.lst (qs.map fun q => V.ref q.1)), I.laid (t' := s.toks) (fun b o e => sortedAll_old e) hd ⟨?_, qs.map fun q => Value.ref q.1, n, ?_, ?_⟩, rfl, q qs _ p1 p2 (I.hok.fresh hd)⟩
  · rw [List.length_map, p1.length_eq]
    exact hzl
  · have := of_nts (qs.map (·.1))
    rw [List.map_map, List.map_map] at this
    exact this
  · rw [hn, ← p3, Array.toArray_toList]
end
end Vk
set_option Elab.async false
set_option linter.all false
set_option maxRecDepth 100000
set_option maxHeartbeats 4000000
namespace Vk
open PySem PySem.Spec PyProof.Rows L2
/-! enumerate over a tuple -/
theorem meets_enum1 {v : Value} {o : Obj} {H : Heap → Prop} (B : Begins v o H) :
    Meets (Builtin.«enumerate.__new__» ⟨[.type "enumerate", v], []⟩) (fun _ R s => H s.heap ∧
      R (.ok (.ret (.ref (s.heap.push o).objs.size))) { s with heap := (s.heap.push o).push { cls := .type "enumerate", data := .fields #[.none, .bool false, .ref s.heap.objs.size, rawInt 0, .none, .none] } }) :=
  .of_wp fun prog w A R s h => by
    obtain ⟨hp, g, d, tk, os⟩ := s
    obtain ⟨h1, h⟩ := h
    have hsub := sub_enumerate
    have q1 : ∀ {A' : Around} {E : Value → Shared → Prop} {Q : Value → Shared → Prop}, Q (.ref hp.objs.size) ⟨hp.push o, g, d, tk, os⟩ → wpAny (model prog w) A' (pyIter v) Q E ⟨hp, g, d, tk, os⟩ :=
      fun q => B.iter prog w _ _ ⟨hp, g, d, tk, os⟩ _ h1 q
    wp_walk using q1
    refine wpAny_stack_any fun st => wpAny_pure ?_
    split
    · rename_i c _ _ _ _ _
      cases (c == Value.type "enumerate")
      · wp_walk using q1
        exact ⟨_, rfl, h⟩
      · wp_walk using q1
        exact ⟨_, rfl, h⟩
    · wp_walk using q1
      exact ⟨_, rfl, h⟩
section
variable {prog : Program} {w : World} {A : Around} {E : Value → Shared → Prop} {s : Shared}
theorem enum1 {v : Value} {o : Obj} {H : Heap → Prop} {Q : Value → Shared → Prop} (B : Begins v o H) (h1 : H s.heap)
    (h : ∀ h', IsEnum h' (s.heap.objs.size + 1) s.heap.objs.size 0 .none → h'.get? s.heap.objs.size = some o → (∀ b o, s.heap.get? b = some o → h'.get? b = some o) → Q (.ref (s.heap.objs.size + 1)) { s with heap := h' }) :
    wpAny (model prog w) A (call (.type "enumerate") [v]) Q E s := by
  refine callType_new F.called_enumerate (by decide) (F.typeCall_enumerate_1 _) (F.newCall_enumerate_1 _) (fun obj => F.args_object_init_2 obj _) F.entry_enumerate_new (meets_enum1 B) ⟨h1, ?_⟩
  have hz : (s.heap.push o).objs.size = s.heap.objs.size + 1 := Heap.size_push ..
  show _ ∧ _
  rw [hz]
  have he := Heap.get?_push_size (s.heap.push o) (o := { cls := .type "enumerate", data := .fields #[.none, .bool false, .ref s.heap.objs.size, rawInt 0, .none, .none] }) rfl
  rw [hz] at he
  exact ⟨⟨_, he, rfl⟩, h _ he (Heap.get?_push_of_some _ (Heap.get?_push_size _ B.free)) fun b o x => Heap.get?_push_of_some _ (Heap.get?_push_of_some _ x)⟩
end
/-- the tuple at a, each item in a new pair -/
def IteT (K : PySem.W.Frag) (a : Addr) : It :=
  ⟨fun i H => ∃ (xs : List V) (x : V), SqT K H a xs ∧ xs[i]? = some x, fun i H v H' => ∃ T x, v = .ref T ∧ H T = none ∧ H' = upd H T (.tup [.int (i : Nat), x]) ∧ ∀ xs, SqT K H a xs → xs[i]? = some x, fun i H => ∃ xs : List V, SqT K H a xs ∧ xs.length ≤ i⟩
theorem turn_enumT {P : Program} {w : World} {K : PySem.W.Frag} {elts : List Expr} {kk : Nat} {tpos : Pos} (a e it : Addr) (hei : e ≠ it) (hai : a ≠ it) (hea : e ≠ a) :
    Turn P w K (.Tuple elts kk tpos) (IteT K a) [e, it] e (fun i h => (∃ old, IsEnum h e it ((i : Nat) : Int) old) ∧ h.IsTupleIter it a i) where
  mem := by simp
  obj := fun i h st b hb => by
    obtain ⟨⟨old, he⟩, o, ho, hc, hd⟩ := st
    have e' : b = e ∨ b = it := by simpa using hb
    rcases e' with z | z
    · rw [z]
      exact ⟨_, he, fun v q => nomatch q⟩
    · rw [z]
      exact ⟨o, ho, fun v q => by rw [hd] at q; cases q⟩
  keep := fun i h h' st k => ⟨st.1.imp fun old he => k e (by simp) _ he, st.2.at fun o q => k it (by simp) o q⟩
  item := by
    intro X hP hw hK hc i pins s σ H E I hf st hg
    subst hP hw hK
    obtain ⟨⟨old, he⟩, hit⟩ := st
    obtain ⟨xs, x, hq, hx⟩ := hg
    obtain ⟨its, rv, p, hz⟩ := I.tuple hq
    obtain ⟨u, hu, ru⟩ := rv.get hx
    have hel : e < s.heap.objs.size := Heap.lt_size he
    have hil : it < s.heap.objs.size := by
      obtain ⟨_, q, _⟩ := hit
      exact Heap.lt_size q
    have pt : s.heap.IsTuple a its.toArray := p
    have hlt : i < its.toArray.size := by
      have := (List.getElem?_eq_some_iff.mp hu).1
      simpa using this
    refine wpAny_pyNext_enum_itemD (Draws.tuple (A := X.A.in1) (I.ok.hd hc) it a hai its.toArray) he ⟨hit, pt⟩ hlt hei (by simp [hei, hea]) fun y h' tk hy ho hst hT hsz hk => ?_
    have hyu : y = u := by
      have h1 : its.toArray[i]? = some u := by simpa using hu
      rw [h1] at hy
      exact (Option.some.inj hy).symm
    subst hyu
    refine ⟨_, rfl, wpAny_letOwnedTupleGo_enum (s := { s with heap := h', toks := tk + 1 }) ho fun h'' he' sb => ?_⟩
    have hT2 : h''.get? s.heap.objs.size = some { cls := .type "tuple", data := .seq #[.int i tk, y] } := (sb.2 _ (Nat.ne_of_gt hel)).trans hT
    have new : ObjOk X.prog X.w (upd H s.heap.objs.size (.tup [.int (i : Nat), x])) h'' s.heap.objs.size (.tup [.int (i : Nat), x]) :=
      ⟨by show 2 ≤ sizeLine; decide, [.int i tk, y], .cons ⟨_, rfl⟩ (.cons ru .nil), ⟨_, hT2, rfl, _, rfl⟩⟩
    have I1 : Inv X pins σ (upd H s.heap.objs.size (.tup [.int (i : Nat), x])) { s with heap := h'', toks := tk + 1 } :=
      I.turnedNew (ch := [e, it]) (fun b ob hb q => (sb.2 b (fun z => hb (by simp [z]))).trans (hk b ob (fun z => hb (by simp [z])) (fun z => hb (by simp [z])) q)) hf (Nat.le_refl _) new
    refine ⟨.ref s.heap.objs.size, _, I1, rfl, ⟨_, x, rfl, I.hok.fresh (Nat.le_refl _), rfl, fun ys hy => by rw [I.tuple_inj hy hq]; exact hx⟩, ⟨⟨y, ?_⟩, hst.1.at fun o q => (sb.2 it (Ne.symm hei)).trans q⟩, fun b hb => ?_⟩
    · have e1 : ((i + 1 : Nat) : Int) = (i : Int) + 1 := by omega
      rw [e1]
      exact he'
    · have hb' : b < s.heap.objs.size := by
        have e' : b = e ∨ b = it := by simpa using hb
        rcases e' with z | z
        · rw [z]
          exact hel
        · rw [z]
          exact hil
      rw [upd_ne (Nat.ne_of_lt hb')]
      exact (hf b hb).1
  done := by
    intro X hP hw hK hc i pins s σ H E I hf st hg
    subst hP hw hK
    obtain ⟨⟨old, he⟩, hit⟩ := st
    obtain ⟨xs, hq, hx⟩ := hg
    obtain ⟨its, rv, p, hz⟩ := I.tuple hq
    obtain ⟨f0, f1, f2, f3, f4, f5⟩ := hf it (by simp)
    have hl := rv.length
    have pt : s.heap.IsTuple a its.toArray := p
    have hT : s.TypeIs (.ref e) "enumerate" := ⟨_, he, rfl⟩
    unfold pyNext
    refine wpAny_bind (wpAny_attempt (wpAny_callSpecial?_slot (name := Str.ofString "__next__") hT F.slot_enumerate_next
      (wpAny_call_entry F.slot_enumerate_next hT F.entry_enumerate_next ?_ (F.args_enumerate_next_1 _))))
    show wpAny _ _ (field (.ref e) 2 >>= _) _ _ _
    refine wpAny_bind (wpAny_field he rfl (x := .ref it) rfl ?_)
    refine wpAny_bind (wpAny_nextOf_tuple_end (A := X.A.in1) (I.ok.hd hc) hit pt (by simp; omega) fun h' x he' hx' => ?_)
    obtain ⟨o, ho, hcl⟩ := hx'
    refine wpAny_bind (wpAny_isInstance (T := "StopIteration") (b := true) ⟨o, ho, hcl⟩ isSubtype_stop ?_)
    exact wpAny_pure ⟨rfl, I.turned (t' := s.toks) (fun b o hb q => he' b o hb q) f0 f1 f3 f4 f5⟩
  self := fun A i s Q E st h => let ⟨⟨_, he⟩, _⟩ := st; wpAny_pyIter_enum he h
def iEnumT (K : PySem.W.Frag) (ta : TA) : TI := fun σ H R => ta σ H fun vs H1 => ∃ a xs, vs = [.ref a] ∧ SqT K H1 a xs ∧ R (IteT K a) H1
theorem pi_enumT {X : Cx} {e : Expr} {ta : TA} {p pos tpos : Pos} {elts : List Expr} {kk : Nat} (hg : Gl X "enumerate") (hm : X.mg "enumerate" = none) (ha : PA X [e] ta) (hs : starEach [e] X.env = [(false, eval e X.env)] := by rfl) :
    PI X (.Tuple elts kk tpos) (.Call (.Name "enumerate" p) [e] [] pos) (iEnumT X.K ta) := by
  refine ⟨fun pins s σ H R I h => ?_⟩
  refine Call_ (ld_blt I hg hm boot_enumerate (PyProof.Rows.callWith_type1 (thn (ha.run pos pins s σ H _ I h) fun us s1 ⟨vs, H1, I1, r1, q1⟩ => ?_) hs rfl))
  obtain ⟨a, xs, ex, hq, q⟩ := q1
  subst ex
  cases r1 with
  | cons r rr =>
    cases rr
    cases r
    obtain ⟨its, rv, p', hz⟩ := I1.tuple hq
    have pt : s1.heap.IsTuple a its.toArray := p'
    have hal : a < s1.heap.objs.size := by
      obtain ⟨_, ho, _⟩ := pt
      exact Heap.lt_size ho
    refine enum1 (begins_tuple a its.toArray) pt fun h' he hit hk => wpAny_pyIter_enum he ?_
    have I2 : Inv X pins σ H1 { s1 with heap := h' } := I1.kept (t' := s1.toks) hk
    refine ⟨s1.heap.objs.size + 1, [s1.heap.objs.size + 1, s1.heap.objs.size], _, _, H1, rfl, I2, turn_enumT a (s1.heap.objs.size + 1) s1.heap.objs.size (Nat.succ_ne_self _) (Nat.ne_of_lt hal) (Nat.ne_of_gt (Nat.lt_succ_of_lt hal)), ⟨⟨.none, he⟩, ⟨_, hit, rfl, rfl⟩⟩, fun b hb => ?_, q⟩
    have e' : b = s1.heap.objs.size + 1 ∨ b = s1.heap.objs.size := by simpa using hb
    have hle : s1.heap.objs.size ≤ b := by
      rcases e' with z | z
      · rw [z]
        exact Nat.le_add_right _ _
      · rw [z]
        exact Nat.le_refl _
    exact I1.fpOk hle (I1.hok.fresh hle)
theorem walk_enumT {K : PySem.W.Frag} {a : Addr} {xs : List V} : Walk (IteT K a) xs.length (fun H => SqT K H a xs) (fun i H v H' => ∃ T x, v = .ref T ∧ H T = none ∧ H' = upd H T (.tup [.int (i : Nat), x]) ∧ xs[i]? = some x) :=
  ⟨fun i _ hi q => ⟨xs, xs[i], q, by simp [hi]⟩, fun _ q => ⟨xs, q, Nat.le_refl _⟩, fun _ _ _ _ _ q y => (by
    obtain ⟨T, x, e1, e2, e3, e4⟩ := y
    exact ⟨T, x, e1, e2, e3, e4 xs q⟩)⟩
end Vk
set_option Elab.async false
set_option linter.all false
set_option maxRecDepth 100000
set_option maxHeartbeats 4000000
namespace Vk
open PySem PySem.Spec PyProof.Rows L2
/-! a comprehension over a list that stands still -/
theorem lc_tupE {β : Type} {K : PySem.W.Frag} {a : Addr} {ys : List β} (f : β → V) {j : Nat} {tt : TT} {te : TE} {vs : List Nat} {σ : L2.St} {H1 : Hp} {D : Addr} {Qd : Hp → Prop} (p : β → Bool) (v : β → V) (hl : ys.length ≤ 4000) (ha : H1 a = some (.tup (ys.map f))) (hD : H1 D = none)
    (hw : ∀ x, wipe ((wipe σ vs).set j (some x)) vs = wipe σ vs)
    (ht : ∀ y ∈ ys, ∀ (H2 : Hp) (Q : Bool → Hp → Prop), (∀ b, b ≠ D → H2 b = H1 b) → Q (p y) H2 → tt ((wipe σ vs).set j (some (f y))) H2 Q)
    (he : ∀ y ∈ ys, p y = true → ∀ (H2 : Hp) (Q : VK), (∀ b, b ≠ D → H2 b = H1 b) → Q (v y) H2 → te ((wipe σ vs).set j (some (f y))) H2 Q)
    (hq : Qd (upd H1 D (.lst ((ys.filter p).map v)))) :
    ∃ W : Nat → Nat → Hp → Prop, (∃ m, W 0 m (upd H1 D (.lst []))) ∧ ∀ i m H, W i m H →
      ((Itt K a).stop i H ∧ Qd H) ∨ ((Itt K a).go i H ∧ ∃ Nx : Hp → Prop, (∀ H', Nx H' → ∃ m', m' < m ∧ W (i + 1) m' H') ∧ ∀ x H', (Itt K a).yld i H x H' → gName j x (wipe σ vs) H' fun σ2 H2 => wipe σ2 vs = wipe σ vs ∧ tt σ2 H2 fun b H3 =>
        if b = true then te σ2 H3 fun y H4 => ∃ acc, H4 D = some (.lst acc) ∧ acc.length < sizeLine ∧ Nx (upd H4 D (.lst (acc ++ [y]))) else Nx H3) := by
  have haD : a ≠ D := fun z => by
    rw [z, hD] at ha
    cases ha
  refine lc_tup (K := K) (a := a) (xs := ys.map f) (fun i H => H = upd H1 D (.lst (((ys.take i).filter p).map v))) rfl (fun i H _ e => SqT.of (by rw [e, upd_ne haD]; exact ha)) ?_ ?_
  · rintro i x H' hi hP
    subst hP
    obtain ⟨y, hy, rfl⟩ : ∃ y, ys[i]? = some y ∧ x = f y := by
      rw [List.getElem?_map] at hi
      cases e : ys[i]? with
      | none => rw [e] at hi; cases hi
      | some z => rw [e] at hi; exact ⟨z, rfl, (Option.some.inj hi).symm⟩
    have hm : y ∈ ys := List.mem_of_getElem? hy
    have off : ∀ b, b ≠ D → (upd H1 D (.lst (((ys.take i).filter p).map v))) b = H1 b := fun b hb => upd_ne hb
    have e1 : ys.take (i + 1) = ys.take i ++ [y] := by
      rw [List.take_add_one, hy]
      rfl
    refine ⟨hw _, ht y hm _ _ off ?_⟩
    by_cases hp : p y = true
    · rw [if_pos hp]
      refine he y hm hp _ _ off ⟨_, upd_same, ?_, ?_⟩
      · rw [List.length_map, sizeLine_eq]
        have h1 := List.length_filter_le p (ys.take i)
        rw [List.length_take] at h1
        omega
      · rw [upd_upd, e1, List.filter_append, List.filter_cons_of_pos hp, List.filter_nil, List.map_append]
        rfl
    · rw [if_neg hp, e1, List.filter_append, List.filter_cons_of_neg hp, List.filter_nil, List.append_nil]
  · rintro H rfl
    rw [List.length_map, List.take_length]
    exact hq
end Vk
set_option Elab.async false
set_option linter.all false
set_option maxRecDepth 100000
set_option maxHeartbeats 8000000
namespace Vk
open PySem PySem.Spec PyProof.Rows L2
def isW (sg : List Nat) (m : Nat) (t : List Nat) : Bool := decide (1 ≤ t.length) && (decide (t.length ≤ m) && decide (∀ c ∈ t, c ∈ sg))
theorem isW_iff {sg t : List Nat} {m : Nat} : isW sg m t = true ↔ WordOk sg m t := by
  unfold isW WordOk
  rw [Bool.and_eq_true_iff, Bool.and_eq_true_iff, decide_eq_true_iff, decide_eq_true_iff, decide_eq_true_iff]
def faultL (sg : List Nat) (e : Row) (rs : List Row) : List (List Nat) :=
  if isW azL 8 e.n = false then [Lt "BadName", e.n]
  else if isW sg 6 e.l = false then [Lt "BadForm", e.l]
  else if isW sg 6 e.s = false then [Lt "BadForm", e.s]
  else if e.p ∉ kindsL then [Lt "UnknownPlace", e.p]
  else if e.n ∈ rs.map (·.n) then [Lt "DuplicateName", e.n]
  else match rs.find? (fun r => confB r e) with
    | some r => [Lt "Conflict", e.n, r.n]
    | none => []
theorem kinds_map : kindsL.map (fun l => V.str (S l)) = ([.str "any", .str "opening", .str "inner"] : List V) := by
  unfold kindsL
  simp only [List.map_cons, List.map_nil, Lt_S]
section
variable {P : Program} {w : World} {K : PySem.W.Frag} {mg : Str → Option Value} {base : Heap} {a : Ad} {d : Fd}
def spIsWord : Sp := fun vs H Q _ => ∃ (t sg : List Nat) (m : Nat), vs = [.str (S t), .str (S sg), .int (m : Int)] ∧ t.length ≤ 3000 ∧ ∀ H', Same H H' → Q (.bl (isW sg m t)) H'
theorem scIsWord : FnScope ["_law_word_here", "_law_signs", "_law_most", "_law_sign"] ["_law_word_here", "_law_signs", "_law_most"] (defScope sIsWord) := ⟨rfl, rfl, rfl, by decide +kernel, rfl, by decide +kernel, by decide +kernel⟩
theorem ok_isWord (T : Fns K mg a d) : FnOk P w K mg base CX0 1 a.aIsWord d.dIsWord ["_law_word_here", "_law_signs", "_law_most"] spIsWord := by
  refine T.FIsWord.ok scIsWord (fun vs H Q E h => ?_) (fun cdv A outer s H vs Q E hr h => ?_)
  · obtain ⟨t, sg, m, rfl, _⟩ := h
    rfl
  · obtain ⟨t, sg, m, rfl, hl, k⟩ := h
    refine ⟨_, (pss_one (ps_ret (pe_and (pe_cmpR op_ge (pe_callB call_len_str (by rfl) T.z_len (by decide +kernel) (pa_cons (pv 0) pa_nil)) pe_int (nomark _)) (pe_and (pe_cmpR op_le (pe_callB call_len_str (by rfl) T.z_len (by decide +kernel) (pa_cons (pv 0) pa_nil)) (pv 2) (nomark _)) (pe_one (pe_callB (cr_all rfl) (by rfl) T.z_all (by decide +kernel) (pa_cons (pe_lc (own := [("_law_sign", 3)]) (g := gName 3) (by rfl) scIsWord.nd (pi_str (pv 0)) (blkOk_by (own := [("_law_sign", 3)]) (N := ["_law_word_here", "_law_signs", "_law_most", "_law_sign"]) (sc := defScope sIsWord) (by decide +kernel)) (fun _ _ _ _ _ => pg_name (i := 3) scIsWord.nd rfl (Or.inl rfl)) (fun _ _ _ _ _ => pts_nil) (fun _ _ _ _ _ => (pe_cmpR op_in_sign (pv 3) (pv 1) rfl))) pa_nil))))))), ?_⟩
    have htl : (S t).length ≤ sizeLine := sz4 (by rw [S_len]; omega)
    unfold isW at k
    refine ⟨_, rfl, _, rfl, htl, _, _, rfl, rfl, _, rfl, ite2 (fun h1 => ?_) (fun h1 => ?_)⟩
    · have g1 : 1 ≤ t.length := by
        have := of_decide_eq_true h1
        rw [S_len] at this
        omega
      rw [decide_eq_true g1, Bool.true_and] at k
      refine ⟨_, rfl, _, rfl, htl, _, rfl, _, _, rfl, rfl, _, rfl, ite2 (fun h2 => ?_) (fun h2 => ?_)⟩
      · have g2 : t.length ≤ m := by
          have := of_decide_eq_true h2
          rw [S_len] at this
          omega
        rw [decide_eq_true g2, Bool.true_and] at k
        refine ⟨_, rfl, _, rfl, fun D hD => lc_text (fun _ => true) (fun c => V.bl (decide (c ∈ sg))) (by omega) (fun _ => rfl) (fun _ _ _ _ _ q => q) (fun c hc _ H2 Q2 _ q => ⟨_, rfl, _, rfl, c, S sg, rfl, rfl, by rw [S_cps]; exact q⟩) ?_⟩
        refine ⟨D, t.map (fun c => decide (c ∈ sg)), rfl, ?_, ?_⟩
        · rw [List.map_map]
          refine SqL.of ?_
          rw [upd_same, List.filter_eq_self.mpr (fun _ _ => rfl)]
          rfl
        · have e3 : (t.map fun c => decide (c ∈ sg)).all id = decide (∀ c ∈ t, c ∈ sg) := by
            rw [Bool.eq_iff_iff]
            simp
          rw [e3]
          exact k _ (upd_laid hD)
      · have g2 : ¬ t.length ≤ m := fun z => h2 (decide_eq_true (by rw [S_len]; omega))
        rw [decide_eq_false g2, Bool.false_and] at k
        exact k H (Same.refl H)
    · have g1 : ¬ 1 ≤ t.length := fun z => h1 (decide_eq_true (by rw [S_len]; omega))
      rw [decide_eq_false g1, Bool.false_and] at k
      exact k H (Same.refl H)
def spFault : Sp := fun vs H Q _ => ∃ (sg : List Nat) (x u : Addr) (e : Row) (ps : List (Addr × Row)), vs = [.str (S sg), .ref x, .ref u] ∧ H x = some (.tup e.vs) ∧ e.ok ∧ RowsAt H u ps ∧ ps.length ≤ 20 ∧
  ∀ p H', H p = none → H' p = some (.lst ((faultL sg e (ps.map (·.2))).map fun t => V.str (S t))) → Same H H' → Q (.ref p) H'
theorem scFault : FnScope ["_law_signs", "_law_entry", "_law_rows_here", "_law_form", "_law_row"] ["_law_signs", "_law_entry", "_law_rows_here"] (defScope sFault) := ⟨rfl, rfl, rfl, by decide +kernel, rfl, by decide +kernel, by decide +kernel⟩
theorem ok_fault (T : Fns K mg a d) : FnOk P w K mg base CX0 2 a.aFault d.dFault ["_law_signs", "_law_entry", "_law_rows_here"] spFault := by
  have GIsWord : FnOk P w K mg base CX0 1 a.aIsWord d.dIsWord ["_law_word_here", "_law_signs", "_law_most"] spIsWord := ok_isWord T
  have GOverL : FnOk P w K mg base CX0 1 a.aOverL d.dOverL ["_law_place", "_law_other"] spOverL := ok_overL T
  refine T.FFault.ok scFault (fun vs H Q E h => ?_) (fun cdv A outer s H vs Q E hr h => ?_)
  · obtain ⟨sg, x, u, e, ps, rfl, _⟩ := h
    rfl
  · obtain ⟨sg, x, u, e, ps, rfl, hx, heok, hR, hps, k⟩ := h
    refine ⟨_, (pss_cons (ps_if (pt_not (pt_val (pe_call GIsWord (hr.mono (by decide)) (by rfl) T.gIsWord T.FIsWord.kp T.bIsWord .nil pass0 (pa_cons (pe_ix (r := rIxT K) ix_tup (pv 1) pe_int (fun _ _ => rfl)) (pa_cons pe_str (pa_cons pe_int pa_nil)))))) (pss_one (ps_ret (pe_lst (pa_cons pe_str (pa_cons (pe_ix (r := rIxT K) ix_tup (pv 1) pe_int (fun _ _ => rfl)) pa_nil))))) pss_nil)
      (pss_cons (ps_for PassesOwn.never rfl (pi_tup (pe_slice sl_tup (pv 1) (po_some pe_int) (po_some pe_int))) (pg_name (i := 3) scFault.nd rfl (Or.inl rfl)) (pss_one (ps_if (pt_not (pt_val (pe_call GIsWord (hr.mono (by decide)) (by rfl) T.gIsWord T.FIsWord.kp T.bIsWord .nil pass0 (pa_cons (pv 3) (pa_cons (pv 0) (pa_cons pe_int pa_nil)))))) (pss_one (ps_ret (pe_lst (pa_cons pe_str (pa_cons (pv 3) pa_nil))))) pss_nil)))
      (pss_cons (ps_if (pt_cmpR op_notIn_seq (pe_ix (r := rIxT K) ix_tup (pv 1) pe_int (fun _ _ => rfl)) (pe_lst (pa_cons pe_str (pa_cons pe_str (pa_cons pe_str pa_nil)))) rfl) (pss_one (ps_ret (pe_lst (pa_cons pe_str (pa_cons (pe_ix (r := rIxT K) ix_tup (pv 1) pe_int (fun _ _ => rfl)) pa_nil))))) pss_nil)
      (pss_cons (ps_if (pt_cmpR op_in_seq (pe_ix (r := rIxT K) ix_tup (pv 1) pe_int (fun _ _ => rfl)) (pe_lc (own := [("_law_row", 4)]) (g := gName 4) (by rfl) scFault.nd (pi_list (pv 2)) (blkOk_by (own := [("_law_row", 4)]) (N := ["_law_signs", "_law_entry", "_law_rows_here", "_law_form", "_law_row"]) (sc := defScope sFault) (by decide +kernel)) (fun _ _ _ _ _ => pg_name (i := 4) scFault.nd rfl (Or.inl rfl)) (fun _ _ _ _ _ => pts_nil) (fun _ _ _ _ _ => (pe_ix (r := rIxT K) ix_tup (pv 4) pe_int (fun _ _ => rfl)))) rfl) (pss_one (ps_ret (pe_lst (pa_cons pe_str (pa_cons (pe_ix (r := rIxT K) ix_tup (pv 1) pe_int (fun _ _ => rfl)) pa_nil))))) pss_nil)
      (pss_cons (ps_for PassesOwn.never rfl (pi_list (pv 2)) (pg_name (i := 4) scFault.nd rfl (Or.inl rfl)) (pss_one (ps_if (PW.pt (pw_and (pt_val (pe_call GOverL (hr.mono (by decide)) (by rfl) T.gOverL T.FOverL.kp T.bOverL .nil pass0 (pa_cons (pe_ix (r := rIxT K) ix_tup (pv 4) pe_int (fun _ _ => rfl)) (pa_cons (pe_ix (r := rIxT K) ix_tup (pv 1) pe_int (fun _ _ => rfl)) pa_nil)))) (pw_and1 (PW.pt (pw_or (pt_cmpR op_eq (pe_ix (r := rIxT K) ix_tup (pv 4) pe_int (fun _ _ => rfl)) (pe_ix (r := rIxT K) ix_tup (pv 1) pe_int (fun _ _ => rfl)) (nomark _)) (pw_or1 (pt_cmpR op_eq (pe_ix (r := rIxT K) ix_tup (pv 4) pe_int (fun _ _ => rfl)) (pe_ix (r := rIxT K) ix_tup (pv 1) pe_int (fun _ _ => rfl)) (nomark _)))))))) (pss_one (ps_ret (pe_lst (pa_cons pe_str (pa_cons (pe_ix (r := rIxT K) ix_tup (pv 1) pe_int (fun _ _ => rfl)) (pa_cons (pe_ix (r := rIxT K) ix_tup (pv 4) pe_int (fun _ _ => rfl)) pa_nil)))))) pss_nil)))
      (pss_one (ps_ret (pe_lst pa_nil)))))))), ?_⟩
    have fin : ∀ (H1 : Hp) (xs : List V), Same H H1 → xs = (faultL sg e (ps.map (·.2))).map (fun t => V.str (S t)) → ∀ p, H1 p = none → Q (.ref p) (upd H1 p (.lst xs)) := fun H1 xs s he p hp => by
      refine k p _ (s.free hp) ?_ (Same.trans s (upd_laid hp))
      rw [← he]
      exact upd_same
    obtain ⟨on, ol, os, op⟩ := id heok
    refine ⟨_, rfl, x, _, 0, _, rfl, rfl, SqT.of hx, rfl, e.n, azL, 8, (by rw [← az_S]; rfl), by have := on.1; omega, fun H1 s1 => ⟨_, rfl, ite2 (fun h1 => ?_) (fun h1 => ?_)⟩⟩
    · refine ⟨_, rfl, x, _, 0, _, rfl, rfl, SqT.of (s1 _ _ hx), rfl, (by show 2 ≤ sizeLine; decide), fin H1 _ s1 ?_⟩
      have h2 : isW azL 8 e.n = false := by simpa using h1
      unfold faultL
      rw [if_pos h2]
      simp only [List.map_cons, List.map_nil, Lt_S]
    have w1 : ¬ isW azL 8 e.n = false := by simpa using h1
    refine ⟨_, rfl, _, rfl, _, rfl, x, _, rfl, SqT.of (s1 _ _ hx), (by show ¬ (1 = 0 ∧ _); omega), fun p1 hp1 => ?_⟩
    have s2 := Same.trans s1 (upd_laid (o := .tup (cutV e.vs (some 1) (some 3))) hp1)
    have hp2 : (upd H1 p1 (.tup (cutV e.vs (some 1) (some 3)))) p1 = some (.tup [.str (S e.l), .str (S e.s)]) := upd_same
    generalize upd H1 p1 (.tup (cutV e.vs (some 1) (some 3))) = H2 at s2 hp2
    refine ⟨p1, rfl, ⟨_, SqT.of hp2⟩, for_tup (K := K) (a := p1) (xs := [.str (S e.l), .str (S e.s)]) (fun i σ H' => ∃ v3 : Option V, σ = [some (.str (S sg)), some (.ref x), some (.ref u), v3, none] ∧ Same H2 H' ∧ (1 ≤ i → isW sg 6 e.l = true) ∧ (2 ≤ i → isW sg 6 e.s = true))
      ⟨none, rfl, Same.refl _, by omega, by omega⟩ (fun i σ H' _ ⟨_, _, s, _⟩ => SqT.of (s _ _ hp2)) ?_ ?_⟩
    · rintro i y σ H3 hi ⟨v3, rfl, s3, c1, c2⟩
      have s23 := Same.trans s2 s3
      match i, hi with
      | 0, hi =>
        have hy : V.str (S e.l) = y := Option.some.inj hi
        subst hy
        refine ⟨_, rfl, _, rfl, e.l, sg, 6, rfl, by have := ol.1; omega, fun H4 s4 => ⟨_, rfl, ite2 (fun h2 => ?_) (fun h2 => ?_)⟩⟩
        · refine ⟨_, rfl, (by show 2 ≤ sizeLine; decide), fin H4 _ (Same.trans s23 s4) ?_⟩
          have h3 : isW sg 6 e.l = false := by simpa using h2
          unfold faultL
          rw [if_neg w1, if_pos h3]
          simp only [List.map_cons, List.map_nil, Lt_S]
        · have h3 : isW sg 6 e.l = true := by simpa using h2
          exact ⟨_, rfl, Same.trans s3 s4, fun _ => h3, by omega⟩
      | 1, hi =>
        have hy : V.str (S e.s) = y := Option.some.inj hi
        subst hy
        have d1 := c1 (Nat.le_refl _)
        refine ⟨_, rfl, _, rfl, e.s, sg, 6, rfl, by have := os.1; omega, fun H4 s4 => ⟨_, rfl, ite2 (fun h2 => ?_) (fun h2 => ?_)⟩⟩
        · refine ⟨_, rfl, (by show 2 ≤ sizeLine; decide), fin H4 _ (Same.trans s23 s4) ?_⟩
          have h3 : isW sg 6 e.s = false := by simpa using h2
          unfold faultL
          rw [if_neg w1, if_neg (by rw [d1]; decide), if_pos h3]
          simp only [List.map_cons, List.map_nil, Lt_S]
        · have h3 : isW sg 6 e.s = true := by simpa using h2
          exact ⟨_, rfl, Same.trans s3 s4, fun _ => d1, fun _ => h3⟩
      | n + 2, hi => simp at hi
    · rintro σ H3 ⟨v3, rfl, s3, c1, c2⟩
      have d1 := c1 (by show 1 ≤ 2; decide)
      have d2 := c2 (by show 2 ≤ 2; decide)
      have s23 := Same.trans s2 s3
      refine ⟨_, rfl, x, _, 3, _, rfl, rfl, SqT.of (s23 _ _ hx), rfl, (by show 3 ≤ sizeLine; decide), fun p4 hp4 => ⟨p4, _, rfl, .inl (SqL.of upd_same), rfl, rfl, ?_⟩⟩
      have s4 := Same.trans s23 (upd_laid (o := .lst [.str "any", .str "opening", .str "inner"]) hp4)
      generalize upd H3 p4 (.lst [.str "any", .str "opening", .str "inner"]) = H4 at s4
      rw [if_pos rfl, ← kinds_map, inV_strs]
      refine ⟨_, rfl, ite2 (fun h2 => ?_) (fun h2 => ?_)⟩
      · refine ⟨_, rfl, x, _, 3, _, rfl, rfl, SqT.of (s4 _ _ hx), rfl, (by show 2 ≤ sizeLine; decide), fin H4 _ s4 ?_⟩
        have h3 : e.p ∉ kindsL := by simpa using h2
        unfold faultL
        rw [if_neg w1, if_neg (by rw [d1]; decide), if_neg (by rw [d2]; decide), if_pos h3]
        simp only [List.map_cons, List.map_nil, Lt_S]
      have h3 : ¬ e.p ∉ kindsL := by simpa using h2
      have hR4 := hR.same s4
      refine ⟨_, rfl, x, _, 0, _, rfl, rfl, SqT.of (s4 _ _ hx), rfl, _, rfl, u, rfl, ⟨_, SqL.of hR4.1⟩, fun D2 hD2 => lc_lst (fun q : Addr × Row => V.ref q.1) (fun _ => true) (fun q => V.str (S q.2.n)) (by omega) hR4.1 hD2 (fun _ => rfl) (fun _ _ _ _ _ q => q) (fun q hq _ H3 Q3 off k3 => ⟨_, rfl, q.1, _, 0, _, rfl, rfl, SqT.of ((off q.1 (ne_of_none (hR4.2 q hq).1 hD2)).trans (hR4.2 q hq).1), rfl, k3⟩) ?_⟩
      rw [col_map]
      have s5 := Same.trans s4 (upd_laid (o := .lst (ps.map fun q => V.str (S q.2.n))) hD2)
      have hD5 : (upd H4 D2 (.lst (ps.map fun q => V.str (S q.2.n)))) D2 = some (.lst (((ps.map (·.2)).map (·.n)).map fun t => V.str (S t))) := by
        rw [upd_same, List.map_map, List.map_map]
        rfl
      generalize upd H4 D2 (.lst (ps.map fun q => V.str (S q.2.n))) = H5 at s5 hD5
      refine ⟨D2, _, rfl, .inl (SqL.of hD5), rfl, flat_strs _, ?_⟩
      rw [if_neg Bool.false_ne_true, inV_strs]
      refine ⟨_, rfl, ite2 (fun h4 => ?_) (fun h4 => ?_)⟩
      · refine ⟨_, rfl, x, _, 0, _, rfl, rfl, SqT.of (s5 _ _ hx), rfl, (by show 2 ≤ sizeLine; decide), fin H5 _ s5 ?_⟩
        unfold faultL
        rw [if_neg w1, if_neg (by rw [d1]; decide), if_neg (by rw [d2]; decide), if_neg h3, if_pos (of_decide_eq_true h4)]
        simp only [List.map_cons, List.map_nil, Lt_S]
      have h5 : ¬ e.n ∈ (ps.map (·.2)).map (·.n) := fun z => h4 (decide_eq_true z)
      have hR5 := hR.same s5
      refine ⟨_, rfl, u, rfl, ⟨_, SqL.of hR5.1⟩, for_list (K := K) (a := u) (xs := ps.map fun q => V.ref q.1) (fun i σ H' => H' = H5 ∧ (∃ v3 v4 : Option V, σ = [some (.str (S sg)), some (.ref x), some (.ref u), v3, v4]) ∧ ∀ r ∈ (ps.map (·.2)).take i, confB r e = false)
        ⟨rfl, ⟨_, _, rfl⟩, by simp⟩ (fun i σ H' _ ⟨e, _⟩ => SqL.of (by rw [e]; exact hR5.1)) ?_ ?_⟩
      · rintro i y σ H6 hi ⟨rfl, ⟨v3, v4, rfl⟩, hno⟩
        obtain ⟨q, hq, rfl⟩ : ∃ q, ps[i]? = some q ∧ y = V.ref q.1 := by
          rw [List.getElem?_map] at hi
          cases ee : ps[i]? with
          | none => rw [ee] at hi; cases hi
          | some z => rw [ee] at hi; exact ⟨z, rfl, (Option.some.inj hi).symm⟩
        have hqm := List.mem_of_getElem? hq
        have hqt := (hR5.2 q hqm).1
        have hq2 : (ps.map (·.2))[i]? = some q.2 := by rw [List.getElem?_map, hq]; rfl
        have step : confB q.2 e = false → ∀ r ∈ (ps.map (·.2)).take (i + 1), confB r e = false := fun hf r hr => by
          rw [List.take_add_one, hq2] at hr
          rcases List.mem_append.mp hr with h | h
          · exact hno r h
          · have : r = q.2 := by simpa using h
            rw [this]
            exact hf
        have found : confB q.2 e = true → faultL sg e (ps.map (·.2)) = [Lt "Conflict", e.n, q.2.n] := fun hf => by
          have hfind : (ps.map (·.2)).find? (fun r => confB r e) = some q.2 := by
            rw [List.find?_eq_some_iff_append]
            refine ⟨hf, (ps.map (·.2)).take i, (ps.map (·.2)).drop (i + 1), ?_, fun r hr => ?_⟩
            · have hil : i < (ps.map (·.2)).length := (List.getElem?_eq_some_iff.mp hq2).1
              have hg := (List.getElem?_eq_some_iff.mp hq2).2
              rw [← hg, ← List.drop_eq_getElem_cons hil, List.take_append_drop]
            · rw [hno r hr]
              rfl
          unfold faultL
          rw [if_neg w1, if_neg (by rw [d1]; decide), if_neg (by rw [d2]; decide), if_neg h3, if_neg h5, hfind]
        refine ⟨_, rfl, q.1, _, 3, _, rfl, rfl, SqT.of hqt, rfl, _, rfl, x, _, 3, _, rfl, rfl, SqT.of (s5 _ _ hx), rfl, q.2.p, e.p, rfl, _, rfl, ite2 (fun h6 => ?_) (fun h6 => iteF ⟨rfl, ⟨_, _, rfl⟩, step (by unfold confB; rw [Bool.eq_false_iff.mpr h6, Bool.false_and])⟩)⟩
        have ret : confB q.2 e = true → ∀ p, H6 p = none → Q (.ref p) (upd H6 p (.lst [.str "Conflict", .str (S e.n), .str (S q.2.n)])) := fun hf => fin H6 _ s5 (by
          rw [found hf]
          simp only [List.map_cons, List.map_nil, Lt_S])
        refine ⟨_, rfl, q.1, _, 1, _, rfl, rfl, SqT.of hqt, rfl, _, rfl, x, _, 1, _, rfl, rfl, SqT.of (s5 _ _ hx), rfl, rfl, ?_⟩
        rw [S_eq_iff]
        refine ⟨_, rfl, ite2 (fun h7 => iteT ?_) (fun h7 => ?_)⟩
        · refine ⟨_, rfl, x, _, 0, _, rfl, rfl, SqT.of (s5 _ _ hx), rfl, _, rfl, q.1, _, 0, _, rfl, rfl, SqT.of hqt, rfl, (by show 3 ≤ sizeLine; decide), ret ?_⟩
          unfold confB
          rw [h6, h7]
          rfl
        · refine ⟨_, rfl, q.1, _, 2, _, rfl, rfl, SqT.of hqt, rfl, _, rfl, x, _, 2, _, rfl, rfl, SqT.of (s5 _ _ hx), rfl, rfl, ?_⟩
          rw [S_eq_iff]
          refine ⟨_, rfl, ite2 (fun h8 => ?_) (fun h8 => ⟨rfl, ⟨_, _, rfl⟩, step (by unfold confB; rw [Bool.eq_false_iff.mpr h7, Bool.eq_false_iff.mpr h8, Bool.or_false, Bool.and_false])⟩)⟩
          refine ⟨_, rfl, x, _, 0, _, rfl, rfl, SqT.of (s5 _ _ hx), rfl, _, rfl, q.1, _, 0, _, rfl, rfl, SqT.of hqt, rfl, (by show 3 ≤ sizeLine; decide), ret ?_⟩
          unfold confB
          rw [h6, h8, Bool.or_true]
          rfl
      · rintro σ H6 ⟨rfl, ⟨v3, v4, rfl⟩, hno⟩
        refine ⟨Nat.zero_le _, fin H6 _ s5 ?_⟩
        have hlen : (ps.map fun q => V.ref q.1).length = (ps.map (·.2)).length := by rw [List.length_map, List.length_map]
        rw [hlen, List.take_length] at hno
        have hfind : (ps.map (·.2)).find? (fun r => confB r e) = none := by
          rw [List.find?_eq_none]
          intro r hr
          rw [hno r hr]
          decide
        unfold faultL
        rw [if_neg w1, if_neg (by rw [d1]; decide), if_neg (by rw [d2]; decide), if_neg h3, if_neg h5, hfind]
        rfl
end
end Vk
set_option Elab.async false
set_option linter.all false
set_option maxRecDepth 100000
set_option maxHeartbeats 8000000
namespace Vk
open PySem PySem.Spec PyProof.Rows L2
theorem dp_all {K : PySem.W.Frag} {H : Hp} : ∀ ys : List Str, DpAll K H (ys.map V.str) (ys.map PyData.str)
  | [] => .nil
  | y :: ys => .cons (.str y) (dp_all ys)
theorem dp_strs {K : PySem.W.Frag} {H : Hp} {a : Addr} {ys : List Str} (h : SqL K H a (ys.map V.str)) : Dp K H (.ref a) (.list (ys.map PyData.str)) := .lst h (dp_all ys)
theorem can_strs : ∀ ys : List Str, (∀ y ∈ ys, PyData.strOk y = true) → PyData.canLayAll0 (ys.map PyData.str) = true
  | [], _ => by simp [PyData.canLayAll0]
  | y :: r, h => by
    have h1 := h y List.mem_cons_self
    have h2 := can_strs r fun z hz => h z (List.mem_cons_of_mem _ hz)
    simp [PyData.canLayAll0, PyData.canLay0, h1, h2]
theorem dep_strs : ∀ ys : List Str, PyData.depthAll (ys.map PyData.str) = 0
  | [] => by simp [PyData.depthAll]
  | _ :: r => by simp [PyData.depthAll, PyData.depth, dep_strs r]
theorem shaped_strs {ys : List Str} (h : ∀ y ∈ ys, PyData.strOk y = true) : SeqAt.shaped (.list (ys.map PyData.str)) = true := by
  simp [SeqAt.shaped, PyData.canLay0, PyData.depth, can_strs ys h, dep_strs]
theorem wide_ok {t : List Nat} (h : ∀ c ∈ t, c < 0x110000) : PyData.strOk (S t) = true := by
  show t.toArray.all (fun c => decide (c < 0x110000)) = true
  simp
  exact h
theorem fault_wide {sg : List Nat} {e : Row} {rs : List Row} (he : e.ok) (hr : ∀ r ∈ rs, r.ok) : ∀ t ∈ faultL sg e rs, ∀ c ∈ t, c < 0x110000 := by
  have l1 : ∀ c ∈ Lt "BadName", c < 0x110000 := by decide +kernel
  have l2 : ∀ c ∈ Lt "BadForm", c < 0x110000 := by decide +kernel
  have l3 : ∀ c ∈ Lt "UnknownPlace", c < 0x110000 := by decide +kernel
  have l4 : ∀ c ∈ Lt "DuplicateName", c < 0x110000 := by decide +kernel
  have l5 : ∀ c ∈ Lt "Conflict", c < 0x110000 := by decide +kernel
  obtain ⟨on, ol, os, op⟩ := he
  have two : ∀ {x y : List Nat}, (∀ c ∈ x, c < 0x110000) → (∀ c ∈ y, c < 0x110000) → ∀ t ∈ [x, y], ∀ c ∈ t, c < 0x110000 := fun {x y} h1 h2 t ht => by
    rcases List.mem_cons.mp ht with rfl | ht
    · exact h1
    · rw [List.mem_singleton] at ht
      subst ht
      exact h2
  unfold faultL
  split
  · exact two l1 on.2
  · split
    · exact two l2 ol.2
    · split
      · exact two l2 os.2
      · split
        · exact two l3 op.2
        · split
          · exact two l4 on.2
          · split
            · rename_i r hf
              intro t ht
              have hm := List.mem_of_find?_eq_some hf
              rcases List.mem_cons.mp ht with rfl | ht
              · exact l5
              · exact two on.2 (hr r hm).1.2 t ht
            · intro t ht
              cases ht
def firstF (sg : List Nat) : List Row → List Row → List (List Nat)
  | _, [] => []
  | es, r :: rest => if faultL sg r es = [] then firstF sg (es ++ [r]) rest else faultL sg r es
theorem firstF_cons (sg : List Nat) (es : List Row) (r : Row) (rest : List Row) : firstF sg es (r :: rest) = if faultL sg r es = [] then firstF sg (es ++ [r]) rest else faultL sg r es := by
  conv => lhs; unfold firstF
theorem firstF_nil (sg : List Nat) (es : List Row) : firstF sg es [] = [] := by
  unfold firstF
  rfl
def dueV (sg : List Nat) (rs : List Row) : List V := if 8 < rs.length then [.str "TooMany", .int 8] else if firstF sg [] rs = [] then [.str "book"] else (firstF sg [] rs).map fun t => V.str (S t)
theorem cut_to (xs : List V) (k : Nat) : cutV xs none (some (k : Int)) = xs.take k := by
  unfold cutV
  rw [HT.sIx_none, HT.sIx_nat, List.drop_zero, Nat.sub_zero, ← List.take_take, List.take_length]
theorem cut_from (xs : List V) (k : Nat) : cutV xs (some (k : Int)) none = xs.drop k := by
  unfold cutV
  rw [HT.sIx_none, HT.sIx_nat]
  by_cases h : k ≤ xs.length
  · rw [Nat.min_eq_left h]
    exact List.take_of_length_le (by rw [List.length_drop]; exact Nat.le_refl _)
  · rw [Nat.min_eq_right (by omega), List.drop_length, List.drop_eq_nil_of_le (by omega), List.take_nil]
section
variable {P : Program} {w : World} {K : PySem.W.Frag} {mg : Str → Option Value} {base : Heap} {a : Ad} {d : Fd}
def spOver : Sp := spOverL
theorem scOver : FnScope ["place", "other"] ["place", "other"] (defScope sOver) := ⟨rfl, rfl, rfl, by decide +kernel, rfl, by decide +kernel, by decide +kernel⟩
theorem ok_over (T : Fns K mg a d) : FnOk P w K mg base CX0 1 a.aOver d.dOver ["place", "other"] spOverL := by
  refine T.FOver.ok scOver (fun vs H Q E h => ?_) (fun cdv A outer s H vs Q E hr h => ?_)
  · obtain ⟨p, o, rfl, _⟩ := h
    rfl
  · obtain ⟨p, o, rfl, k⟩ := h
    refine ⟨_, (pss_one (ps_ret (pe_or (pe_cmpR op_eq (pv 0) (pv 1) (nomark _)) (pe_or (pe_cmpR op_eq (pv 0) pe_str (nomark _)) (pe_one (pe_cmpR op_eq (pv 1) pe_str (nomark _))))))), ?_⟩
    unfold ovB at k
    refine ⟨_, rfl, _, rfl, rfl, ?_⟩
    rw [S_eq_iff]
    refine ⟨_, rfl, ite2 (fun h1 => by rw [h1, Bool.true_or] at k; exact k) (fun h1 => ?_)⟩
    rw [Bool.eq_false_iff.mpr h1, Bool.false_or] at k
    refine ⟨_, rfl, rfl, ?_⟩
    rw [any_S, S_eq_iff]
    refine ⟨_, rfl, ite2 (fun h2 => by rw [h2, Bool.true_or] at k; exact k) (fun h2 => ?_)⟩
    rw [Bool.eq_false_iff.mpr h2, Bool.false_or] at k
    refine ⟨_, rfl, rfl, ?_⟩
    rw [S_eq_iff]
    exact k
def spConf : Sp := fun vs H Q _ => ∃ (x y : Addr) (e o : Row), vs = [.ref x, .ref y] ∧ H x = some (.tup e.vs) ∧ H y = some (.tup o.vs) ∧ Q (.bl (confB o e)) H
theorem ov_comm (p o : List Nat) : ovB p o = ovB o p := by
  unfold ovB
  rw [decide_eq_decide.mpr (Eq.comm (a := p) (b := o)), Bool.or_comm (decide (p = anyL))]
theorem scConf : FnScope ["entry", "other"] ["entry", "other"] (defScope sConf) := ⟨rfl, rfl, rfl, by decide +kernel, rfl, by decide +kernel, by decide +kernel⟩
theorem ok_conf (T : Fns K mg a d) : FnOk P w K mg base CX0 2 a.aConf d.dConf ["entry", "other"] spConf := by
  have GOver : FnOk P w K mg base CX0 1 a.aOver d.dOver ["place", "other"] spOverL := ok_over T
  refine T.FConf.ok scConf (fun vs H Q E h => ?_) (fun cdv A outer s H vs Q E hr h => ?_)
  · obtain ⟨x, y, e, o, rfl, _⟩ := h
    rfl
  · obtain ⟨x, y, e, o, rfl, hx, hy, k⟩ := h
    refine ⟨_, (pss_one (ps_ret (pe_and (pe_call GOver (hr.mono (by decide)) (by rfl) T.gOver T.FOver.kp T.bOver .nil pass0 (pa_cons (pe_ix (r := rIxT K) ix_tup (pv 0) pe_int (fun _ _ => rfl)) (pa_cons (pe_ix (r := rIxT K) ix_tup (pv 1) pe_int (fun _ _ => rfl)) pa_nil))) (pe_one (pe_or (pe_cmpR op_eq (pe_ix (r := rIxT K) ix_tup (pv 0) pe_int (fun _ _ => rfl)) (pe_ix (r := rIxT K) ix_tup (pv 1) pe_int (fun _ _ => rfl)) (nomark _)) (pe_one (pe_cmpR op_eq (pe_ix (r := rIxT K) ix_tup (pv 0) pe_int (fun _ _ => rfl)) (pe_ix (r := rIxT K) ix_tup (pv 1) pe_int (fun _ _ => rfl)) (nomark _)))))))), ?_⟩
    unfold confB at k
    rw [ov_comm, decide_eq_decide.mpr (Eq.comm (a := o.l) (b := e.l)), decide_eq_decide.mpr (Eq.comm (a := o.s) (b := e.s))] at k
    refine ⟨_, rfl, x, _, 3, _, rfl, rfl, SqT.of hx, rfl, _, rfl, y, _, 3, _, rfl, rfl, SqT.of hy, rfl, e.p, o.p, rfl, _, rfl, ite2 (fun h1 => ?_) (fun h1 => by rw [Bool.eq_false_iff.mpr h1, Bool.false_and] at k; exact k)⟩
    rw [h1, Bool.true_and] at k
    refine ⟨_, rfl, x, _, 1, _, rfl, rfl, SqT.of hx, rfl, _, rfl, y, _, 1, _, rfl, rfl, SqT.of hy, rfl, rfl, ?_⟩
    rw [S_eq_iff]
    refine ⟨_, rfl, ite2 (fun h2 => by rw [h2, Bool.true_or] at k; exact k) (fun h2 => ?_)⟩
    rw [Bool.eq_false_iff.mpr h2, Bool.false_or] at k
    refine ⟨_, rfl, x, _, 2, _, rfl, rfl, SqT.of hx, rfl, _, rfl, y, _, 2, _, rfl, rfl, SqT.of hy, rfl, rfl, ?_⟩
    rw [S_eq_iff]
    exact k
end
end Vk
set_option Elab.async false
set_option linter.all false
set_option maxRecDepth 100000
set_option maxHeartbeats 8000000
namespace Vk
open PySem PySem.Spec PyProof.Rows L2
def wrongL : List (List Nat) := [Lt "", Lt "Any", Lt "any ", Lt " inner", Lt "start", Lt "letter", Lt "joint", Lt "openin", Lt "inners", Lt "OPENING", Lt "all", Lt "anyinner"]
def wrongV : List V := [.str "", .str "Any", .str "any ", .str " inner", .str "start", .str "letter", .str "joint", .str "openin", .str "inners", .str "OPENING", .str "all", .str "anyinner"]
theorem wrong_eq : wrongV = wrongL.map fun t => V.str (S t) := by
  show wrongV = [V.str (S (Lt "")), .str (S (Lt "Any")), .str (S (Lt "any ")), .str (S (Lt " inner")), .str (S (Lt "start")), .str (S (Lt "letter")), .str (S (Lt "joint")), .str (S (Lt "openin")), .str (S (Lt "inners")), .str (S (Lt "OPENING")), .str (S (Lt "all")), .str (S (Lt "anyinner"))]
  simp only [Lt_S]
  rfl
theorem wrong_tx : ∀ t ∈ wrongL, Tx t := by unfold Tx; decide +kernel
def Row.put (r : Row) (j : Nat) (t : List Nat) : Row := match j with
  | 0 => {r with n := t}
  | 1 => {r with l := t}
  | 2 => {r with s := t}
  | _ => {r with p := t}
theorem put_vs (r : Row) {j : Nat} (t : List Nat) (h : j ≤ 3) : r.vs.set j (.str (S t)) = (r.put j t).vs := by
  match j, h with
  | 0, _ => rfl
  | 1, _ => rfl
  | 2, _ => rfl
  | 3, _ => rfl
theorem put_ok {r : Row} {j : Nat} {t : List Nat} (hr : r.ok) (ht : Tx t) : (r.put j t).ok := by
  obtain ⟨h1, h2, h3, h4⟩ := hr
  unfold Row.put
  split
  · exact ⟨ht, h2, h3, h4⟩
  · exact ⟨h1, ht, h3, h4⟩
  · exact ⟨h1, h2, ht, h4⟩
  · exact ⟨h1, h2, h3, ht⟩
theorem vs_at {r : Row} (hr : r.ok) {j : Nat} (h : j ≤ 3) : ∃ t, r.vs[j]? = some (.str (S t)) ∧ Tx t := by
  obtain ⟨h1, h2, h3, h4⟩ := hr
  match j, h with
  | 0, _ => exact ⟨_, rfl, h1⟩
  | 1, _ => exact ⟨_, rfl, h2⟩
  | 2, _ => exact ⟨_, rfl, h3⟩
  | 3, _ => exact ⟨_, rfl, h4⟩
theorem rowsApp {H : Hp} {u : Addr} {xs : List (Addr × Row)} (h : H u = some (.lst (xs.map fun q => V.ref q.1))) (h2 : ∀ q ∈ xs, H q.1 = some (.tup q.2.vs) ∧ q.2.ok) : RowsAt H u xs := ⟨h, h2⟩
/-- what holds between the ifs of `_law_spoilt` -/
structure SpI (H0 : Hp) (b g u : Addr) (ps : List (Addr × Row)) (wr o : Addr) (ro : Row) (rw : Addr) (H : Hp) (r : Row) : Prop where
  hB : BoxB H b g
  k : Kp2 b g H0 H
  hR : RowsAt H u ps
  ho : H o = some (.tup ro.vs)
  hro : ro.ok
  hrw : H rw = some (.lst r.vs)
  hr : r.ok
  hwr : H wr = some (.lst wrongV)
  n1 : H0 rw = none
  n2 : wr ≠ rw
  nb : rw ≠ b ∧ rw ≠ g ∧ u ≠ rw
  wb : wr ≠ b ∧ wr ≠ g
  ub : u ≠ b ∧ u ≠ g
theorem SpI.asg {H0 : Hp} {b g u : Addr} {ps : List (Addr × Row)} {wr o : Addr} {ro : Row} {rw : Addr} {H : Hp} {r : Row} (h : SpI H0 b g u ps wr o ro rw H r) {j : Nat} {t : List Nat} (hj : j ≤ 3) (ht : Tx t) :
    SpI H0 b g u ps wr o ro rw (upd H rw (.lst (r.vs.set j (.str (S t))))) (r.put j t) := by
  have nt : ∀ {x : Addr} {xs : List V}, H x = some (.tup xs) → x ≠ rw := fun {x xs} hx z => by
    rw [z, h.hrw] at hx
    cases hx
  refine ⟨?_, ?_, ⟨?_, fun q hq => ?_⟩, ?_, h.hro, ?_, put_ok h.hr ht, ?_, h.n1, h.n2, h.nb, h.wb, h.ub⟩
  · obtain ⟨x, mm, sd, gs, h1, h2, h3⟩ := h.hB
    exact ⟨x, mm, sd, gs, by rw [upd_ne h.nb.1.symm]; exact h1, by rw [upd_ne h.nb.2.1.symm]; exact h2, h3⟩
  · intro c o2 h1 h2 h3
    have hne : c ≠ rw := ne_of_none h3 h.n1
    rw [upd_ne hne]
    exact h.k c o2 h1 h2 h3
  · rw [upd_ne h.nb.2.2]
    exact h.hR.1
  · obtain ⟨h1, h2⟩ := h.hR.2 q hq
    exact ⟨by rw [upd_ne (nt h1)]; exact h1, h2⟩
  · rw [upd_ne (nt h.ho)]
    exact h.ho
  · rw [upd_same, put_vs r t hj]
  · rw [upd_ne h.n2]
    exact h.hwr
theorem SpI.draw {H0 : Hp} {b g u : Addr} {ps : List (Addr × Row)} {wr o : Addr} {ro : Row} {rw : Addr} {H H' : Hp} {r : Row} (h : SpI H0 b g u ps wr o ro rw H r) (hB : BoxB H' b g) (k : Kp2 b g H H') : SpI H0 b g u ps wr o ro rw H' r := by
  obtain ⟨t1, t2⟩ := tup_box h.hB h.ho
  exact ⟨hB, h.k.trans k, h.hR.kp h.hB h.ub k, k _ _ t1 t2 h.ho, h.hro, k _ _ h.nb.1 h.nb.2.1 h.hrw, h.hr, k _ _ h.wb.1 h.wb.2 h.hwr, h.n1, h.n2, h.nb, h.wb, h.ub⟩
theorem ixN_w {k n : Nat} (h : k < n) : ixN n (k : Int) = some k := by
  unfold ixN
  simp
  omega
def stSp (b : Addr) (sg : List Nat) (u wr : Addr) (at' : Nat) (o rw : Addr) (way : Nat) : L2.St := [some (.ref b), some (.str (S sg)), some (.ref u), some (.ref wr), some (.int (at' : Int)), some (.ref o), some (.ref rw), some (.int (way : Int))]
def tSp : TS := fun D σ H => ∃ (H0 : Hp) (b g : Addr) (sg : List Nat) (u : Addr) (ps : List (Addr × Row)) (wr : Addr) (at' : Nat) (o : Addr) (ro : Row) (rw : Addr) (way : Nat) (r : Row), σ = stSp b sg u wr at' o rw way ∧ 1 ≤ sg.length ∧ sg.length ≤ 100 ∧ WideOk sg ∧ 32 ∉ sg ∧ SpI H0 b g u ps wr o ro rw H r ∧
  ∀ r' H', SpI H0 b g u ps wr o ro rw H' r' → D.nx σ H'
theorem az32 : 32 ∉ azL := by decide +kernel
theorem azw : WideOk azL := az_ok
section
variable {P : Program} {w : World} {K : PySem.W.Frag} {mg : Str → Option Value} {base : Heap} {a : Ad} {d : Fd}
end
end Vk
set_option Elab.async false
set_option linter.all false
set_option maxRecDepth 100000
set_option maxHeartbeats 8000000
namespace Vk
open PySem PySem.Spec PyProof.Rows L2
theorem repr_tx {t : List Nat} (h : Tx t) : (reprText (S t)).length ≤ 30002 := by
  have h1 := PySem.StrLaws.reprText_len (S t) (fun c hc => by
    rw [S_cps] at hc
    have := h.2 c hc
    omega)
  rw [S_len] at h1
  have := h.1
  omega
theorem al2 (a b : Str) : (a ++ b).length = a.length + b.length := by
  show (a.cps ++ b.cps).size = _
  rw [Array.size_append]
  rfl
theorem sl4 {n : Nat} (h : n ≤ 400000) : n ≤ sizeLine := by rw [sizeLine_eq]; omega
theorem e0l : Str.empty.length = 0 := by decide +kernel
section
variable {P : Program} {w : World} {K : PySem.W.Frag} {mg : Str → Option Value} {base : Heap}
abbrev sBadName : Stmt := inClass (top 5) 0
def spEBadName (C : Addr) : Sp := fun vs H Q _ => ∃ (a : Addr) (t : List Nat), vs = [.ref a, .str (S t)] ∧ Tx t ∧ H a = some (exo a C none) ∧
  ∀ dx, H dx = none → dx ≠ a → Q .non (upd (upd H dx (exd dx [("name", .str (S t))])) a (exo a C (some dx)))
theorem scBadName : SScope ["self", "name"] (defScope sBadName) := ⟨rfl, rfl, rfl, by decide +kernel, by decide +kernel, by decide +kernel, fun x h => (show ∀ y ∈ (defScope sBadName).names, y.2 = .free → y.1 = "__class__" by decide +kernel) _ (PySem.mem_of_lookup h) rfl, by decide +kernel, by decide +kernel⟩
theorem ok_eBadName {f C cc cda : Addr} {dV kV doc pm ct oc : Value} {an od : Option Addr} {osl : Array (Option Value)} (T : SupC P K mg C cc cda) (hp : PySem.W.findIn K (.ref C) "name" = some none)
    (lk : K.lookup f = some ⟨oc, od, .func (PySem.W.ksFn "__init__" "BadName.__init__" (defArgs sBadName) (defBody sBadName) (defScope sBadName) dV kV doc pm an (.ref cda) ct cc), osl⟩) (hcd : PySem.W.codeIn K (.ref cda) "BadName.__init__" = true) :
    FnOk P w K mg base CX0 1 f (PySem.W.ksFn "__init__" "BadName.__init__" (defArgs sBadName) (defBody sBadName) (defScope sBadName) dV kV doc pm an (.ref cda) ct cc) ["self", "name"] (spEBadName C) := by
  refine fn_super (self := "self") (N' := ["name"]) T lk hcd scBadName rfl rfl rfl rfl (fun _ => rfl) (fun _ => rfl) (fun vs H Q E h => ?_) (fun A outer s H vs Q E hr h => ?_)
  · obtain ⟨a, z, rfl, _⟩ := h
    rfl
  · obtain ⟨a, z, rfl, hz, ha, k⟩ := h
    refine ⟨_, _, pe_joined (.cons pe_str (.cons (pe_fmtR (pv 1)) .nil)), pss_one (ps_ost (pv 0) (pv 1)), ⟨a, rfl, ha⟩, ?_⟩
    have e1 : (PySem.Str.ofString "not a name: ").length ≤ 100 := by decide +kernel
    have hz2 := repr_tx hz
    refine ⟨_, rfl, sl4 ?_, _, rfl, .inl ⟨S z, rfl, sl4 (by omega), _, rfl, sl4 ?_, ⟨a, rfl, ha⟩, ?_⟩⟩
    · rw [al2, e0l]
      omega
    · rw [al2, al2, e0l]
      omega
    · exact ⟨_, rfl, _, rfl, a, C, rfl, T.oex, hp, .inl ⟨ha, fun dx hd hn => k dx hd hn⟩⟩
abbrev sBadForm : Stmt := inClass (top 6) 0
def spEBadForm (C : Addr) : Sp := fun vs H Q _ => ∃ (a : Addr) (t : List Nat), vs = [.ref a, .str (S t)] ∧ Tx t ∧ H a = some (exo a C none) ∧
  ∀ dx, H dx = none → dx ≠ a → Q .non (upd (upd H dx (exd dx [("form", .str (S t))])) a (exo a C (some dx)))
theorem scBadForm : SScope ["self", "form"] (defScope sBadForm) := ⟨rfl, rfl, rfl, by decide +kernel, by decide +kernel, by decide +kernel, fun x h => (show ∀ y ∈ (defScope sBadForm).names, y.2 = .free → y.1 = "__class__" by decide +kernel) _ (PySem.mem_of_lookup h) rfl, by decide +kernel, by decide +kernel⟩
theorem ok_eBadForm {f C cc cda : Addr} {dV kV doc pm ct oc : Value} {an od : Option Addr} {osl : Array (Option Value)} (T : SupC P K mg C cc cda) (hp : PySem.W.findIn K (.ref C) "form" = some none)
    (lk : K.lookup f = some ⟨oc, od, .func (PySem.W.ksFn "__init__" "BadForm.__init__" (defArgs sBadForm) (defBody sBadForm) (defScope sBadForm) dV kV doc pm an (.ref cda) ct cc), osl⟩) (hcd : PySem.W.codeIn K (.ref cda) "BadForm.__init__" = true) :
    FnOk P w K mg base CX0 1 f (PySem.W.ksFn "__init__" "BadForm.__init__" (defArgs sBadForm) (defBody sBadForm) (defScope sBadForm) dV kV doc pm an (.ref cda) ct cc) ["self", "form"] (spEBadForm C) := by
  refine fn_super (self := "self") (N' := ["form"]) T lk hcd scBadForm rfl rfl rfl rfl (fun _ => rfl) (fun _ => rfl) (fun vs H Q E h => ?_) (fun A outer s H vs Q E hr h => ?_)
  · obtain ⟨a, z, rfl, _⟩ := h
    rfl
  · obtain ⟨a, z, rfl, hz, ha, k⟩ := h
    refine ⟨_, _, pe_joined (.cons pe_str (.cons (pe_fmtR (pv 1)) .nil)), pss_one (ps_ost (pv 0) (pv 1)), ⟨a, rfl, ha⟩, ?_⟩
    have e1 : (PySem.Str.ofString "not a form: ").length ≤ 100 := by decide +kernel
    have hz2 := repr_tx hz
    refine ⟨_, rfl, sl4 ?_, _, rfl, .inl ⟨S z, rfl, sl4 (by omega), _, rfl, sl4 ?_, ⟨a, rfl, ha⟩, ?_⟩⟩
    · rw [al2, e0l]
      omega
    · rw [al2, al2, e0l]
      omega
    · exact ⟨_, rfl, _, rfl, a, C, rfl, T.oex, hp, .inl ⟨ha, fun dx hd hn => k dx hd hn⟩⟩
abbrev sUnknownPlace : Stmt := inClass (top 7) 0
def spEUnknownPlace (C : Addr) : Sp := fun vs H Q _ => ∃ (a : Addr) (t : List Nat), vs = [.ref a, .str (S t)] ∧ Tx t ∧ H a = some (exo a C none) ∧
  ∀ dx, H dx = none → dx ≠ a → Q .non (upd (upd H dx (exd dx [("place", .str (S t))])) a (exo a C (some dx)))
theorem scUnknownPlace : SScope ["self", "place"] (defScope sUnknownPlace) := ⟨rfl, rfl, rfl, by decide +kernel, by decide +kernel, by decide +kernel, fun x h => (show ∀ y ∈ (defScope sUnknownPlace).names, y.2 = .free → y.1 = "__class__" by decide +kernel) _ (PySem.mem_of_lookup h) rfl, by decide +kernel, by decide +kernel⟩
theorem ok_eUnknownPlace {f C cc cda : Addr} {dV kV doc pm ct oc : Value} {an od : Option Addr} {osl : Array (Option Value)} (T : SupC P K mg C cc cda) (hp : PySem.W.findIn K (.ref C) "place" = some none)
    (lk : K.lookup f = some ⟨oc, od, .func (PySem.W.ksFn "__init__" "UnknownPlace.__init__" (defArgs sUnknownPlace) (defBody sUnknownPlace) (defScope sUnknownPlace) dV kV doc pm an (.ref cda) ct cc), osl⟩) (hcd : PySem.W.codeIn K (.ref cda) "UnknownPlace.__init__" = true) :
    FnOk P w K mg base CX0 1 f (PySem.W.ksFn "__init__" "UnknownPlace.__init__" (defArgs sUnknownPlace) (defBody sUnknownPlace) (defScope sUnknownPlace) dV kV doc pm an (.ref cda) ct cc) ["self", "place"] (spEUnknownPlace C) := by
  refine fn_super (self := "self") (N' := ["place"]) T lk hcd scUnknownPlace rfl rfl rfl rfl (fun _ => rfl) (fun _ => rfl) (fun vs H Q E h => ?_) (fun A outer s H vs Q E hr h => ?_)
  · obtain ⟨a, z, rfl, _⟩ := h
    rfl
  · obtain ⟨a, z, rfl, hz, ha, k⟩ := h
    refine ⟨_, _, pe_joined (.cons pe_str (.cons (pe_fmtR (pv 1)) .nil)), pss_one (ps_ost (pv 0) (pv 1)), ⟨a, rfl, ha⟩, ?_⟩
    have e1 : (PySem.Str.ofString "not a place for an entry: ").length ≤ 100 := by decide +kernel
    have hz2 := repr_tx hz
    refine ⟨_, rfl, sl4 ?_, _, rfl, .inl ⟨S z, rfl, sl4 (by omega), _, rfl, sl4 ?_, ⟨a, rfl, ha⟩, ?_⟩⟩
    · rw [al2, e0l]
      omega
    · rw [al2, al2, e0l]
      omega
    · exact ⟨_, rfl, _, rfl, a, C, rfl, T.oex, hp, .inl ⟨ha, fun dx hd hn => k dx hd hn⟩⟩
abbrev sDuplicateName : Stmt := inClass (top 8) 0
def spEDuplicateName (C : Addr) : Sp := fun vs H Q _ => ∃ (a : Addr) (t : List Nat), vs = [.ref a, .str (S t)] ∧ Tx t ∧ H a = some (exo a C none) ∧
  ∀ dx, H dx = none → dx ≠ a → Q .non (upd (upd H dx (exd dx [("name", .str (S t))])) a (exo a C (some dx)))
theorem scDuplicateName : SScope ["self", "name"] (defScope sDuplicateName) := ⟨rfl, rfl, rfl, by decide +kernel, by decide +kernel, by decide +kernel, fun x h => (show ∀ y ∈ (defScope sDuplicateName).names, y.2 = .free → y.1 = "__class__" by decide +kernel) _ (PySem.mem_of_lookup h) rfl, by decide +kernel, by decide +kernel⟩
theorem ok_eDuplicateName {f C cc cda : Addr} {dV kV doc pm ct oc : Value} {an od : Option Addr} {osl : Array (Option Value)} (T : SupC P K mg C cc cda) (hp : PySem.W.findIn K (.ref C) "name" = some none)
    (lk : K.lookup f = some ⟨oc, od, .func (PySem.W.ksFn "__init__" "DuplicateName.__init__" (defArgs sDuplicateName) (defBody sDuplicateName) (defScope sDuplicateName) dV kV doc pm an (.ref cda) ct cc), osl⟩) (hcd : PySem.W.codeIn K (.ref cda) "DuplicateName.__init__" = true) :
    FnOk P w K mg base CX0 1 f (PySem.W.ksFn "__init__" "DuplicateName.__init__" (defArgs sDuplicateName) (defBody sDuplicateName) (defScope sDuplicateName) dV kV doc pm an (.ref cda) ct cc) ["self", "name"] (spEDuplicateName C) := by
  refine fn_super (self := "self") (N' := ["name"]) T lk hcd scDuplicateName rfl rfl rfl rfl (fun _ => rfl) (fun _ => rfl) (fun vs H Q E h => ?_) (fun A outer s H vs Q E hr h => ?_)
  · obtain ⟨a, z, rfl, _⟩ := h
    rfl
  · obtain ⟨a, z, rfl, hz, ha, k⟩ := h
    refine ⟨_, _, pe_joined (.cons pe_str (.cons (pe_fmtR (pv 1)) .nil)), pss_one (ps_ost (pv 0) (pv 1)), ⟨a, rfl, ha⟩, ?_⟩
    have e1 : (PySem.Str.ofString "this name occurs twice: ").length ≤ 100 := by decide +kernel
    have hz2 := repr_tx hz
    refine ⟨_, rfl, sl4 ?_, _, rfl, .inl ⟨S z, rfl, sl4 (by omega), _, rfl, sl4 ?_, ⟨a, rfl, ha⟩, ?_⟩⟩
    · rw [al2, e0l]
      omega
    · rw [al2, al2, e0l]
      omega
    · exact ⟨_, rfl, _, rfl, a, C, rfl, T.oex, hp, .inl ⟨ha, fun dx hd hn => k dx hd hn⟩⟩
abbrev sTooMany : Stmt := inClass (top 4) 0
def spETooMany (C : Addr) : Sp := fun vs H Q _ => ∃ (a : Addr), vs = [.ref a, .int 8] ∧ H a = some (exo a C none) ∧
  ∀ dx, H dx = none → dx ≠ a → Q .non (upd (upd H dx (exd dx [("most", .int 8)])) a (exo a C (some dx)))
theorem scTooMany : SScope ["self", "most"] (defScope sTooMany) := ⟨rfl, rfl, rfl, by decide +kernel, by decide +kernel, by decide +kernel, fun x h => (show ∀ y ∈ (defScope sTooMany).names, y.2 = .free → y.1 = "__class__" by decide +kernel) _ (PySem.mem_of_lookup h) rfl, by decide +kernel, by decide +kernel⟩
theorem ok_eTooMany {f C cc cda : Addr} {dV kV doc pm ct oc : Value} {an od : Option Addr} {osl : Array (Option Value)} (T : SupC P K mg C cc cda) (hp : PySem.W.findIn K (.ref C) "most" = some none)
    (lk : K.lookup f = some ⟨oc, od, .func (PySem.W.ksFn "__init__" "TooMany.__init__" (defArgs sTooMany) (defBody sTooMany) (defScope sTooMany) dV kV doc pm an (.ref cda) ct cc), osl⟩) (hcd : PySem.W.codeIn K (.ref cda) "TooMany.__init__" = true) :
    FnOk P w K mg base CX0 1 f (PySem.W.ksFn "__init__" "TooMany.__init__" (defArgs sTooMany) (defBody sTooMany) (defScope sTooMany) dV kV doc pm an (.ref cda) ct cc) ["self", "most"] (spETooMany C) := by
  refine fn_super (self := "self") (N' := ["most"]) T lk hcd scTooMany rfl rfl rfl rfl (fun _ => rfl) (fun _ => rfl) (fun vs H Q E h => ?_) (fun A outer s H vs Q E hr h => ?_)
  · obtain ⟨a, rfl, _⟩ := h
    rfl
  · obtain ⟨a, rfl, ha, k⟩ := h
    refine ⟨_, _, pe_joined (.cons pe_str (.cons (pe_fmt (pv 1)) .nil)), pss_one (ps_ost (pv 0) (pv 1)), ⟨a, rfl, ha⟩, ?_⟩
    refine ⟨_, rfl, sl4 ?_, _, rfl, .inr ⟨8, rfl, by decide +kernel, _, rfl, sl4 ?_, ⟨a, rfl, ha⟩, ?_⟩⟩
    · decide +kernel
    · decide +kernel
    · exact ⟨_, rfl, _, rfl, a, C, rfl, T.oex, hp, .inl ⟨ha, fun dx hd hn => k dx hd hn⟩⟩
abbrev sConflict : Stmt := inClass (top 9) 0
def spEConflict (C : Addr) : Sp := fun vs H Q _ => ∃ (a : Addr) (t u : List Nat), vs = [.ref a, .str (S t), .str (S u)] ∧ Tx t ∧ Tx u ∧ H a = some (exo a C none) ∧
  ∀ dx, H dx = none → dx ≠ a → Q .non (upd (upd (upd H dx (exd dx [("name", .str (S t))])) a (exo a C (some dx))) dx (exd dx [("other", .str (S u)), ("name", .str (S t))]))
theorem scConflict : SScope ["self", "name", "other"] (defScope sConflict) := ⟨rfl, rfl, rfl, by decide +kernel, by decide +kernel, by decide +kernel, fun x h => (show ∀ y ∈ (defScope sConflict).names, y.2 = .free → y.1 = "__class__" by decide +kernel) _ (PySem.mem_of_lookup h) rfl, by decide +kernel, by decide +kernel⟩
theorem ok_eConflict {f C cc cda : Addr} {dV kV doc pm ct oc : Value} {an od : Option Addr} {osl : Array (Option Value)} (T : SupC P K mg C cc cda) (hp : PySem.W.findIn K (.ref C) "name" = some none) (ho : PySem.W.findIn K (.ref C) "other" = some none)
    (lk : K.lookup f = some ⟨oc, od, .func (PySem.W.ksFn "__init__" "Conflict.__init__" (defArgs sConflict) (defBody sConflict) (defScope sConflict) dV kV doc pm an (.ref cda) ct cc), osl⟩) (hcd : PySem.W.codeIn K (.ref cda) "Conflict.__init__" = true) :
    FnOk P w K mg base CX0 1 f (PySem.W.ksFn "__init__" "Conflict.__init__" (defArgs sConflict) (defBody sConflict) (defScope sConflict) dV kV doc pm an (.ref cda) ct cc) ["self", "name", "other"] (spEConflict C) := by
  refine fn_super (self := "self") (N' := ["name", "other"]) T lk hcd scConflict rfl rfl rfl rfl (fun _ => rfl) (fun _ => rfl) (fun vs H Q E h => ?_) (fun A outer s H vs Q E hr h => ?_)
  · obtain ⟨a, t, u, rfl, _⟩ := h
    rfl
  · obtain ⟨a, t, u, rfl, ht, hu, ha, k⟩ := h
    refine ⟨_, _, pe_joined (.cons pe_str (.cons (pe_fmtR (pv 1)) (.cons pe_str (.cons (pe_fmtR (pv 2)) .nil)))), pss_cons (ps_ost (pv 0) (pv 1)) (pss_one (ps_ost (pv 0) (pv 2))), ⟨a, rfl, ha⟩, ?_⟩
    have e1 : (PySem.Str.ofString "the entry ").length ≤ 100 := by decide +kernel
    have e2 : (PySem.Str.ofString " conflicts with ").length ≤ 100 := by decide +kernel
    have ht2 := repr_tx ht
    have hu2 := repr_tx hu
    refine ⟨_, rfl, sl4 ?_, _, rfl, .inl ⟨S t, rfl, sl4 (by omega), _, rfl, sl4 ?_, _, rfl, sl4 ?_, _, rfl, .inl ⟨S u, rfl, sl4 (by omega), _, rfl, sl4 ?_, ⟨a, rfl, ha⟩, ?_⟩⟩⟩
    · rw [al2, e0l]
      omega
    · rw [al2, al2, e0l]
      omega
    · rw [al2, al2, al2, e0l]
      omega
    · rw [al2, al2, al2, al2, e0l]
      omega
    · refine ⟨_, rfl, _, rfl, a, C, rfl, T.oex, hp, .inl ⟨ha, fun dx hd hn => ⟨_, rfl, _, rfl, a, C, rfl, T.oex, ho, .inr ⟨dx, _, upd_same, ?_, by show 1 ≤ 900; decide, k dx hd hn⟩⟩⟩⟩
      rw [upd_ne hn, upd_same]
end
end Vk
set_option Elab.async false
set_option linter.all false
set_option maxRecDepth 100000
set_option maxHeartbeats 8000000
namespace Vk
open PySem PySem.Spec PyProof.Rows L2
theorem az_iff {c : Nat} : c ∈ azL ↔ 97 ≤ c ∧ c ≤ 122 := by
  have e : azL = List.range' 97 26 := by decide +kernel
  rw [e, List.mem_range']
  constructor
  · rintro ⟨i, h, rfl⟩
    omega
  · rintro ⟨h1, h2⟩
    exact ⟨c - 97, by omega, by omega⟩
theorem lt1 {a b : Nat} : ([a] : List Nat) < [b] ↔ a < b := by
  constructor
  · intro h
    cases h with
    | rel h => exact h
    | cons h => cases h
  · intro h
    exact .rel h
/-- a field, K named: inside a comprehension -/
theorem pe_fldK {X : Cx} {K : PySem.W.Frag} {e : Expr} {f : Str} {pos : Pos} {ta : TE} (hK : X.K = K) (he : PE X e ta) (hb : attributeBase e f X.env (eval e X.env) = eval e X.env) : PE X (.Attribute e f pos) (tFld K ta f) := hK ▸ pe_fld he hb
abbrev sIsText : Stmt := inClass (top 26) 7
theorem scIsText : FnScope ["self", "text", "sign"] ["self", "text"] (defScope sIsText) := ⟨rfl, rfl, rfl, by decide +kernel, rfl, by decide +kernel, by decide +kernel⟩
def spIsText (C : Addr) : Sp := fun vs H Q _ => ∃ (al : Addr) (l v t : List Nat), vs = [.ref al, .str (S t)] ∧ IsAl C H al l v ∧ Tx t ∧ ∀ H', Same H H' → Q (.bl (decide (∀ c ∈ t, c ∈ 45 :: srtL l))) H'
/-- an error class and its own __init__ -/
structure EF (K : PySem.W.Frag) (mg : Str → Option Value) (N : Str) (B fB : Addr) (fd : FuncData) (ps : List Str) : Prop where
  ox : OexC K B
  iC : PySem.W.findIn K (.ref B) "__init__" = some (some (.ref fB))
  tI : PySem.W.typeIn K (.ref fB) = some (.type "function")
  gB : mg N = some (.ref B)
  bB : Binds K fd ps []
structure Er where
  tm : Addr
  tmF : Addr
  tmD : FuncData
  bn : Addr
  bnF : Addr
  bnD : FuncData
  bf : Addr
  bfF : Addr
  bfD : FuncData
  up : Addr
  upF : Addr
  upD : FuncData
  dn : Addr
  dnF : Addr
  dnD : FuncData
  cf : Addr
  cfF : Addr
  cfD : FuncData
  kinds : Addr
  es : Array DictEntry
  nn : Nat
  t6 : Tok
  t8 : Tok
structure Bk (K : PySem.W.Frag) (mg : Str → Option Value) (w : World) (c : Er) : Prop where
  TM : EF K mg "TooMany" c.tm c.tmF c.tmD ["self", "most"]
  BN : EF K mg "BadName" c.bn c.bnF c.bnD ["self", "name"]
  BF : EF K mg "BadForm" c.bf c.bfF c.bfD ["self", "form"]
  UP : EF K mg "UnknownPlace" c.up c.upF c.upD ["self", "place"]
  DN : EF K mg "DuplicateName" c.dn c.dnF c.dnD ["self", "name"]
  CF : EF K mg "Conflict" c.cf c.cfF c.cfD ["self", "name", "other"]
  gLF : mg "LONGEST_FORM" = some (.int 6 c.t6)
  gLN : mg "LONGEST_NAME" = some (.int 8 c.t8)
  gK : mg "KINDS" = some (.ref c.kinds)
  kd : KDict K w c.kinds c.es c.nn
  kI : ∀ t : List Nat, ∃ r, PySem.W.nsIn K c.kinds (S t) = some r ∧ r.isSome = decide (t ∈ kindsL)
/-- the error that a fault is told by -/
def Raised (c : Er) (fl : List (List Nat)) (B : Addr) (fs : List (Str × V)) : Prop :=
  (∃ t, fl = [Lt "BadName", t] ∧ B = c.bn ∧ fs = ([("name", V.str (S t))] : List (Str × V))) ∨ (∃ t, fl = [Lt "BadForm", t] ∧ B = c.bf ∧ fs = ([("form", V.str (S t))] : List (Str × V))) ∨
  (∃ t, fl = [Lt "UnknownPlace", t] ∧ B = c.up ∧ fs = ([("place", V.str (S t))] : List (Str × V))) ∨ (∃ t, fl = [Lt "DuplicateName", t] ∧ B = c.dn ∧ fs = ([("name", V.str (S t))] : List (Str × V))) ∨
  (∃ t u, fl = [Lt "Conflict", t, u] ∧ B = c.cf ∧ fs = ([("other", V.str (S u)), ("name", V.str (S t))] : List (Str × V)))
theorem Same.none {H H' : Hp} {d : Addr} (s : Same H H') (h : H' d = none) : H d = none := by
  cases e : H d with
  | none => rfl
  | some u =>
    have := s _ _ e
    rw [h] at this
    cases this
def PostE (B b : Addr) (E : XK) (H1 : Hp) : VK := fun v H2 => v = .non ∧ ∃ (d : Addr) (fs : List (Str × V)), H2 b = some (exo b B (some d)) ∧ H2 d = some (exd d fs) ∧ H1 d = none ∧ E (.ref B) (some d) (upd (del H2 b) d (.xd fs))
theorem raise1 {B b : Addr} {H0 H1 : Hp} {E : XK} {f : Str} {y : V} (hb : H1 b = none) (s : Same H0 H1) (k : ∀ d H', H0 d = none → H' d = some (.xd [(f, y)]) → Same H0 H' → E (.ref B) (some d) H') :
    ∀ dx, (upd H1 b (exo b B none)) dx = none → dx ≠ b → PostE B b E H1 .non (upd (upd (upd H1 b (exo b B none)) dx (exd dx [(f, y)])) b (exo b B (some dx))) := by
  intro d hd hn
  refine ⟨rfl, d, [(f, y)], upd_same, ?_, ?_, ?_⟩
  · rw [upd_ne hn, upd_same]
  · rw [upd_ne hn] at hd
    exact hd
  · have h1 : H1 d = none := by
      rw [upd_ne hn] at hd
      exact hd
    exact k d _ (Same.none s h1) upd_same (Same.trans s (kp_exc hb hd hn))
theorem raise2 {B b : Addr} {H0 H1 : Hp} {E : XK} {f g : Str} {y z : V} (hb : H1 b = none) (s : Same H0 H1) (k : ∀ d H', H0 d = none → H' d = some (.xd [(g, z), (f, y)]) → Same H0 H' → E (.ref B) (some d) H') :
    ∀ dx, (upd H1 b (exo b B none)) dx = none → dx ≠ b → PostE B b E H1 .non (upd (upd (upd (upd H1 b (exo b B none)) dx (exd dx [(f, y)])) b (exo b B (some dx))) dx (exd dx [(g, z), (f, y)])) := by
  intro d hd hn
  have h1 : H1 d = none := by
    rw [upd_ne hn] at hd
    exact hd
  refine ⟨rfl, d, [(g, z), (f, y)], ?_, upd_same, h1, ?_⟩
  · rw [upd_ne hn.symm, upd_same]
  · refine k d _ (Same.none s h1) upd_same (Same.trans s fun c u e => ?_)
    have n1 : c ≠ b := ne_of_none e hb
    have n2 : c ≠ d := ne_of_none e h1
    rw [upd_ne n2, del_ne n1, upd_ne n2, upd_ne n1, upd_ne n2, upd_ne n1]
    exact e
/-- entries held by a tuple at y -/
def TupRows (H : Hp) (y : Addr) (ps : List (Addr × Row)) : Prop := H y = some (.tup (ps.map fun q => V.ref q.1)) ∧ ∀ q ∈ ps, H q.1 = some (.tup q.2.vs) ∧ q.2.ok
theorem TupRows.same {H H' : Hp} {u : Addr} {ps : List (Addr × Row)} (h : TupRows H u ps) (s : Same H H') : TupRows H' u ps := ⟨s _ _ h.1, fun q hq => ⟨s _ _ (h.2 q hq).1, (h.2 q hq).2⟩⟩
section
variable {P : Program} {w : World} {K : PySem.W.Frag} {mg : Str → Option Value} {base : Heap} {a : Ad} {d : Fd} {c : Er} {C fT : Addr} {fdT : FuncData}
theorem ok_isText (F : Fun K "is_text" "Alphabet.is_text" sIsText fT fdT) (T : Fns K mg a d) (A : AlF K C) : FnOk P w K mg base CX0 1 fT fdT ["self", "text"] (spIsText C) := by
  refine F.ok scIsText (fun vs H Q E h => ?_) (fun cdv A0 outer s H vs Q E hr h => ?_)
  · obtain ⟨al, l, v, t, rfl, _⟩ := h
    rfl
  · obtain ⟨al, l, v, t, rfl, ⟨dx, hal⟩, ht, k⟩ := h
    refine ⟨_, (pss_one (ps_ret (pe_callB (cr_all rfl) (by rfl) T.z_all (by decide +kernel) (pa_cons (pe_lc (own := [("sign", 2)]) (g := gName 2) (by rfl) scIsText.nd (pi_str (pv 1)) (blkOk_by (own := [("sign", 2)]) (N := ["self", "text", "sign"]) (sc := defScope sIsText) (by decide +kernel)) (fun _ _ _ _ _ => pg_name (i := 2) scIsText.nd rfl (Or.inl rfl)) (fun _ _ _ _ _ => pts_nil) (fun _ _ _ _ _ => (pe_cmpR op_in_sign (pv 2) (pe_fldK (K := K) (by rfl) (pv 0) (by rfl)) rfl))) pa_nil)))), ?_⟩
    have hlen := ht.1
    refine ⟨_, rfl, _, rfl, fun D hD => lc_text (fun _ => true) (fun c => V.bl (decide (c ∈ 45 :: srtL l))) (by omega) (fun _ => rfl) (fun _ _ _ _ _ q => q) (fun c hc _ H2 Q2 off q => ⟨_, rfl, _, rfl, al, C, dx, _, _, rfl, (off al (ne_of_none hal hD)).trans hal, A.cl, A.nS, rfl, c, S (45 :: srtL l), rfl, rfl, by rw [S_cps]; exact q⟩) ?_⟩
    refine ⟨D, t.map (fun c => decide (c ∈ 45 :: srtL l)), rfl, ?_, ?_⟩
    · rw [List.map_map]
      refine SqL.of ?_
      rw [upd_same, List.filter_eq_self.mpr (fun _ _ => rfl)]
      rfl
    · have e3 : (t.map fun c => decide (c ∈ 45 :: srtL l)).all id = decide (∀ c ∈ t, c ∈ 45 :: srtL l) := by
        rw [Bool.eq_iff_iff]
        simp
      rw [e3]
      exact k _ (upd_laid hD)
theorem scIsForm : FnScope ["alphabet", "form"] ["alphabet", "form"] (defScope sIsForm) := ⟨rfl, rfl, rfl, by decide +kernel, rfl, by decide +kernel, by decide +kernel⟩
def spIsForm (C : Addr) : Sp := fun vs H Q _ => ∃ (al : Addr) (l v t : List Nat), vs = [.ref al, .str (S t)] ∧ IsAl C H al l v ∧ Tx t ∧ ∀ H', Same H H' → Q (.bl (isW (45 :: srtL l) 6 t)) H'
theorem ok_isForm (T : Fns K mg a d) (A : AlF K C) (V : Bk K mg w c) (mT : Meth K C "is_text" fT) (GT : FnOk P w K mg base CX0 1 fT fdT ["self", "text"] (spIsText C)) (bT : Binds K fdT ["self", "text"] []) : FnOk P w K mg base CX0 2 a.aIsForm d.dIsForm ["alphabet", "form"] (spIsForm C) := by
  refine T.FIsForm.ok scIsForm (fun vs H Q E h => ?_) (fun cdv A0 outer s H vs Q E hr h => ?_)
  · obtain ⟨al, l, v, t, rfl, _⟩ := h
    rfl
  · obtain ⟨al, l, v, t, rfl, hA, ht, k⟩ := h
    refine ⟨_, (pss_one (ps_ret (pe_and (pe_chain op_le op_le pe_int (pe_callB call_len_str (by rfl) T.z_len (by decide +kernel) (pa_cons (pv 1) pa_nil)) (pe_glob (v := .int 6) (by rfl) V.gLF ⟨_, rfl⟩)) (pe_one (pe_meth (pv 0) A.cl mT GT (hr.mono (by decide)) bT .nil pass0 (pa_cons (pv 1) pa_nil)))))), ?_⟩
    have hlen := ht.1
    have htl : (S t).length ≤ sizeLine := sz4 (by rw [S_len]; omega)
    unfold isW at k
    have kf : ¬ (1 ≤ t.length ∧ t.length ≤ 6) → Q (.bl false) H := fun hn => by
      have q := k H (Same.refl H)
      by_cases h1 : 1 ≤ t.length
      · by_cases h2 : t.length ≤ 6
        · exact absurd ⟨h1, h2⟩ hn
        · rw [decide_eq_false h2, Bool.false_and, Bool.and_false] at q
          exact q
      · rw [decide_eq_false h1, Bool.false_and] at q
        exact q
    refine ⟨_, rfl, _, rfl, htl, _, _, rfl, rfl, _, rfl, ite2 (fun h1 => ⟨_, _, rfl, rfl, _, rfl, ite2 (fun h2 => ?_) (fun h2 => ?_)⟩) (fun h1 => ⟨_, rfl, iteF (kf ?_)⟩)⟩
    · have g1 : 1 ≤ t.length := by
        have := of_decide_eq_true h1
        rw [S_len] at this
        omega
      have g2 : t.length ≤ 6 := by
        have := of_decide_eq_true h2
        rw [S_len] at this
        omega
      rw [decide_eq_true g1, decide_eq_true g2, Bool.true_and, Bool.true_and] at k
      obtain ⟨dx, hal⟩ := id hA
      exact ⟨_, rfl, al, dx, _, rfl, hal, rfl, _, rfl, al, l, v, t, rfl, hA, ht, k⟩
    · refine kf fun z => h2 (decide_eq_true ?_)
      have := z.2
      rw [S_len]
      omega
    · intro z
      refine h1 (decide_eq_true ?_)
      have := z.1
      rw [S_len]
      omega
end
end Vk
set_option Elab.async false
set_option linter.all false
set_option maxRecDepth 100000
set_option maxHeartbeats 8000000
namespace Vk
open PySem PySem.Spec PyProof.Rows L2
theorem lea (c : Nat) : (!decide ((S [c]).cps.toList < (PySem.Str.ofString "a").cps.toList)) = decide (97 ≤ c) := by
  have e : (PySem.Str.ofString "a").cps.toList = [97] := by decide +kernel
  rw [e, S_cps, decide_eq_decide.mpr (lt1 (a := c) (b := 97))]
  by_cases h : 97 ≤ c
  · rw [decide_eq_true h, decide_eq_false (by omega)]
    rfl
  · rw [decide_eq_false h, decide_eq_true (by omega)]
    rfl
theorem lez (c : Nat) : (!decide ((PySem.Str.ofString "z").cps.toList < (S [c]).cps.toList)) = decide (c ≤ 122) := by
  have e : (PySem.Str.ofString "z").cps.toList = [122] := by decide +kernel
  rw [e, S_cps, decide_eq_decide.mpr (lt1 (a := 122) (b := c))]
  by_cases h : c ≤ 122
  · rw [decide_eq_true h, decide_eq_false (by omega)]
    rfl
  · rw [decide_eq_false h, decide_eq_true (by omega)]
    rfl
section
variable {P : Program} {w : World} {K : PySem.W.Frag} {mg : Str → Option Value} {base : Heap} {a : Ad} {d : Fd} {c : Er} {C fT : Addr} {fdT : FuncData}
/-- what the errors' own __init__ keep -/
structure Gs (P : Program) (w : World) (K : PySem.W.Frag) (mg : Str → Option Value) (base : Heap) (c : Er) : Prop where
  TM : FnOk P w K mg base CX0 1 c.tmF c.tmD ["self", "most"] (spETooMany c.tm)
  BN : FnOk P w K mg base CX0 1 c.bnF c.bnD ["self", "name"] (spEBadName c.bn)
  BF : FnOk P w K mg base CX0 1 c.bfF c.bfD ["self", "form"] (spEBadForm c.bf)
  UP : FnOk P w K mg base CX0 1 c.upF c.upD ["self", "place"] (spEUnknownPlace c.up)
  DN : FnOk P w K mg base CX0 1 c.dnF c.dnD ["self", "name"] (spEDuplicateName c.dn)
  CF : FnOk P w K mg base CX0 1 c.cfF c.cfD ["self", "name", "other"] (spEConflict c.cf)
def spCheck (C : Addr) (c : Er) : Sp := fun vs H Q E => ∃ (al x y : Addr) (l v : List Nat) (e : Row) (ps : List (Addr × Row)), vs = [.ref al, .ref x, .ref y] ∧ IsAl C H al l v ∧ H x = some (.tup e.vs) ∧ e.ok ∧ TupRows H y ps ∧ ps.length ≤ 20 ∧
  (faultL (45 :: srtL l) e (ps.map (·.2)) = [] → ∀ H', Same H H' → Q .non H') ∧
  (∀ B dd fs H', Raised c (faultL (45 :: srtL l) e (ps.map (·.2))) B fs → H dd = none → H' dd = some (.xd fs) → Same H H' → E (.ref B) (some dd) H')
theorem scCheck : FnScope ["alphabet", "entry", "earlier", "name", "long", "short", "place", "letter", "form", "other"] ["alphabet", "entry", "earlier"] (defScope sCheck) := ⟨rfl, rfl, rfl, by decide +kernel, rfl, by decide +kernel, by decide +kernel⟩
theorem ok_check (T : Fns K mg a d) (A : AlF K C) (Wk : Bk K mg w c) (G : Gs P w K mg base c) (mT : Meth K C "is_text" fT) (GT : FnOk P w K mg base CX0 1 fT fdT ["self", "text"] (spIsText C)) (bT : Binds K fdT ["self", "text"] []) : FnOk P w K mg base (L2.CX P w) 3 a.aCheck d.dCheck ["alphabet", "entry", "earlier"] (spCheck C c) := by
  have GIsForm : FnOk P w K mg base CX0 2 a.aIsForm d.dIsForm ["alphabet", "form"] (spIsForm C) := ok_isForm T A Wk mT GT bT
  have GConf : FnOk P w K mg base CX0 2 a.aConf d.dConf ["entry", "other"] spConf := ok_conf T
  have GBN := G.BN
  have GBF := G.BF
  have GUP := G.UP
  have GDN := G.DN
  have GCF := G.CF
  refine T.FCheck.okX scCheck (fun vs H Q E h => ?_) (fun cdv A0 outer s H vs Q E hr h => ?_)
  · obtain ⟨al, x, y, l, v, e, ps, rfl, _⟩ := h
    rfl
  · obtain ⟨al, x, y, l, v, e, ps, rfl, hA, hx, heok, hY, hps, kq, ke⟩ := h
    refine ⟨_, (pss_cons (ps_asg (pv 1) (pg_tup rfl (pgs_cons (pg_name (i := 3) scCheck.nd rfl (Or.inr rfl)) (pgs_cons (pg_name (i := 4) scCheck.nd rfl (Or.inl rfl)) (pgs_cons (pg_name (i := 5) scCheck.nd rfl (Or.inl rfl)) (pgs_cons (pg_name (i := 6) scCheck.nd rfl (Or.inl rfl)) pgs_nil))))))
      (pss_cons (ps_if (PW.pt (pw_or (pt_not (pt_chain op_le op_le pe_int (pe_callB call_len_str (by rfl) T.z_len (by decide +kernel) (pa_cons (pv 3) pa_nil)) (pe_glob (v := .int 8) (by rfl) Wk.gLN ⟨_, rfl⟩))) (pw_or1 (pt_not (pt_val (pe_callB (cr_all rfl) (by rfl) T.z_all (by decide +kernel) (pa_cons (pe_lc (own := [("letter", 7)]) (g := gName 7) (by rfl) scCheck.nd (pi_str (pv 3)) (blkOk_by (own := [("letter", 7)]) (N := ["alphabet", "entry", "earlier", "name", "long", "short", "place", "letter", "form", "other"]) (sc := defScope sCheck) (by decide +kernel)) (fun _ _ _ _ _ => pg_name (i := 7) scCheck.nd rfl (Or.inl rfl)) (fun _ _ _ _ _ => pts_nil) (fun _ _ _ _ _ => (pe_chain op_le_str op_le_str pe_str (pv 7) pe_str))) pa_nil))))))) (pss_one (ps_raise rfl (takes_of rfl rfl rfl rfl) (pmk_oex Wk.BN.ox Wk.BN.iC Wk.BN.tI GBN (hr.mono (by decide)) Wk.BN.bB .nil pass0 (by rfl) Wk.BN.gB (pa_cons (pv 3) pa_nil)))) pss_nil)
      (pss_cons (ps_for (passes_of rfl) rfl (pi_list (pe_lst (pa_cons (pv 4) (pa_cons (pv 5) pa_nil)))) (pg_name (i := 8) scCheck.nd rfl (Or.inl rfl)) (pss_one (ps_if (pt_not (pt_val (pe_call GIsForm (hr.mono (by decide)) (by rfl) T.gIsForm T.FIsForm.kp T.bIsForm .nil pass0 (pa_cons (pv 0) (pa_cons (pv 8) pa_nil))))) (pss_one (ps_raise rfl (takes_of rfl rfl rfl rfl) (pmk_oex Wk.BF.ox Wk.BF.iC Wk.BF.tI GBF (hr.mono (by decide)) Wk.BF.bB .nil pass0 (by rfl) Wk.BF.gB (pa_cons (pv 8) pa_nil)))) pss_nil)))
      (pss_cons (ps_if (pt_cmpR (op_notIn_kd Wk.kd) (pv 6) (pe_glob (v := .ref c.kinds) (by rfl) Wk.gK rfl) rfl) (pss_one (ps_raise rfl (takes_of rfl rfl rfl rfl) (pmk_oex Wk.UP.ox Wk.UP.iC Wk.UP.tI GUP (hr.mono (by decide)) Wk.UP.bB .nil pass0 (by rfl) Wk.UP.gB (pa_cons (pv 6) pa_nil)))) pss_nil)
      (pss_cons (ps_if (pt_val (pe_callB (cr_any rfl) (by rfl) T.z_any (by decide +kernel) (pa_cons (pe_lc (own := [("other", 9)]) (g := gName 9) (by rfl) scCheck.nd (pi_tup (pv 2)) (blkOk_by (own := [("other", 9)]) (N := ["alphabet", "entry", "earlier", "name", "long", "short", "place", "letter", "form", "other"]) (sc := defScope sCheck) (by decide +kernel)) (fun _ _ _ _ _ => pg_name (i := 9) scCheck.nd rfl (Or.inl rfl)) (fun _ _ _ _ _ => pts_nil) (fun _ _ _ _ _ => (pe_cmpR op_eq (pv 3) (pe_ix (r := rIxT K) ix_tup (pv 9) pe_int (fun _ _ => rfl)) (nomark _)))) pa_nil))) (pss_one (ps_raise rfl (takes_of rfl rfl rfl rfl) (pmk_oex Wk.DN.ox Wk.DN.iC Wk.DN.tI GDN (hr.mono (by decide)) Wk.DN.bB .nil pass0 (by rfl) Wk.DN.gB (pa_cons (pv 3) pa_nil)))) pss_nil)
      (pss_one (ps_for (passes_of rfl) rfl (pi_tup (pv 2)) (pg_name (i := 9) scCheck.nd rfl (Or.inl rfl)) (pss_one (ps_if (pt_val (pe_call GConf (hr.mono (by decide)) (by rfl) T.gConf T.FConf.kp T.bConf .nil pass0 (pa_cons (pv 1) (pa_cons (pv 9) pa_nil)))) (pss_one (ps_raise rfl (takes_of rfl rfl rfl rfl) (pmk_oex Wk.CF.ox Wk.CF.iC Wk.CF.tI GCF (hr.mono (by decide)) Wk.CF.bB .nil pass0 (by rfl) Wk.CF.gB (pa_cons (pv 3) (pa_cons (pe_ix (r := rIxT K) ix_tup (pv 9) pe_int (fun _ _ => rfl)) pa_nil))))) pss_nil))))))))), ?_⟩
    generalize hsg : (45 :: srtL l) = sg at kq ke
    obtain ⟨on, ol, os, op⟩ := id heok
    have honl := on.1
    have hnl : (S e.n).length ≤ sizeLine := sz4 (by rw [S_len]; omega)
    have rN : faultL sg e (ps.map (·.2)) = [Lt "BadName", e.n] → ∀ H1, Same H H1 → ([V.str (S e.n)] : List V).length ≤ 1000 ∧ ∀ b, H1 b = none → spEBadName c.bn [.ref b, .str (S e.n)] (upd H1 b (exo b c.bn none)) (PostE c.bn b E H1) (fun _ _ _ => False) :=
      fun hf H1 s => ⟨by show 1 ≤ 1000; decide, fun b hb => ⟨b, e.n, rfl, on, upd_same, raise1 hb s fun dd H' h1 h2 h3 => ke c.bn dd _ H' (.inl ⟨_, hf, rfl, rfl⟩) h1 h2 h3⟩⟩
    have rF : ∀ t, Tx t → faultL sg e (ps.map (·.2)) = [Lt "BadForm", t] → ∀ H1, Same H H1 → ([V.str (S t)] : List V).length ≤ 1000 ∧ ∀ b, H1 b = none → spEBadForm c.bf [.ref b, .str (S t)] (upd H1 b (exo b c.bf none)) (PostE c.bf b E H1) (fun _ _ _ => False) :=
      fun t ht hf H1 s => ⟨by show 1 ≤ 1000; decide, fun b hb => ⟨b, t, rfl, ht, upd_same, raise1 hb s fun dd H' h1 h2 h3 => ke c.bf dd _ H' (.inr (.inl ⟨_, hf, rfl, rfl⟩)) h1 h2 h3⟩⟩
    have rP : faultL sg e (ps.map (·.2)) = [Lt "UnknownPlace", e.p] → ∀ H1, Same H H1 → ([V.str (S e.p)] : List V).length ≤ 1000 ∧ ∀ b, H1 b = none → spEUnknownPlace c.up [.ref b, .str (S e.p)] (upd H1 b (exo b c.up none)) (PostE c.up b E H1) (fun _ _ _ => False) :=
      fun hf H1 s => ⟨by show 1 ≤ 1000; decide, fun b hb => ⟨b, e.p, rfl, op, upd_same, raise1 hb s fun dd H' h1 h2 h3 => ke c.up dd _ H' (.inr (.inr (.inl ⟨_, hf, rfl, rfl⟩))) h1 h2 h3⟩⟩
    have rD : faultL sg e (ps.map (·.2)) = [Lt "DuplicateName", e.n] → ∀ H1, Same H H1 → ([V.str (S e.n)] : List V).length ≤ 1000 ∧ ∀ b, H1 b = none → spEDuplicateName c.dn [.ref b, .str (S e.n)] (upd H1 b (exo b c.dn none)) (PostE c.dn b E H1) (fun _ _ _ => False) :=
      fun hf H1 s => ⟨by show 1 ≤ 1000; decide, fun b hb => ⟨b, e.n, rfl, on, upd_same, raise1 hb s fun dd H' h1 h2 h3 => ke c.dn dd _ H' (.inr (.inr (.inr (.inl ⟨_, hf, rfl, rfl⟩)))) h1 h2 h3⟩⟩
    have rC : ∀ u, Tx u → faultL sg e (ps.map (·.2)) = [Lt "Conflict", e.n, u] → ∀ H1, Same H H1 → ([V.str (S e.n), V.str (S u)] : List V).length ≤ 1000 ∧ ∀ b, H1 b = none → spEConflict c.cf [.ref b, .str (S e.n), .str (S u)] (upd H1 b (exo b c.cf none)) (PostE c.cf b E H1) (fun _ _ _ => False) :=
      fun u hu hf H1 s => ⟨by show 2 ≤ 1000; decide, fun b hb => ⟨b, e.n, u, rfl, on, hu, upd_same, raise2 hb s fun dd H' h1 h2 h3 => ke c.cf dd _ H' (.inr (.inr (.inr (.inr ⟨_, _, hf, rfl, rfl⟩)))) h1 h2 h3⟩⟩
    have bad : isW azL 8 e.n = false → faultL sg e (ps.map (·.2)) = [Lt "BadName", e.n] := fun h2 => by
      unfold faultL
      rw [if_pos h2]
    refine ⟨_, rfl, x, _, rfl, SqT.of hx, rfl, _, _, rfl, _, _, rfl, _, _, rfl, _, _, rfl, rfl, ?_⟩
    refine ⟨_, rfl, _, rfl, hnl, _, _, rfl, rfl, _, rfl, ite2 (fun h1 => ⟨_, _, rfl, rfl, _, rfl, ?_⟩) (fun h1 => ⟨_, rfl, iteT (iteT ⟨_, rfl, rN (bad ?_) H (Same.refl H)⟩)⟩)⟩
    rotate_left
    · have hn : ¬ 1 ≤ e.n.length := fun z => h1 (decide_eq_true (by rw [S_len]; omega))
      unfold isW
      rw [decide_eq_false hn, Bool.false_and]
    have g1 : 1 ≤ e.n.length := by
      have := of_decide_eq_true h1
      rw [S_len] at this
      omega
    refine ite2 (fun h2 => iteT ⟨_, rfl, rN (bad ?_) H (Same.refl H)⟩) (fun h2 => ?_)
    · have hn : ¬ e.n.length ≤ 8 := fun z => by
        have h3 : decide (((S e.n).length : Int) ≤ 8) = true := decide_eq_true (by rw [S_len]; omega)
        have h4 : (!decide (((S e.n).length : Int) ≤ 8)) = true := h2
        rw [h3] at h4
        cases h4
      unfold isW
      rw [decide_eq_false hn, Bool.false_and, Bool.and_false]
    have g2 : e.n.length ≤ 8 := by
      have h3 : decide (((S e.n).length : Int) ≤ 8) = true := by
        cases ee : decide (((S e.n).length : Int) ≤ 8) with
        | true => rfl
        | false => exact absurd (show (!decide (((S e.n).length : Int) ≤ 8)) = true by rw [ee]; rfl) h2
      have := of_decide_eq_true h3
      rw [S_len] at this
      omega
    refine ⟨_, rfl, _, rfl, fun D hD => lc_text (fun _ => true) (fun c => V.bl (decide (c ∈ azL))) (by omega) (fun _ => rfl) (fun _ _ _ _ _ q => q) (fun c hc _ H2 Q2 off q => (by
      refine ⟨_, rfl, _, _, rfl, rfl, _, rfl, ?_⟩
      rw [lea]
      refine ite2 (fun h3 => ⟨_, _, rfl, rfl, ?_⟩) (fun h3 => ?_)
      · rw [lez]
        rw [decide_eq_decide.mpr (az_iff.trans ⟨fun z => z.2, fun z => ⟨of_decide_eq_true h3, z⟩⟩)] at q
        exact q
      · rw [decide_eq_false (fun z => h3 (decide_eq_true (az_iff.mp z).1))] at q
        exact q)) ?_⟩
    refine ⟨D, e.n.map (fun c => decide (c ∈ azL)), rfl, ?_, ?_⟩
    · rw [List.map_map]
      refine SqL.of ?_
      rw [upd_same, List.filter_eq_self.mpr (fun _ _ => rfl)]
      rfl
    have e3 : (e.n.map fun c => decide (c ∈ azL)).all id = decide (∀ c ∈ e.n, c ∈ azL) := by
      rw [Bool.eq_iff_iff]
      simp
    rw [e3]
    have s1 : Same H (upd H D (.lst ((e.n.filter fun _ => true).map fun c => V.bl (decide (c ∈ azL))))) := upd_laid hD
    generalize upd H D (.lst ((e.n.filter fun _ => true).map fun c => V.bl (decide (c ∈ azL)))) = H1 at s1
    have hw : isW azL 8 e.n = decide (∀ c ∈ e.n, c ∈ azL) := by
      unfold isW
      rw [decide_eq_true g1, decide_eq_true g2, Bool.true_and, Bool.true_and]
    rw [← hw]
    refine ⟨_, rfl, ite2 (fun h3 => ⟨_, rfl, rN (bad (by simpa using h3)) H1 s1⟩) (fun h3 => ?_)⟩
    have w1 : ¬ isW azL 8 e.n = false := by simpa using h3
    have hA1 := hA.same s1
    refine ⟨_, rfl, _, rfl, (by show 2 ≤ sizeLine; decide), fun p1 hp1 => ?_⟩
    have s2 := Same.trans s1 (upd_laid (o := .lst [.str (S e.l), .str (S e.s)]) hp1)
    have hp2 : (upd H1 p1 (.lst [.str (S e.l), .str (S e.s)])) p1 = some (.lst [.str (S e.l), .str (S e.s)]) := upd_same
    generalize upd H1 p1 (.lst [.str (S e.l), .str (S e.s)]) = H2 at s2 hp2
    refine ⟨p1, rfl, ⟨_, SqL.of hp2⟩, for_list (K := K) (a := p1) (xs := [.str (S e.l), .str (S e.s)]) (fun i σ H' => (∃ v8 : Option V, σ = [some (.ref al), some (.ref x), some (.ref y), some (.str (S e.n)), some (.str (S e.l)), some (.str (S e.s)), some (.str (S e.p)), none, v8, none]) ∧ Same H2 H' ∧ (1 ≤ i → isW sg 6 e.l = true) ∧ (2 ≤ i → isW sg 6 e.s = true))
      ⟨⟨none, rfl⟩, Same.refl _, by omega, by omega⟩ (fun i σ H' _ ⟨_, s, _⟩ => SqL.of (s _ _ hp2)) ?_ ?_⟩
    · rintro i z σ H3 hi ⟨⟨v8, rfl⟩, s3, c1, c2⟩
      have s23 := Same.trans s2 s3
      match i, hi with
      | 0, hi =>
        have hy : V.str (S e.l) = z := Option.some.inj hi
        subst hy
        refine ⟨_, rfl, _, rfl, al, l, v, e.l, rfl, hA.same s23, ol, fun H4 s4 => ?_⟩
        rw [hsg]
        refine ⟨_, rfl, ite2 (fun h2 => ?_) (fun h2 => ?_)⟩
        · have h3 : isW sg 6 e.l = false := by simpa using h2
          refine ⟨_, rfl, rF e.l ol ?_ H4 (Same.trans s23 s4)⟩
          unfold faultL
          rw [if_neg w1, if_pos h3]
        · have h3 : isW sg 6 e.l = true := by simpa using h2
          exact ⟨⟨_, rfl⟩, Same.trans s3 s4, fun _ => h3, by omega⟩
      | 1, hi =>
        have hy : V.str (S e.s) = z := Option.some.inj hi
        subst hy
        have d1 := c1 (Nat.le_refl _)
        refine ⟨_, rfl, _, rfl, al, l, v, e.s, rfl, hA.same s23, os, fun H4 s4 => ?_⟩
        rw [hsg]
        refine ⟨_, rfl, ite2 (fun h2 => ?_) (fun h2 => ?_)⟩
        · have h3 : isW sg 6 e.s = false := by simpa using h2
          refine ⟨_, rfl, rF e.s os ?_ H4 (Same.trans s23 s4)⟩
          unfold faultL
          rw [if_neg w1, if_neg (by rw [d1]; decide), if_pos h3]
        · have h3 : isW sg 6 e.s = true := by simpa using h2
          exact ⟨⟨_, rfl⟩, Same.trans s3 s4, fun _ => d1, fun _ => h3⟩
      | n + 2, hi => simp at hi
    · rintro σ H3 ⟨⟨v8, rfl⟩, s3, c1, c2⟩
      have d1 := c1 (by show 1 ≤ 2; decide)
      have d2 := c2 (by show 2 ≤ 2; decide)
      have s23 := Same.trans s2 s3
      obtain ⟨r, hr1, hr2⟩ := Wk.kI e.p
      refine ⟨_, rfl, S e.p, r, rfl, rfl, hr1, ?_⟩
      rw [hr2]
      refine ⟨_, rfl, ite2 (fun h2 => ?_) (fun h2 => ?_)⟩
      · have h3 : e.p ∉ kindsL := by simpa using h2
        refine ⟨_, rfl, rP ?_ H3 s23⟩
        unfold faultL
        rw [if_neg w1, if_neg (by rw [d1]; decide), if_neg (by rw [d2]; decide), if_pos h3]
      have h3 : ¬ e.p ∉ kindsL := by simpa using h2
      have hY3 := hY.same s23
      refine ⟨_, rfl, y, rfl, ⟨_, SqT.of hY3.1⟩, fun D2 hD2 => lc_tupE (fun q : Addr × Row => V.ref q.1) (fun _ => true) (fun q => V.bl (decide (e.n = q.2.n))) (by omega) hY3.1 hD2 (fun _ => rfl) (fun _ _ _ _ _ q => q) (fun q hq _ H4 Q4 off k3 => ⟨_, rfl, _, rfl, q.1, _, 0, _, rfl, rfl, SqT.of ((off q.1 (ne_of_none (hY3.2 q hq).1 hD2)).trans (hY3.2 q hq).1), rfl, rfl, by rw [S_eq_iff]; exact k3⟩) ?_⟩
      rw [col_map]
      have s5 := Same.trans s23 (upd_laid (o := .lst (ps.map fun q => V.bl (decide (e.n = q.2.n)))) hD2)
      have hD5 : (upd H3 D2 (.lst (ps.map fun q => V.bl (decide (e.n = q.2.n))))) D2 = some (.lst ((ps.map fun q => decide (e.n = q.2.n)).map V.bl)) := by
        rw [upd_same, List.map_map]
        rfl
      generalize upd H3 D2 (.lst (ps.map fun q => V.bl (decide (e.n = q.2.n)))) = H5 at s5 hD5
      have eany : (ps.map fun q => decide (e.n = q.2.n)).any id = decide (e.n ∈ (ps.map (·.2)).map (·.n)) := by
        rw [Bool.eq_iff_iff]
        constructor
        · intro h
          obtain ⟨b, hb, ht⟩ := List.any_eq_true.mp h
          obtain ⟨q, hq, rfl⟩ := List.mem_map.mp hb
          exact decide_eq_true (List.mem_map.mpr ⟨q.2, List.mem_map.mpr ⟨q, hq, rfl⟩, (of_decide_eq_true ht).symm⟩)
        · intro h
          obtain ⟨r, hr, he⟩ := List.mem_map.mp (of_decide_eq_true h)
          obtain ⟨q, hq, rfl⟩ := List.mem_map.mp hr
          exact List.any_eq_true.mpr ⟨_, List.mem_map.mpr ⟨q, hq, rfl⟩, decide_eq_true he.symm⟩
      refine ⟨D2, _, rfl, SqL.of hD5, ?_⟩
      rw [eany]
      refine ⟨_, rfl, ite2 (fun h4 => ?_) (fun h4 => ?_)⟩
      · refine ⟨_, rfl, rD ?_ H5 s5⟩
        unfold faultL
        rw [if_neg w1, if_neg (by rw [d1]; decide), if_neg (by rw [d2]; decide), if_neg h3, if_pos (of_decide_eq_true h4)]
      have h5 : ¬ e.n ∈ (ps.map (·.2)).map (·.n) := fun z => h4 (decide_eq_true z)
      have hY5 := hY.same s5
      refine ⟨_, rfl, y, rfl, ⟨_, SqT.of hY5.1⟩, for_tup (K := K) (a := y) (xs := ps.map fun q => V.ref q.1) (fun i σ H' => H' = H5 ∧ (∃ v8 v9 : Option V, σ = [some (.ref al), some (.ref x), some (.ref y), some (.str (S e.n)), some (.str (S e.l)), some (.str (S e.s)), some (.str (S e.p)), none, v8, v9]) ∧ ∀ r ∈ (ps.map (·.2)).take i, confB r e = false)
        ⟨rfl, ⟨_, _, rfl⟩, by simp⟩ (fun i σ H' _ ⟨e, _⟩ => SqT.of (by rw [e]; exact hY5.1)) ?_ ?_⟩
      · rintro i z σ H6 hi ⟨rfl, ⟨v8, v9, rfl⟩, hno⟩
        obtain ⟨q, hq, rfl⟩ : ∃ q, ps[i]? = some q ∧ z = V.ref q.1 := by
          rw [List.getElem?_map] at hi
          cases ee : ps[i]? with
          | none => rw [ee] at hi; cases hi
          | some z => rw [ee] at hi; exact ⟨z, rfl, (Option.some.inj hi).symm⟩
        have hqm := List.mem_of_getElem? hq
        obtain ⟨hqt, hqok⟩ := hY5.2 q hqm
        have hq2 : (ps.map (·.2))[i]? = some q.2 := by rw [List.getElem?_map, hq]; rfl
        refine ⟨_, rfl, _, rfl, x, q.1, e, q.2, rfl, s5 _ _ hx, hqt, _, rfl, ite2 (fun h6 => ?_) (fun h6 => ⟨rfl, ⟨_, _, rfl⟩, fun r hr => ?_⟩)⟩
        · refine ⟨_, rfl, _, rfl, q.1, _, 0, _, rfl, rfl, SqT.of hqt, rfl, rC q.2.n hqok.1 ?_ H6 s5⟩
          have hfind : (ps.map (·.2)).find? (fun r => confB r e) = some q.2 := by
            rw [List.find?_eq_some_iff_append]
            refine ⟨h6, (ps.map (·.2)).take i, (ps.map (·.2)).drop (i + 1), ?_, fun r hr => ?_⟩
            · have hil : i < (ps.map (·.2)).length := (List.getElem?_eq_some_iff.mp hq2).1
              have hg := (List.getElem?_eq_some_iff.mp hq2).2
              rw [← hg, ← List.drop_eq_getElem_cons hil, List.take_append_drop]
            · rw [hno r hr]
              rfl
          unfold faultL
          rw [if_neg w1, if_neg (by rw [d1]; decide), if_neg (by rw [d2]; decide), if_neg h3, if_neg h5, hfind]
        · rw [List.take_add_one, hq2] at hr
          rcases List.mem_append.mp hr with h | h
          · exact hno r h
          · have : r = q.2 := by simpa using h
            rw [this]
            exact Bool.eq_false_iff.mpr h6
      · rintro σ H6 ⟨rfl, ⟨v8, v9, rfl⟩, hno⟩
        refine kq ?_ H6 s5
        have hl : (ps.map fun q => V.ref q.1).length = (ps.map (·.2)).length := by rw [List.length_map, List.length_map]
        rw [hl, List.take_length] at hno
        have hfind : (ps.map (·.2)).find? (fun r => confB r e) = none := by
          rw [List.find?_eq_none]
          intro r hr
          rw [hno r hr]
          decide
        unfold faultL
        rw [if_neg w1, if_neg (by rw [d1]; decide), if_neg (by rw [d2]; decide), if_neg h3, if_neg h5, hfind]
end
end Vk
set_option Elab.async false
set_option linter.all false
set_option maxRecDepth 100000
set_option maxHeartbeats 8000000
namespace Vk
open PySem PySem.Spec PyProof.Rows L2
abbrev sBI : Stmt := inClass (top 16) 1
theorem scBI : FnScope ["self", "alphabet", "entries", "at", "entry"] ["self", "alphabet", "entries"] (defScope sBI) := ⟨rfl, rfl, rfl, by decide +kernel, rfl, by decide +kernel, by decide +kernel⟩
/-- a dict comprehension over a list that stands still -/
theorem dc_listE {K : PySem.W.Frag} {a : Addr} {xs : List V} {g : TG} {tt : TT} {tk tv : TE} {vs : List Nat} {σ : L2.St} {H1 : Hp} {D : Addr} {Qd : Hp → Prop} (Pv : Nat → Hp → Prop) (h0 : Pv 0 (upd H1 D (.dK []))) (hl : ∀ i H, i ≤ xs.length → Pv i H → SqL K H a xs)
    (hs : ∀ i x H, xs[i]? = some x → Pv i H → g x (wipe σ vs) H fun σ2 H2 => wipe σ2 vs = wipe σ vs ∧ tt σ2 H2 fun b H3 =>
      if b = true then tk σ2 H3 fun y H4 => tv σ2 H4 fun z H5 => ∃ kvs k, y = kV k ∧ H5 D = some (.dK kvs) ∧ kvs.length < sizeLine ∧ Pv (i + 1) (upd H5 D (.dK (putK kvs k z))) else Pv (i + 1) H3) (hd : ∀ H, Pv xs.length H → Qd H) :
    ∃ W : Nat → Nat → Hp → Prop, (∃ m, W 0 m (upd H1 D (.dK []))) ∧ ∀ i m H, W i m H →
      ((Itl K a).stop i H ∧ Qd H) ∨ ((Itl K a).go i H ∧ ∃ Nx : Hp → Prop, (∀ H', Nx H' → ∃ m', m' < m ∧ W (i + 1) m' H') ∧ ∀ x H', (Itl K a).yld i H x H' → g x (wipe σ vs) H' fun σ2 H2 => wipe σ2 vs = wipe σ vs ∧ tt σ2 H2 fun b H3 =>
        if b = true then tk σ2 H3 fun y H4 => tv σ2 H4 fun z H5 => ∃ kvs k, y = kV k ∧ H5 D = some (.dK kvs) ∧ kvs.length < sizeLine ∧ Nx (upd H5 D (.dK (putK kvs k z))) else Nx H3) := by
  refine ⟨fun i m H => m + i = xs.length ∧ Pv i H, ⟨xs.length, rfl, h0⟩, fun i m H h => ?_⟩
  obtain ⟨hm, hp⟩ := h
  have hq := hl i H (by omega) hp
  cases m with
  | zero =>
    have e : i = xs.length := by omega
    subst e
    exact .inl ⟨⟨xs, hq, Nat.le_refl _⟩, hd H hp⟩
  | succ m =>
    have hi : i < xs.length := by omega
    refine .inr ⟨⟨xs, xs[i], hq, List.getElem?_eq_getElem hi⟩, Pv (i + 1), fun H' h' => ⟨m, by omega, by omega, h'⟩, fun x H' hy => ?_⟩
    obtain ⟨rfl, hy⟩ := hy
    exact hs i x _ (hy xs hq) hp
theorem fault_nil {sg : List Nat} {e : Row} {rs : List Row} (h : faultL sg e rs = []) : e.n ∉ rs.map (·.n) := by
  unfold faultL at h
  intro hm
  split at h
  · cases h
  split at h
  · cases h
  split at h
  · cases h
  split at h
  · cases h
  first
    | (rw [if_pos hm] at h; cases h)
    | cases h
theorem firstF_names {sg : List Nat} : ∀ (rs es : List Row), firstF sg es rs = [] → (∀ r ∈ rs, r.n ∉ es.map (·.n)) ∧ (rs.map (·.n)).Nodup
  | [], _, _ => ⟨by simp, by simp⟩
  | r :: rest, es, h => by
    rw [firstF_cons] at h
    by_cases hf : faultL sg r es = []
    · rw [if_pos hf] at h
      obtain ⟨h1, h2⟩ := firstF_names rest (es ++ [r]) h
      refine ⟨fun x hx => ?_, ?_⟩
      · rcases List.mem_cons.mp hx with rfl | hx
        · exact fault_nil hf
        · intro hm
          refine h1 x hx ?_
          rw [List.map_append]
          exact List.mem_append_left _ hm
      · rw [List.map_cons, List.nodup_cons]
        refine ⟨fun hm => ?_, h2⟩
        obtain ⟨y, hy, he⟩ := List.mem_map.mp hm
        refine h1 y hy ?_
        rw [List.map_append, he]
        exact List.mem_append_right _ (by simp)
    · rw [if_neg hf] at h
      exact absurd h hf
theorem raised_ne {c : Er} {fl : List (List Nat)} {B : Addr} {fs : List (Str × V)} (h : Raised c fl B fs) : fl ≠ [] := by
  rcases h with ⟨_, rfl, _⟩ | ⟨_, rfl, _⟩ | ⟨_, rfl, _⟩ | ⟨_, rfl, _⟩ | ⟨_, _, rfl, _⟩ <;> exact List.cons_ne_nil _ _
def kvB (q : Addr × Row) : Key × V := (.inr (S q.2.n), .ref q.1)
theorem valV_kv {n : List Nat} : ∀ l : List (Addr × Row), (∀ q ∈ l, q.2.n ≠ n) → valV (l.map kvB) (.inr (S n)) = none
  | [], _ => valV_nil
  | q :: r, h => by
    rw [List.map_cons, valV_neg (fun e => h q List.mem_cons_self (S_inj.mp (Sum.inr.inj e)))]
    exact valV_kv r fun x hx => h x (List.mem_cons_of_mem _ hx)
/-- what stands of Book: its class value and its own fields -/
structure BkV (K : PySem.W.Frag) (mg : Str → Option Value) (CB : Addr) (mc : Value) (tm : Tok) : Prop where
  gB : mg "Book" = some (.ref CB)
  rd : ClX.CRead K CB mc
  most : ClX.CVal K CB mc "MOST" (.int 8) (.int 8 tm)
  cl : Cls K CB
  nA : NoAttr K CB "alphabet"
  nE : NoAttr K CB "_entries"
def IsBook (CB self al : Addr) (H : Hp) (qs : List (Addr × Row)) : Prop := ∃ dx D, H self = some (.ins CB dx [("alphabet", .ref al), ("_entries", .ref D)]) ∧ H D = some (.dK (qs.map kvB)) ∧ ∀ q ∈ qs, H q.1 = some (.tup q.2.vs) ∧ q.2.ok
section
variable {P : Program} {w : World} {K : PySem.W.Frag} {mg : Str → Option Value} {base : Heap} {a : Ad} {d : Fd} {c : Er} {C fT CB : Addr} {fdT : FuncData} {mcB : Value} {tmB : Tok}
def spBI (C CB : Addr) (c : Er) : Sp := fun vs H Q E => ∃ (self al y dx : Addr) (l v : List Nat) (ps : List (Addr × Row)), vs = [.ref self, .ref al, .ref y] ∧ H self = some (.ins CB dx []) ∧ IsAl C H al l v ∧ TupRows H y ps ∧ ps.length ≤ 20 ∧
  (ps.length ≤ 8 → firstF (45 :: srtL l) [] (ps.map (·.2)) = [] → ∀ qs H', qs.Perm ps → sortedR qs → (ps.map fun q => q.2.n).Nodup → IsBook CB self al H' qs → Kp self H H' → Q .non H') ∧
  (8 < ps.length → ∀ dd H', H dd = none → H' dd = some (.xd [("most", .int 8)]) → Same H H' → E (.ref c.tm) (some dd) H') ∧
  (ps.length ≤ 8 → ∀ B dd fs H', Raised c (firstF (45 :: srtL l) [] (ps.map (·.2))) B fs → H dd = none → H' dd = some (.xd fs) → Same H H' → E (.ref B) (some dd) H')
theorem ok_bookInit {f : Addr} {kV' doc pm cdv ct oc : Value} {an od : Option Addr} {osl : Array (Option Value)} (lk : K.lookup f = some ⟨oc, od, .func (PySem.W.fnOf "__init__" "Book.__init__" (defArgs sBI) (defBody sBI) (defScope sBI) .none kV' doc pm an cdv ct), osl⟩) (hcd : PySem.W.codeIn K cdv "Book.__init__" = true)
    (T : Fns K mg a d) (A : AlF K C) (Wk : Bk K mg w c) (G : Gs P w K mg base c) (BV : BkV K mg CB mcB tmB) (mT : Meth K C "is_text" fT) (GT : FnOk P w K mg base CX0 1 fT fdT ["self", "text"] (spIsText C)) (bT : Binds K fdT ["self", "text"] []) :
    FnR P w K mg base (L2.CX P w) 4 f (fun vs H Q E => ∃ ws rest, vs = ws ++ rest ∧ ws.length = (["self", "alphabet"] : List Str).length ∧ rest.length ≤ sizeLine ∧ ∀ p, H p = Option.none → spBI C CB c (ws ++ [V.ref p]) (upd H p (.tup rest)) Q E) := by
  have GTM := G.TM
  have GCheck : FnOk P w K mg base (L2.CX P w) 3 a.aCheck d.dCheck ["alphabet", "entry", "earlier"] (spCheck C c) := ok_check T A Wk G mT GT bT
  refine StX.fn_star (pv := "entries") (sp := spBI C CB c) lk hcd scBI StX.cxUp (fun us rest h => ?_) (fun A0 outer s H vs Q E hr h => ?_)
  · match us, rest, h with
    | [u1, u2], [], _ => rfl
    | [u1, u2], r :: t, _ => rfl
  · obtain ⟨self, al, y, dx, l, v, ps, rfl, hself, hA, hY, hps, kq, km, ke⟩ := h
    refine ⟨_, (pss_cons (ps_if (pt_cmpR op_gt (pe_callB call_len_seq (by rfl) T.z_len (by decide +kernel) (pa_cons (pv 2) pa_nil)) (ClX.pe_cval (pe_glob (v := .ref CB) (by rfl) BV.gB rfl)) (nomark _)) (pss_one (ps_raise rfl (takes_of rfl rfl rfl rfl) (pmk_oex Wk.TM.ox Wk.TM.iC Wk.TM.tI GTM (hr.mono (by decide)) Wk.TM.bB .nil pass0 (by rfl) Wk.TM.gB (pa_cons (ClX.pe_cval (pe_glob (v := .ref CB) (by rfl) BV.gB rfl)) pa_nil)))) pss_nil)
      (pss_cons (ps_for (passes_of rfl) rfl (pi_enumT (by rfl) T.z_enum (pa_cons (pv 2) pa_nil)) (pg_tup rfl (pgs_cons (pg_name (i := 3) scBI.nd rfl (Or.inl rfl)) (pgs_cons (pg_name (i := 4) scBI.nd rfl (Or.inl rfl)) pgs_nil))) (pss_one (ps_expr (pe_call GCheck (hr.mono (by decide)) (by rfl) T.gCheck T.FCheck.kp T.bCheck .nil (passes_call (E := E) (takes_of rfl rfl rfl rfl) (fun _ _ _ _ h => h)) (pa_cons (pv 1) (pa_cons (pv 4) (pa_cons (pe_slice sl_tup (pv 2) po_none (po_some (pv 3))) pa_nil)))))))
      (pss_cons (ps_fld (pv 0) (pv 1) rfl)
      (pss_one (ps_fld (pv 0) (pe_dc rfl scBI.nd (pi_list (pe_callB cr_sort4T (by rfl) T.z_sorted (by decide +kernel) (pa_cons (pv 2) pa_nil))) (blkOk_by (own := [("entry", 4)]) (N := ["self", "alphabet", "entries", "at", "entry"]) (sc := defScope sBI) (by decide +kernel)) (fun _ _ _ _ _ => pg_name (i := 4) scBI.nd rfl (Or.inl rfl)) (fun _ _ _ _ _ => pts_nil) (fun _ _ _ _ _ => (pe_ix (r := rIxT K) ix_tup (pv 4) pe_int (fun _ _ => rfl))) (fun _ _ _ _ _ => (pv 4))) rfl))))), ?_⟩
    generalize hsg : (45 :: srtL l) = sg at kq ke
    have hlen : (ps.map fun q => V.ref q.1).length = ps.length := List.length_map _
    have hl2 : (ps.map (·.2)).length = ps.length := List.length_map _
    refine ⟨_, rfl, y, _, rfl, .inr (SqT.of hY.1), CB, mcB, _, _, rfl, BV.rd, BV.most, _, _, rfl, rfl, _, rfl, ite2 (fun h1 => ?_) (fun h1 => ?_)⟩
    · have h8 : 8 < ps.length := by
        have := of_decide_eq_true h1
        omega
      exact ⟨CB, mcB, _, _, rfl, BV.rd, BV.most, by show 1 ≤ 1000; decide, fun b hb => ⟨b, rfl, upd_same, raise1 hb (Same.refl H) fun dd H' z1 z2 z3 => km h8 dd H' z1 z2 z3⟩⟩
    have h8 : ps.length ≤ 8 := by
      refine Nat.le_of_not_lt fun z => h1 (decide_eq_true ?_)
      omega
    refine ⟨_, rfl, y, _, rfl, SqT.of hY.1, for_it walk_enumT (fun i σ H' => (∃ v3 v4 : Option V, σ = [some (.ref self), some (.ref al), some (.ref y), v3, v4]) ∧ Same H H' ∧ firstF sg [] (ps.map (·.2)) = firstF sg ((ps.map (·.2)).take i) ((ps.map (·.2)).drop i))
      ⟨⟨_, _, rfl⟩, Same.refl _, by simp⟩ (fun i σ H' _ ⟨_, s1, _⟩ => SqT.of (s1 _ _ hY.1)) ?_ ?_⟩
    · rintro i x σ H1 H2 hi ⟨⟨v3, v4, rfl⟩, s1, hf⟩ ⟨Tp, z, rfl, hTp, rfl, hz⟩
      have hil : i < ps.length := by omega
      obtain ⟨q, hq⟩ : ∃ q, ps[i]? = some q := ⟨_, List.getElem?_eq_getElem hil⟩
      have hq2 : (ps.map (·.2))[i]? = some q.2 := by rw [List.getElem?_map, hq]; rfl
      have hzq : z = V.ref q.1 := by
        rw [List.getElem?_map, hq] at hz
        exact (Option.some.inj hz).symm
      subst hzq
      have s2 : Same H1 (upd H1 Tp (.tup [.int (i : Nat), .ref q.1])) := upd_laid hTp
      have hT2 : (upd H1 Tp (.tup [.int (i : Nat), .ref q.1])) Tp = some (.tup [.int (i : Nat), .ref q.1]) := upd_same
      have s12 := Same.trans s1 s2
      generalize upd H1 Tp (.tup [.int (i : Nat), .ref q.1]) = H3 at s2 hT2 s12
      have hqm := List.mem_of_getElem? hq
      have hY3 := hY.same s12
      refine ⟨Tp, _, rfl, SqT.of hT2, rfl, _, _, rfl, _, _, rfl, rfl, ?_⟩
      refine ⟨_, rfl, _, rfl, _, rfl, _, rfl, _, rfl, y, _, rfl, SqT.of hY3.1, ?_, fun p hp => ?_⟩
      · rw [HT.sIx_nat, hlen]
        omega
      rw [cut_to]
      have s3 : Same H3 (upd H3 p (.tup ((ps.map fun q => V.ref q.1).take i))) := upd_laid hp
      have hp3 : (upd H3 p (.tup ((ps.map fun q => V.ref q.1).take i))) p = some (.tup ((ps.take i).map fun q => V.ref q.1)) := by rw [upd_same, List.map_take]
      have s13 := Same.trans s12 s3
      generalize upd H3 p (.tup ((ps.map fun q => V.ref q.1).take i)) = H4 at s3 hp3 s13
      have hY4 := hY.same s13
      have hdrop : (ps.map (·.2)).drop i = q.2 :: (ps.map (·.2)).drop (i + 1) := by
        have h3 : i < (ps.map (·.2)).length := (List.getElem?_eq_some_iff.mp hq2).1
        rw [← (List.getElem?_eq_some_iff.mp hq2).2]
        exact List.drop_eq_getElem_cons h3
      have htake : (ps.map (·.2)).take (i + 1) = (ps.map (·.2)).take i ++ [q.2] := by
        rw [List.take_add_one, hq2]
        rfl
      rw [hdrop, firstF_cons] at hf
      refine ⟨al, q.1, p, l, v, q.2, ps.take i, rfl, hA.same s13, (hY4.2 q hqm).1, (hY4.2 q hqm).2, ⟨hp3, fun x hx => hY4.2 x (List.mem_of_mem_take hx)⟩, by rw [List.length_take]; omega, fun h0 H5 s5 => ?_, fun B dd fs H5 hr5 z1 z2 z3 => ?_⟩
      · rw [hsg, List.map_take] at h0
        rw [if_pos h0, ← htake] at hf
        exact ⟨⟨_, _, rfl⟩, Same.trans s13 s5, hf⟩
      · rw [hsg, List.map_take] at hr5
        rw [if_neg (raised_ne hr5)] at hf
        rw [← hf] at hr5
        exact ke h8 B dd fs H5 hr5 (Same.none s13 z1) z2 (Same.trans s13 z3)
    · rintro σ H1 ⟨⟨v3, v4, rfl⟩, s1, hf⟩
      rw [hlen, ← hl2, List.drop_length, firstF_nil] at hf
      obtain ⟨_, hnd⟩ := firstF_names _ _ hf
      rw [List.map_map] at hnd
      have hnd : (ps.map fun q => q.2.n).Nodup := hnd
      have hself1 := s1 _ _ hself
      refine ⟨_, rfl, _, rfl, self, CB, dx, [], rfl, hself1, BV.cl, BV.nA, (by show 0 < 1000; decide), ?_⟩
      have hA2 : (upd H1 self (.ins CB dx (putF "alphabet" (.ref al) []))) self = some (.ins CB dx [("alphabet", .ref al)]) := upd_same
      have hY2 : TupRows (upd H1 self (.ins CB dx (putF "alphabet" (.ref al) []))) y ps := by
        have ns : ∀ {x : Addr} {xs : List V}, H1 x = some (.tup xs) → x ≠ self := fun {x xs} hx z => by
          rw [z, hself1] at hx
          cases hx
        have hY1 := hY.same s1
        exact ⟨by rw [upd_ne (ns hY1.1)]; exact hY1.1, fun q hq => ⟨by rw [upd_ne (ns (hY1.2 q hq).1)]; exact (hY1.2 q hq).1, (hY1.2 q hq).2⟩⟩
      have k2 : Kp self H (upd H1 self (.ins CB dx (putF "alphabet" (.ref al) []))) := (Same.kp s1 self).trans (Kp.upd self H1 _)
      generalize upd H1 self (.ins CB dx (putF "alphabet" (.ref al) [])) = H2 at hA2 hY2 k2
      refine ⟨_, rfl, y, ps, rfl, SqT.of hY2.1, fun q hq => (hY2.2 q hq).1, fun qs p hperm hsort hp => ?_⟩
      have s3 : Same H2 (upd H2 p (.lst (qs.map fun q => V.ref q.1))) := upd_laid hp
      have hp3 : (upd H2 p (.lst (qs.map fun q => V.ref q.1))) p = some (.lst (qs.map fun q => V.ref q.1)) := upd_same
      generalize upd H2 p (.lst (qs.map fun q => V.ref q.1)) = H3 at s3 hp3
      have hq3 : ∀ q ∈ qs, H3 q.1 = some (.tup q.2.vs) ∧ q.2.ok := fun q hq => by
        obtain ⟨h1, h2⟩ := hY2.2 q (hperm.mem_iff.mp hq)
        exact ⟨s3 _ _ h1, h2⟩
      have hndq : (qs.map fun q => q.2.n).Nodup := (hperm.map fun q : Addr × Row => q.2.n).nodup_iff.mpr hnd
      have hql : qs.length ≤ 8 := by rw [hperm.length_eq]; exact h8
      refine ⟨p, rfl, ⟨_, SqL.of hp3⟩, fun D hD => dc_listE (K := K) (xs := qs.map fun q => V.ref q.1) (fun i H' => H' = upd H3 D (.dK ((qs.take i).map kvB))) rfl (fun i H' _ e => SqL.of (by rw [e, upd_ne (ne_of_none hp3 hD)]; exact hp3)) ?_ ?_⟩
      · rintro i x H' hx rfl
        obtain ⟨q, hq, rfl⟩ : ∃ q, qs[i]? = some q ∧ x = V.ref q.1 := by
          rw [List.getElem?_map] at hx
          cases ee : qs[i]? with
          | none => rw [ee] at hx; cases hx
          | some z => rw [ee] at hx; exact ⟨z, rfl, (Option.some.inj hx).symm⟩
        have hqt := (hq3 q (List.mem_of_getElem? hq)).1
        refine ⟨rfl, _, rfl, q.1, _, 0, _, rfl, rfl, SqT.of (by rw [upd_ne (ne_of_none hqt hD)]; exact hqt), rfl, _, rfl, _, .inr (S q.2.n), rfl, upd_same, ?_, ?_⟩
        · rw [List.length_map, List.length_take, sizeLine_eq]
          omega
        · have hnew : valV ((qs.take i).map kvB) (.inr (S q.2.n)) = none := valV_kv _ fun x hx he => by
            obtain ⟨j, hj, rfl⟩ := List.mem_iff_getElem.mp hx
            have hji : j < i := by
              rw [List.length_take] at hj
              omega
            have hjl : j < qs.length := by
              rw [List.length_take] at hj
              omega
            have hil : i < qs.length := (List.getElem?_eq_some_iff.mp hq).1
            have hqe := (List.getElem?_eq_some_iff.mp hq).2
            rw [List.getElem_take] at he
            have := (List.pairwise_iff_getElem.mp hndq) j i (by rw [List.length_map]; exact hjl) (by rw [List.length_map]; exact hil) hji
            rw [List.getElem_map, List.getElem_map, hqe] at this
            exact this he
          rw [upd_upd, putK_new _ hnew, List.take_add_one, hq, List.map_append]
          rfl
      · rintro H' rfl
        rw [List.length_map, List.take_length]
        have hself3 := s3 _ _ hA2
        refine ⟨_, rfl, self, CB, dx, _, rfl, (by rw [upd_ne (ne_of_none hself3 hD)]; exact hself3), BV.cl, BV.nE, (by show 1 < 1000; decide), ?_⟩
        have hDs : D ≠ self := (ne_of_none hself3 hD).symm
        have eF : putF "_entries" (.ref D) [("alphabet", .ref al)] = ([("alphabet", .ref al), ("_entries", .ref D)] : List (Str × V)) := by
          show (if ("alphabet" : Str) = "_entries" then _ else (("alphabet" : Str), V.ref al) :: putF "_entries" (.ref D) []) = _
          rw [if_neg (by decide +kernel)]
          rfl
        refine kq h8 hf qs _ hperm hsort hnd ⟨dx, D, ?_, ?_, fun q hq => ⟨?_, (hq3 q hq).2⟩⟩ ?_
        · rw [upd_same, eF]
        · rw [upd_ne hDs, upd_same]
        · have hqt := (hq3 q hq).1
          rw [upd_ne (fun z => by rw [z, hself3] at hqt; cases hqt), upd_ne (ne_of_none hqt hD)]
          exact hqt
        · exact k2.trans ((Same.kp s3 self).trans ((Same.kp (upd_laid hD) self).trans (Kp.upd self _ _)))
end
end Vk
set_option Elab.async false
set_option linter.all false
set_option maxRecDepth 100000
set_option maxHeartbeats 8000000
namespace Vk
open PySem PySem.Spec PyProof.Rows L2
theorem scBookL : FnScope ["_law_alphabet", "_law_rows_here"] ["_law_alphabet", "_law_rows_here"] (defScope sBookL) := ⟨rfl, rfl, rfl, by decide +kernel, rfl, by decide +kernel, by decide +kernel⟩
section
variable {P : Program} {w : World} {K : PySem.W.Frag} {mg : Str → Option Value} {base : Heap} {a : Ad} {d : Fd} {c : Er} {C fT CB fI : Addr} {fdT : FuncData} {mcB : Value} {tmB : Tok}
/-- what Book's own __init__ keeps, star and all -/
def spBIr (C CB : Addr) (c : Er) : Sp := fun vs H Q E => ∃ ws rest, vs = ws ++ rest ∧ ws.length = (["self", "alphabet"] : List Str).length ∧ rest.length ≤ sizeLine ∧ ∀ p, H p = Option.none → spBI C CB c (ws ++ [V.ref p]) (upd H p (.tup rest)) Q E
def spBookL (C CB : Addr) (c : Er) : Sp := fun vs H Q E => ∃ (al u : Addr) (l v : List Nat) (ps : List (Addr × Row)), vs = [.ref al, .ref u] ∧ IsAl C H al l v ∧ RowsAt H u ps ∧ ps.length ≤ 8 ∧
  (ps.length ≤ 8 → firstF (45 :: srtL l) [] (ps.map (·.2)) = [] → ∀ bk qs H', H bk = none → qs.Perm ps → sortedR qs → (ps.map fun q => q.2.n).Nodup → IsBook CB bk al H' qs → Same H H' → Q (.ref bk) H') ∧
  (8 < ps.length → ∀ dd H', H dd = none → H' dd = some (.xd [("most", .int 8)]) → Same H H' → E (.ref c.tm) (some dd) H') ∧
  (ps.length ≤ 8 → ∀ B dd fs H', Raised c (firstF (45 :: srtL l) [] (ps.map (·.2))) B fs → H dd = none → H' dd = some (.xd fs) → Same H H' → E (.ref B) (some dd) H')
theorem ok_bookL (T : Fns K mg a d) (BV : BkV K mg CB mcB tmB) (M : Mk K CB fI) (F : FnR P w K mg base (L2.CX P w) 4 fI (spBIr C CB c)) : FnOk P w K mg base (L2.CX P w) 6 a.aBookL d.dBookL ["_law_alphabet", "_law_rows_here"] (spBookL C CB c) := by
  refine T.FBookL.okX scBookL (fun vs H Q E h => ?_) (fun cdv A0 outer s H vs Q E hr h => ?_)
  · obtain ⟨al, u, l, v, ps, rfl, _⟩ := h
    rfl
  · obtain ⟨al, u, l, v, ps, rfl, hA, hR, hps, kq, km, ke⟩ := h
    refine ⟨_, (pss_cons (ps_if (pt_cmpR op_eq (pe_callB call_len_seq (by rfl) T.z_len (by decide +kernel) (pa_cons (pv 1) pa_nil)) pe_int (nomark _)) (pss_one (ps_ret (StX.pe_makeR M F hr (by rfl) BV.gB (passes_call (E := E) (takes_of rfl rfl rfl rfl) (fun _ _ _ _ h => h)) (pa_cons (pv 0) pa_nil)))) pss_nil)
      (pss_cons (ps_if (pt_cmpR op_eq (pe_callB call_len_seq (by rfl) T.z_len (by decide +kernel) (pa_cons (pv 1) pa_nil)) pe_int (nomark _)) (pss_one (ps_ret (StX.pe_makeR M F hr (by rfl) BV.gB (passes_call (E := E) (takes_of rfl rfl rfl rfl) (fun _ _ _ _ h => h)) (pa_cons (pv 0) (pa_cons (pe_ix (r := rIxL K) ix_list (pv 1) pe_int (fun _ _ => rfl)) pa_nil))))) pss_nil)
      (pss_cons (ps_if (pt_cmpR op_eq (pe_callB call_len_seq (by rfl) T.z_len (by decide +kernel) (pa_cons (pv 1) pa_nil)) pe_int (nomark _)) (pss_one (ps_ret (StX.pe_makeR M F hr (by rfl) BV.gB (passes_call (E := E) (takes_of rfl rfl rfl rfl) (fun _ _ _ _ h => h)) (pa_cons (pv 0) (pa_cons (pe_ix (r := rIxL K) ix_list (pv 1) pe_int (fun _ _ => rfl)) (pa_cons (pe_ix (r := rIxL K) ix_list (pv 1) pe_int (fun _ _ => rfl)) pa_nil)))))) pss_nil)
      (pss_cons (ps_if (pt_cmpR op_eq (pe_callB call_len_seq (by rfl) T.z_len (by decide +kernel) (pa_cons (pv 1) pa_nil)) pe_int (nomark _)) (pss_one (ps_ret (StX.pe_makeR M F hr (by rfl) BV.gB (passes_call (E := E) (takes_of rfl rfl rfl rfl) (fun _ _ _ _ h => h)) (pa_cons (pv 0) (pa_cons (pe_ix (r := rIxL K) ix_list (pv 1) pe_int (fun _ _ => rfl)) (pa_cons (pe_ix (r := rIxL K) ix_list (pv 1) pe_int (fun _ _ => rfl)) (pa_cons (pe_ix (r := rIxL K) ix_list (pv 1) pe_int (fun _ _ => rfl)) pa_nil))))))) pss_nil)
      (pss_cons (ps_if (pt_cmpR op_eq (pe_callB call_len_seq (by rfl) T.z_len (by decide +kernel) (pa_cons (pv 1) pa_nil)) pe_int (nomark _)) (pss_one (ps_ret (StX.pe_makeR M F hr (by rfl) BV.gB (passes_call (E := E) (takes_of rfl rfl rfl rfl) (fun _ _ _ _ h => h)) (pa_cons (pv 0) (pa_cons (pe_ix (r := rIxL K) ix_list (pv 1) pe_int (fun _ _ => rfl)) (pa_cons (pe_ix (r := rIxL K) ix_list (pv 1) pe_int (fun _ _ => rfl)) (pa_cons (pe_ix (r := rIxL K) ix_list (pv 1) pe_int (fun _ _ => rfl)) (pa_cons (pe_ix (r := rIxL K) ix_list (pv 1) pe_int (fun _ _ => rfl)) pa_nil)))))))) pss_nil)
      (pss_cons (ps_if (pt_cmpR op_eq (pe_callB call_len_seq (by rfl) T.z_len (by decide +kernel) (pa_cons (pv 1) pa_nil)) pe_int (nomark _)) (pss_one (ps_ret (StX.pe_makeR M F hr (by rfl) BV.gB (passes_call (E := E) (takes_of rfl rfl rfl rfl) (fun _ _ _ _ h => h)) (pa_cons (pv 0) (pa_cons (pe_ix (r := rIxL K) ix_list (pv 1) pe_int (fun _ _ => rfl)) (pa_cons (pe_ix (r := rIxL K) ix_list (pv 1) pe_int (fun _ _ => rfl)) (pa_cons (pe_ix (r := rIxL K) ix_list (pv 1) pe_int (fun _ _ => rfl)) (pa_cons (pe_ix (r := rIxL K) ix_list (pv 1) pe_int (fun _ _ => rfl)) (pa_cons (pe_ix (r := rIxL K) ix_list (pv 1) pe_int (fun _ _ => rfl)) pa_nil))))))))) pss_nil)
      (pss_cons (ps_if (pt_cmpR op_eq (pe_callB call_len_seq (by rfl) T.z_len (by decide +kernel) (pa_cons (pv 1) pa_nil)) pe_int (nomark _)) (pss_one (ps_ret (StX.pe_makeR M F hr (by rfl) BV.gB (passes_call (E := E) (takes_of rfl rfl rfl rfl) (fun _ _ _ _ h => h)) (pa_cons (pv 0) (pa_cons (pe_ix (r := rIxL K) ix_list (pv 1) pe_int (fun _ _ => rfl)) (pa_cons (pe_ix (r := rIxL K) ix_list (pv 1) pe_int (fun _ _ => rfl)) (pa_cons (pe_ix (r := rIxL K) ix_list (pv 1) pe_int (fun _ _ => rfl)) (pa_cons (pe_ix (r := rIxL K) ix_list (pv 1) pe_int (fun _ _ => rfl)) (pa_cons (pe_ix (r := rIxL K) ix_list (pv 1) pe_int (fun _ _ => rfl)) (pa_cons (pe_ix (r := rIxL K) ix_list (pv 1) pe_int (fun _ _ => rfl)) pa_nil)))))))))) pss_nil)
      (pss_cons (ps_if (pt_cmpR op_eq (pe_callB call_len_seq (by rfl) T.z_len (by decide +kernel) (pa_cons (pv 1) pa_nil)) pe_int (nomark _)) (pss_one (ps_ret (StX.pe_makeR M F hr (by rfl) BV.gB (passes_call (E := E) (takes_of rfl rfl rfl rfl) (fun _ _ _ _ h => h)) (pa_cons (pv 0) (pa_cons (pe_ix (r := rIxL K) ix_list (pv 1) pe_int (fun _ _ => rfl)) (pa_cons (pe_ix (r := rIxL K) ix_list (pv 1) pe_int (fun _ _ => rfl)) (pa_cons (pe_ix (r := rIxL K) ix_list (pv 1) pe_int (fun _ _ => rfl)) (pa_cons (pe_ix (r := rIxL K) ix_list (pv 1) pe_int (fun _ _ => rfl)) (pa_cons (pe_ix (r := rIxL K) ix_list (pv 1) pe_int (fun _ _ => rfl)) (pa_cons (pe_ix (r := rIxL K) ix_list (pv 1) pe_int (fun _ _ => rfl)) (pa_cons (pe_ix (r := rIxL K) ix_list (pv 1) pe_int (fun _ _ => rfl)) pa_nil))))))))))) pss_nil)
      (pss_one (ps_ret (StX.pe_makeR M F hr (by rfl) BV.gB (passes_call (E := E) (takes_of rfl rfl rfl rfl) (fun _ _ _ _ h => h)) (pa_cons (pv 0) (pa_cons (pe_ix (r := rIxL K) ix_list (pv 1) pe_int (fun _ _ => rfl)) (pa_cons (pe_ix (r := rIxL K) ix_list (pv 1) pe_int (fun _ _ => rfl)) (pa_cons (pe_ix (r := rIxL K) ix_list (pv 1) pe_int (fun _ _ => rfl)) (pa_cons (pe_ix (r := rIxL K) ix_list (pv 1) pe_int (fun _ _ => rfl)) (pa_cons (pe_ix (r := rIxL K) ix_list (pv 1) pe_int (fun _ _ => rfl)) (pa_cons (pe_ix (r := rIxL K) ix_list (pv 1) pe_int (fun _ _ => rfl)) (pa_cons (pe_ix (r := rIxL K) ix_list (pv 1) pe_int (fun _ _ => rfl)) (pa_cons (pe_ix (r := rIxL K) ix_list (pv 1) pe_int (fun _ _ => rfl)) pa_nil)))))))))))))))))))), ?_⟩
    have fin : ∀ x dx, H x = none → H dx = none → dx ≠ x → spBIr C CB c (V.ref x :: (V.ref al :: ps.map fun q => V.ref q.1)) (upd (upd H dx (.own x)) x (.ins CB dx [])) (fun v H2 => v = .non ∧ Q (.ref x) H2) E := by
      intro x dx hx hdx hne
      refine ⟨[V.ref x, V.ref al], ps.map fun q => V.ref q.1, rfl, rfl, by rw [List.length_map, sizeLine_eq]; omega, fun p hp => ?_⟩
      have s1 : Same H (upd (upd H dx (.own x)) x (.ins CB dx [])) := Same.trans (upd_laid hdx) (upd_laid (by rw [upd_ne hne.symm]; exact hx))
      have hx1 : (upd (upd H dx (.own x)) x (.ins CB dx [])) x = some (.ins CB dx []) := upd_same
      generalize upd (upd H dx (.own x)) x (.ins CB dx []) = H1 at s1 hx1 hp
      have s2 : Same H1 (upd H1 p (.tup (ps.map fun q => V.ref q.1))) := upd_laid hp
      have hp2 : (upd H1 p (.tup (ps.map fun q => V.ref q.1))) p = some (.tup (ps.map fun q => V.ref q.1)) := upd_same
      have s12 := Same.trans s1 s2
      have hx2 := s2 _ _ hx1
      generalize upd H1 p (.tup (ps.map fun q => V.ref q.1)) = H2 at s2 hp2 s12 hx2
      refine ⟨x, al, p, dx, l, v, ps, rfl, hx2, hA.same s12, ⟨hp2, fun q hq => (hR.same s12).2 q hq⟩, by omega, fun h8 hf qs H' hperm hsort hnd hB hk => ⟨rfl, kq h8 hf x qs H' hx hperm hsort hnd hB fun b o hb => hk b o (ne_of_none hb hx) (s12 b o hb)⟩, fun h8 dd H' z1 z2 z3 => km h8 dd H' (Same.none s12 z1) z2 (Same.trans s12 z3), fun h8 B dd fs H' hr5 z1 z2 z3 => ke h8 B dd fs H' hr5 (Same.none s12 z1) z2 (Same.trans s12 z3)⟩
    clear kq km ke
    match ps, hps, hR, fin with
    | [], _, hR, fin => exact ⟨_, rfl, u, _, rfl, .inl (SqL.of hR.1), rfl, _, rfl, ite2 (fun _ => ⟨_, rfl, fin⟩) (fun h => absurd (decide_eq_true rfl) h)⟩
    | [q0], _, hR, fin => exact ⟨_, rfl, u, _, rfl, .inl (SqL.of hR.1), rfl, _, rfl, ite2 (fun h => (by have h2 := of_decide_eq_true h; injection h2 with h2; exact absurd h2 (show ¬ ((1 : Nat) : Int) = 0 by decide))) (fun _ => ⟨_, rfl, u, _, rfl, .inl (SqL.of hR.1), rfl, _, rfl, ite2 (fun _ => ⟨_, rfl, _, rfl, u, _, 0, _, rfl, rfl, SqL.of hR.1, rfl, fin⟩) (fun h => absurd (decide_eq_true rfl) h)⟩)⟩
    | [q0, q1], _, hR, fin => exact ⟨_, rfl, u, _, rfl, .inl (SqL.of hR.1), rfl, _, rfl, ite2 (fun h => (by have h2 := of_decide_eq_true h; injection h2 with h2; exact absurd h2 (show ¬ ((2 : Nat) : Int) = 0 by decide))) (fun _ => ⟨_, rfl, u, _, rfl, .inl (SqL.of hR.1), rfl, _, rfl, ite2 (fun h => (by have h2 := of_decide_eq_true h; injection h2 with h2; exact absurd h2 (show ¬ ((2 : Nat) : Int) = 1 by decide))) (fun _ => ⟨_, rfl, u, _, rfl, .inl (SqL.of hR.1), rfl, _, rfl, ite2 (fun _ => ⟨_, rfl, _, rfl, u, _, 0, _, rfl, rfl, SqL.of hR.1, rfl, _, rfl, u, _, 1, _, rfl, rfl, SqL.of hR.1, rfl, fin⟩) (fun h => absurd (decide_eq_true rfl) h)⟩)⟩)⟩
    | [q0, q1, q2], _, hR, fin => exact ⟨_, rfl, u, _, rfl, .inl (SqL.of hR.1), rfl, _, rfl, ite2 (fun h => (by have h2 := of_decide_eq_true h; injection h2 with h2; exact absurd h2 (show ¬ ((3 : Nat) : Int) = 0 by decide))) (fun _ => ⟨_, rfl, u, _, rfl, .inl (SqL.of hR.1), rfl, _, rfl, ite2 (fun h => (by have h2 := of_decide_eq_true h; injection h2 with h2; exact absurd h2 (show ¬ ((3 : Nat) : Int) = 1 by decide))) (fun _ => ⟨_, rfl, u, _, rfl, .inl (SqL.of hR.1), rfl, _, rfl, ite2 (fun h => (by have h2 := of_decide_eq_true h; injection h2 with h2; exact absurd h2 (show ¬ ((3 : Nat) : Int) = 2 by decide))) (fun _ => ⟨_, rfl, u, _, rfl, .inl (SqL.of hR.1), rfl, _, rfl, ite2 (fun _ => ⟨_, rfl, _, rfl, u, _, 0, _, rfl, rfl, SqL.of hR.1, rfl, _, rfl, u, _, 1, _, rfl, rfl, SqL.of hR.1, rfl, _, rfl, u, _, 2, _, rfl, rfl, SqL.of hR.1, rfl, fin⟩) (fun h => absurd (decide_eq_true rfl) h)⟩)⟩)⟩)⟩
    | [q0, q1, q2, q3], _, hR, fin => exact ⟨_, rfl, u, _, rfl, .inl (SqL.of hR.1), rfl, _, rfl, ite2 (fun h => (by have h2 := of_decide_eq_true h; injection h2 with h2; exact absurd h2 (show ¬ ((4 : Nat) : Int) = 0 by decide))) (fun _ => ⟨_, rfl, u, _, rfl, .inl (SqL.of hR.1), rfl, _, rfl, ite2 (fun h => (by have h2 := of_decide_eq_true h; injection h2 with h2; exact absurd h2 (show ¬ ((4 : Nat) : Int) = 1 by decide))) (fun _ => ⟨_, rfl, u, _, rfl, .inl (SqL.of hR.1), rfl, _, rfl, ite2 (fun h => (by have h2 := of_decide_eq_true h; injection h2 with h2; exact absurd h2 (show ¬ ((4 : Nat) : Int) = 2 by decide))) (fun _ => ⟨_, rfl, u, _, rfl, .inl (SqL.of hR.1), rfl, _, rfl, ite2 (fun h => (by have h2 := of_decide_eq_true h; injection h2 with h2; exact absurd h2 (show ¬ ((4 : Nat) : Int) = 3 by decide))) (fun _ => ⟨_, rfl, u, _, rfl, .inl (SqL.of hR.1), rfl, _, rfl, ite2 (fun _ => ⟨_, rfl, _, rfl, u, _, 0, _, rfl, rfl, SqL.of hR.1, rfl, _, rfl, u, _, 1, _, rfl, rfl, SqL.of hR.1, rfl, _, rfl, u, _, 2, _, rfl, rfl, SqL.of hR.1, rfl, _, rfl, u, _, 3, _, rfl, rfl, SqL.of hR.1, rfl, fin⟩) (fun h => absurd (decide_eq_true rfl) h)⟩)⟩)⟩)⟩)⟩
    | [q0, q1, q2, q3, q4], _, hR, fin => exact ⟨_, rfl, u, _, rfl, .inl (SqL.of hR.1), rfl, _, rfl, ite2 (fun h => (by have h2 := of_decide_eq_true h; injection h2 with h2; exact absurd h2 (show ¬ ((5 : Nat) : Int) = 0 by decide))) (fun _ => ⟨_, rfl, u, _, rfl, .inl (SqL.of hR.1), rfl, _, rfl, ite2 (fun h => (by have h2 := of_decide_eq_true h; injection h2 with h2; exact absurd h2 (show ¬ ((5 : Nat) : Int) = 1 by decide))) (fun _ => ⟨_, rfl, u, _, rfl, .inl (SqL.of hR.1), rfl, _, rfl, ite2 (fun h => (by have h2 := of_decide_eq_true h; injection h2 with h2; exact absurd h2 (show ¬ ((5 : Nat) : Int) = 2 by decide))) (fun _ => ⟨_, rfl, u, _, rfl, .inl (SqL.of hR.1), rfl, _, rfl, ite2 (fun h => (by have h2 := of_decide_eq_true h; injection h2 with h2; exact absurd h2 (show ¬ ((5 : Nat) : Int) = 3 by decide))) (fun _ => ⟨_, rfl, u, _, rfl, .inl (SqL.of hR.1), rfl, _, rfl, ite2 (fun h => (by have h2 := of_decide_eq_true h; injection h2 with h2; exact absurd h2 (show ¬ ((5 : Nat) : Int) = 4 by decide))) (fun _ => ⟨_, rfl, u, _, rfl, .inl (SqL.of hR.1), rfl, _, rfl, ite2 (fun _ => ⟨_, rfl, _, rfl, u, _, 0, _, rfl, rfl, SqL.of hR.1, rfl, _, rfl, u, _, 1, _, rfl, rfl, SqL.of hR.1, rfl, _, rfl, u, _, 2, _, rfl, rfl, SqL.of hR.1, rfl, _, rfl, u, _, 3, _, rfl, rfl, SqL.of hR.1, rfl, _, rfl, u, _, 4, _, rfl, rfl, SqL.of hR.1, rfl, fin⟩) (fun h => absurd (decide_eq_true rfl) h)⟩)⟩)⟩)⟩)⟩)⟩
    | [q0, q1, q2, q3, q4, q5], _, hR, fin => exact ⟨_, rfl, u, _, rfl, .inl (SqL.of hR.1), rfl, _, rfl, ite2 (fun h => (by have h2 := of_decide_eq_true h; injection h2 with h2; exact absurd h2 (show ¬ ((6 : Nat) : Int) = 0 by decide))) (fun _ => ⟨_, rfl, u, _, rfl, .inl (SqL.of hR.1), rfl, _, rfl, ite2 (fun h => (by have h2 := of_decide_eq_true h; injection h2 with h2; exact absurd h2 (show ¬ ((6 : Nat) : Int) = 1 by decide))) (fun _ => ⟨_, rfl, u, _, rfl, .inl (SqL.of hR.1), rfl, _, rfl, ite2 (fun h => (by have h2 := of_decide_eq_true h; injection h2 with h2; exact absurd h2 (show ¬ ((6 : Nat) : Int) = 2 by decide))) (fun _ => ⟨_, rfl, u, _, rfl, .inl (SqL.of hR.1), rfl, _, rfl, ite2 (fun h => (by have h2 := of_decide_eq_true h; injection h2 with h2; exact absurd h2 (show ¬ ((6 : Nat) : Int) = 3 by decide))) (fun _ => ⟨_, rfl, u, _, rfl, .inl (SqL.of hR.1), rfl, _, rfl, ite2 (fun h => (by have h2 := of_decide_eq_true h; injection h2 with h2; exact absurd h2 (show ¬ ((6 : Nat) : Int) = 4 by decide))) (fun _ => ⟨_, rfl, u, _, rfl, .inl (SqL.of hR.1), rfl, _, rfl, ite2 (fun h => (by have h2 := of_decide_eq_true h; injection h2 with h2; exact absurd h2 (show ¬ ((6 : Nat) : Int) = 5 by decide))) (fun _ => ⟨_, rfl, u, _, rfl, .inl (SqL.of hR.1), rfl, _, rfl, ite2 (fun _ => ⟨_, rfl, _, rfl, u, _, 0, _, rfl, rfl, SqL.of hR.1, rfl, _, rfl, u, _, 1, _, rfl, rfl, SqL.of hR.1, rfl, _, rfl, u, _, 2, _, rfl, rfl, SqL.of hR.1, rfl, _, rfl, u, _, 3, _, rfl, rfl, SqL.of hR.1, rfl, _, rfl, u, _, 4, _, rfl, rfl, SqL.of hR.1, rfl, _, rfl, u, _, 5, _, rfl, rfl, SqL.of hR.1, rfl, fin⟩) (fun h => absurd (decide_eq_true rfl) h)⟩)⟩)⟩)⟩)⟩)⟩)⟩
    | [q0, q1, q2, q3, q4, q5, q6], _, hR, fin => exact ⟨_, rfl, u, _, rfl, .inl (SqL.of hR.1), rfl, _, rfl, ite2 (fun h => (by have h2 := of_decide_eq_true h; injection h2 with h2; exact absurd h2 (show ¬ ((7 : Nat) : Int) = 0 by decide))) (fun _ => ⟨_, rfl, u, _, rfl, .inl (SqL.of hR.1), rfl, _, rfl, ite2 (fun h => (by have h2 := of_decide_eq_true h; injection h2 with h2; exact absurd h2 (show ¬ ((7 : Nat) : Int) = 1 by decide))) (fun _ => ⟨_, rfl, u, _, rfl, .inl (SqL.of hR.1), rfl, _, rfl, ite2 (fun h => (by have h2 := of_decide_eq_true h; injection h2 with h2; exact absurd h2 (show ¬ ((7 : Nat) : Int) = 2 by decide))) (fun _ => ⟨_, rfl, u, _, rfl, .inl (SqL.of hR.1), rfl, _, rfl, ite2 (fun h => (by have h2 := of_decide_eq_true h; injection h2 with h2; exact absurd h2 (show ¬ ((7 : Nat) : Int) = 3 by decide))) (fun _ => ⟨_, rfl, u, _, rfl, .inl (SqL.of hR.1), rfl, _, rfl, ite2 (fun h => (by have h2 := of_decide_eq_true h; injection h2 with h2; exact absurd h2 (show ¬ ((7 : Nat) : Int) = 4 by decide))) (fun _ => ⟨_, rfl, u, _, rfl, .inl (SqL.of hR.1), rfl, _, rfl, ite2 (fun h => (by have h2 := of_decide_eq_true h; injection h2 with h2; exact absurd h2 (show ¬ ((7 : Nat) : Int) = 5 by decide))) (fun _ => ⟨_, rfl, u, _, rfl, .inl (SqL.of hR.1), rfl, _, rfl, ite2 (fun h => (by have h2 := of_decide_eq_true h; injection h2 with h2; exact absurd h2 (show ¬ ((7 : Nat) : Int) = 6 by decide))) (fun _ => ⟨_, rfl, u, _, rfl, .inl (SqL.of hR.1), rfl, _, rfl, ite2 (fun _ => ⟨_, rfl, _, rfl, u, _, 0, _, rfl, rfl, SqL.of hR.1, rfl, _, rfl, u, _, 1, _, rfl, rfl, SqL.of hR.1, rfl, _, rfl, u, _, 2, _, rfl, rfl, SqL.of hR.1, rfl, _, rfl, u, _, 3, _, rfl, rfl, SqL.of hR.1, rfl, _, rfl, u, _, 4, _, rfl, rfl, SqL.of hR.1, rfl, _, rfl, u, _, 5, _, rfl, rfl, SqL.of hR.1, rfl, _, rfl, u, _, 6, _, rfl, rfl, SqL.of hR.1, rfl, fin⟩) (fun h => absurd (decide_eq_true rfl) h)⟩)⟩)⟩)⟩)⟩)⟩)⟩)⟩
    | [q0, q1, q2, q3, q4, q5, q6, q7], _, hR, fin => exact ⟨_, rfl, u, _, rfl, .inl (SqL.of hR.1), rfl, _, rfl, ite2 (fun h => (by have h2 := of_decide_eq_true h; injection h2 with h2; exact absurd h2 (show ¬ ((8 : Nat) : Int) = 0 by decide))) (fun _ => ⟨_, rfl, u, _, rfl, .inl (SqL.of hR.1), rfl, _, rfl, ite2 (fun h => (by have h2 := of_decide_eq_true h; injection h2 with h2; exact absurd h2 (show ¬ ((8 : Nat) : Int) = 1 by decide))) (fun _ => ⟨_, rfl, u, _, rfl, .inl (SqL.of hR.1), rfl, _, rfl, ite2 (fun h => (by have h2 := of_decide_eq_true h; injection h2 with h2; exact absurd h2 (show ¬ ((8 : Nat) : Int) = 2 by decide))) (fun _ => ⟨_, rfl, u, _, rfl, .inl (SqL.of hR.1), rfl, _, rfl, ite2 (fun h => (by have h2 := of_decide_eq_true h; injection h2 with h2; exact absurd h2 (show ¬ ((8 : Nat) : Int) = 3 by decide))) (fun _ => ⟨_, rfl, u, _, rfl, .inl (SqL.of hR.1), rfl, _, rfl, ite2 (fun h => (by have h2 := of_decide_eq_true h; injection h2 with h2; exact absurd h2 (show ¬ ((8 : Nat) : Int) = 4 by decide))) (fun _ => ⟨_, rfl, u, _, rfl, .inl (SqL.of hR.1), rfl, _, rfl, ite2 (fun h => (by have h2 := of_decide_eq_true h; injection h2 with h2; exact absurd h2 (show ¬ ((8 : Nat) : Int) = 5 by decide))) (fun _ => ⟨_, rfl, u, _, rfl, .inl (SqL.of hR.1), rfl, _, rfl, ite2 (fun h => (by have h2 := of_decide_eq_true h; injection h2 with h2; exact absurd h2 (show ¬ ((8 : Nat) : Int) = 6 by decide))) (fun _ => ⟨_, rfl, u, _, rfl, .inl (SqL.of hR.1), rfl, _, rfl, ite2 (fun h => (by have h2 := of_decide_eq_true h; injection h2 with h2; exact absurd h2 (show ¬ ((8 : Nat) : Int) = 7 by decide))) (fun _ => ⟨_, rfl, _, rfl, u, _, 0, _, rfl, rfl, SqL.of hR.1, rfl, _, rfl, u, _, 1, _, rfl, rfl, SqL.of hR.1, rfl, _, rfl, u, _, 2, _, rfl, rfl, SqL.of hR.1, rfl, _, rfl, u, _, 3, _, rfl, rfl, SqL.of hR.1, rfl, _, rfl, u, _, 4, _, rfl, rfl, SqL.of hR.1, rfl, _, rfl, u, _, 5, _, rfl, rfl, SqL.of hR.1, rfl, _, rfl, u, _, 6, _, rfl, rfl, SqL.of hR.1, rfl, _, rfl, u, _, 7, _, rfl, rfl, SqL.of hR.1, rfl, fin⟩)⟩)⟩)⟩)⟩)⟩)⟩)⟩)⟩
    | _ :: _ :: _ :: _ :: _ :: _ :: _ :: _ :: _ :: _, hps, _, _ => exact absurd hps (by simp only [List.length_cons]; omega)
end
end Vk
set_option Elab.async false
set_option linter.all false
set_option maxRecDepth 100000
set_option maxHeartbeats 8000000
namespace Vk
open PySem PySem.Spec PyProof.Rows L2
abbrev sNames : Stmt := inClass (top 16) 9
abbrev sEntries : Stmt := inClass (top 16) 10
theorem scNames : FnScope ["self"] ["self"] (defScope sNames) := ⟨rfl, rfl, rfl, by decide +kernel, rfl, by decide +kernel, by decide +kernel⟩
theorem scEntries : FnScope ["self", "name"] ["self"] (defScope sEntries) := ⟨rfl, rfl, rfl, by decide +kernel, rfl, by decide +kernel, by decide +kernel⟩
theorem valV_at {qs : List (Addr × Row)} (hnd : (qs.map fun q => q.2.n).Nodup) : ∀ {q : Addr × Row}, q ∈ qs → valV (qs.map kvB) (.inr (S q.2.n)) = some (.ref q.1) := by
  induction qs with
  | nil => intro q h; cases h
  | cons x r ih =>
    intro q h
    rw [List.map_cons, List.nodup_cons] at hnd
    rw [List.map_cons]
    rcases List.mem_cons.mp h with rfl | h
    · exact valV_pos rfl
    · rw [valV_neg (fun e => hnd.1 (List.mem_map.mpr ⟨q, h, (S_inj.mp (Sum.inr.inj e)).symm⟩))]
      exact ih hnd.2 h
section
variable {P : Program} {w : World} {K : PySem.W.Frag} {mg : Str → Option Value} {base : Heap} {a : Ad} {d : Fd} {CB : Addr} {mcB : Value} {tmB : Tok} {f : Addr} {fd : FuncData}
def spNames (CB : Addr) : Sp := fun vs H Q _ => ∃ (bk al : Addr) (qs : List (Addr × Row)), vs = [.ref bk] ∧ IsBook CB bk al H qs ∧ ∀ p, H p = none → Q (.ref p) (upd H p (.lst (qs.map fun q => V.str (S q.2.n))))
theorem ok_names (F : Fun K "names" "Book.names" sNames f fd) (T : Fns K mg a d) (BV : BkV K mg CB mcB tmB) : FnOk P w K mg base CX0 1 f fd ["self"] (spNames CB) := by
  refine F.ok scNames (fun vs H Q E h => ?_) (fun cdv A0 outer s H vs Q E hr h => ?_)
  · obtain ⟨bk, al, qs, rfl, _⟩ := h
    rfl
  · obtain ⟨bk, al, qs, rfl, ⟨dx, D, hb, hD, hq⟩, k⟩ := h
    refine ⟨_, pss_one (ps_ret (pe_callTy (call_listD rfl) (by rfl) T.z_list (by decide +kernel) (pa_cons (pe_fld (pv 0) rfl) pa_nil))), ?_⟩
    refine ⟨_, rfl, bk, CB, dx, _, _, rfl, hb, BV.cl, BV.nE, rfl, D, _, rfl, .inl hD, fun p hp => ?_⟩
    rw [List.map_map]
    exact k p hp
def spEntries (CB : Addr) : Sp := fun vs H Q _ => ∃ (bk al : Addr) (qs : List (Addr × Row)), vs = [.ref bk] ∧ IsBook CB bk al H qs ∧ (qs.map fun q => q.2.n).Nodup ∧ qs.length ≤ 20 ∧ ∀ p H', H p = none → H' p = some (.lst (qs.map fun q => V.ref q.1)) → Same H H' → Q (.ref p) H'
theorem ok_entries (F : Fun K "entries" "Book.entries" sEntries f fd) (T : Fns K mg a d) (BV : BkV K mg CB mcB tmB) : FnOk P w K mg base CX0 1 f fd ["self"] (spEntries CB) := by
  refine F.ok scEntries (fun vs H Q E h => ?_) (fun cdv A0 outer s H vs Q E hr h => ?_)
  · obtain ⟨bk, al, qs, rfl, _⟩ := h
    rfl
  · obtain ⟨bk, al, qs, rfl, ⟨dx, D, hb, hD, hq⟩, hnd, hl, k⟩ := h
    have hu := hr.units
    refine ⟨_, pss_one (ps_ret (pe_lock (pe_lc (own := [("name", 1)]) (g := gName 1) (by rfl) scEntries.nd (pi_keys (pe_fld (pv 0) rfl)) (blkOk_by (own := [("name", 1)]) (N := ["self", "name"]) (sc := defScope sEntries) (by decide +kernel)) (fun _ _ _ _ _ => pg_name (i := 1) scEntries.nd rfl (Or.inl rfl)) (fun _ _ _ _ _ => pts_nil) (fun _ _ _ _ _ => pe_dget (Nat.lt_of_le_of_lt (Nat.add_le_add_left (by decide : 1 ≤ 64) _) hu) (pe_fldK (K := K) (by rfl) (pv 0) (by rfl)) (pv 1) (fun _ _ => rfl))))), ?_⟩
    refine ⟨D, _, hD, trivial, fun od => ?_⟩
    have hDb : bk ≠ D := fun z => by
      rw [z, hD] at hb
      cases hb
    have hb2 : (upd H D (.frz od (.dK (qs.map kvB)))) bk = some (.ins CB dx [("alphabet", .ref al), ("_entries", .ref D)]) := by rw [upd_ne hDb]; exact hb
    have hD2 : (upd H D (.frz od (.dK (qs.map kvB)))) D = some (.frz od (.dK (qs.map kvB))) := upd_same
    generalize hH2 : upd H D (.frz od (.dK (qs.map kvB))) = H2 at hb2 hD2
    refine ⟨_, rfl, bk, CB, dx, _, _, rfl, hb2, BV.cl, BV.nE, rfl, D, od, rfl, .inl ⟨_, hD2, fun p hp => lc_it walk_keys (fun i H' => H' = upd H2 p (.lst ((qs.take i).map fun q => V.ref q.1))) rfl (fun i H' _ e => by rw [e, upd_ne (ne_of_none hD2 hp)]; exact hD2) ?_ ?_⟩⟩
    · rintro i x H1 H' hi rfl ⟨rfl, kk, vv, hk, rfl⟩
      obtain ⟨q, hqi, hqe⟩ : ∃ q, qs[i]? = some q ∧ kvB q = (kk, vv) := by
        rw [List.getElem?_map] at hk
        cases ee : qs[i]? with
        | none => rw [ee] at hk; cases hk
        | some z => rw [ee] at hk; exact ⟨z, rfl, Option.some.inj hk⟩
      obtain ⟨rfl, rfl⟩ := Prod.mk.inj hqe
      have hqm := List.mem_of_getElem? hqi
      refine ⟨rfl, _, rfl, bk, CB, dx, _, _, rfl, (by rw [upd_ne (ne_of_none hb2 hp)]; exact hb2), BV.cl, BV.nE, rfl, _, rfl, D, .ref q.1, rfl, .inl ⟨_, .inr (S q.2.n), .inr ⟨od, by rw [upd_ne (ne_of_none hD2 hp)]; exact hD2⟩, rfl, (valV_at hnd hqm).symm⟩, _, upd_same, ?_, ?_⟩
      · rw [List.length_map, List.length_take, sizeLine_eq]
        omega
      · rw [upd_upd, List.take_add_one, hqi, List.map_append]
        rfl
    · rintro H1 rfl
      have hpD : D ≠ p := ne_of_none hD2 hp
      refine ⟨by rw [upd_ne hpD]; exact hD2, ?_⟩
      rw [List.length_map, List.take_length]
      have hp0 : H p = none := by
        rw [← hH2, upd_ne hpD.symm] at hp
        exact hp
      refine k p _ hp0 ?_ fun b o hbo => ?_
      · rw [upd_ne hpD.symm, upd_same]
      · by_cases hbD : b = D
        · subst hbD
          rw [upd_same]
          rw [hD] at hbo
          exact hbo
        · rw [upd_ne hbD, upd_ne (ne_of_none hbo hp0), ← hH2, upd_ne hbD]
          exact hbo
end
end Vk
set_option Elab.async false
set_option linter.all false
set_option maxRecDepth 100000
set_option maxHeartbeats 4000000
namespace Vk
open PySem PySem.Spec PyProof.Rows L2
/-! good rows: each by itself, and every two -/
def RowG (sg : List Nat) (r : Row) : Prop := WordOk azL 8 r.n ∧ WordOk sg 6 r.l ∧ WordOk sg 6 r.s ∧ r.p ∈ kindsL
theorem Apart.symm {r e : Row} (h : Apart r e) : Apart e r := by
  refine ⟨h.1.symm, ?_⟩
  have h2 := h.2
  unfold confB at h2 ⊢
  rw [ov_comm, show decide (e.l = r.l) = decide (r.l = e.l) from by rw [Bool.eq_iff_iff, decide_eq_true_iff, decide_eq_true_iff]; exact eq_comm, show decide (e.s = r.s) = decide (r.s = e.s) from by rw [Bool.eq_iff_iff, decide_eq_true_iff, decide_eq_true_iff]; exact eq_comm]
  exact h2
theorem fault_iff {sg : List Nat} {e : Row} {rs : List Row} : faultL sg e rs = [] ↔ RowG sg e ∧ ∀ r ∈ rs, Apart r e := by
  unfold faultL RowG
  constructor
  · intro h
    split at h
    · cases h
    rename_i h1
    split at h
    · cases h
    rename_i h2
    split at h
    · cases h
    rename_i h3
    split at h
    · cases h
    rename_i h4
    split at h
    · cases h
    rename_i h5
    refine ⟨⟨isW_iff.mp (by simpa using h1), isW_iff.mp (by simpa using h2), isW_iff.mp (by simpa using h3), by simpa using h4⟩, fun r hr => ⟨fun z => h5 (List.mem_map.mpr ⟨r, hr, z⟩), ?_⟩⟩
    cases hf : rs.find? (fun r => confB r e) with
    | some y => rw [hf] at h; cases h
    | none =>
      have := List.find?_eq_none.mp hf r hr
      simpa using this
  · rintro ⟨⟨h1, h2, h3, h4⟩, h⟩
    rw [if_neg (by rw [isW_iff.mpr h1]; simp), if_neg (by rw [isW_iff.mpr h2]; simp), if_neg (by rw [isW_iff.mpr h3]; simp), if_neg (by simpa using h4), if_neg]
    · have : rs.find? (fun r => confB r e) = none := List.find?_eq_none.mpr fun r hr => by rw [(h r hr).2]; simp
      rw [this]
    · intro z
      obtain ⟨r, hr, hz⟩ := List.mem_map.mp z
      exact (h r hr).1 hz
theorem firstF_app {sg : List Nat} {e : Row} : ∀ (rs es : List Row), firstF sg es rs = [] → firstF sg es (rs ++ [e]) = faultL sg e (es ++ rs)
  | [], es, _ => by
    rw [List.nil_append, firstF_cons, List.append_nil]
    by_cases h : faultL sg e es = []
    · rw [if_pos h, firstF_nil, h]
    · rw [if_neg h]
  | r :: rs, es, h => by
    rw [firstF_cons] at h
    by_cases hf : faultL sg r es = []
    · rw [if_pos hf] at h
      rw [List.cons_append, firstF_cons, if_pos hf, firstF_app rs (es ++ [r]) h, List.append_assoc]
      rfl
    · rw [if_neg hf] at h
      exact absurd h hf
def GoodRs (sg : List Nat) (rs : List Row) : Prop := (∀ r ∈ rs, RowG sg r) ∧ rs.Pairwise Apart
theorem good_first {sg : List Nat} : ∀ (rs es : List Row), GoodRs sg rs → (∀ r ∈ rs, ∀ x ∈ es, Apart x r) → firstF sg es rs = []
  | [], es, _, _ => firstF_nil sg es
  | r :: rs, es, ⟨h1, h2⟩, h => by
    obtain ⟨h3, h4⟩ := List.pairwise_cons.mp h2
    rw [firstF_cons, if_pos (fault_iff.mpr ⟨h1 r List.mem_cons_self, h r List.mem_cons_self⟩)]
    refine good_first rs (es ++ [r]) ⟨fun x hx => h1 x (List.mem_cons_of_mem _ hx), h4⟩ fun x hx y hy => ?_
    rcases List.mem_append.mp hy with z | z
    · exact h x (List.mem_cons_of_mem _ hx) y z
    · rw [List.mem_singleton] at z
      subst z
      exact h3 x hx
theorem GoodRs.first {sg : List Nat} {rs : List Row} (h : GoodRs sg rs) : firstF sg [] rs = [] := good_first rs [] h fun _ _ _ z => nomatch z
theorem GoodRs.app {sg : List Nat} {rs : List Row} {e : Row} (h : GoodRs sg rs) : firstF sg [] (rs ++ [e]) = faultL sg e rs := by
  have := firstF_app (sg := sg) (e := e) rs [] h.first
  rwa [List.nil_append] at this
theorem GoodRs.perm {sg : List Nat} {rs qs : List Row} (h : GoodRs sg rs) (p : qs.Perm rs) : GoodRs sg qs := ⟨fun r hr => h.1 r (p.mem_iff.mp hr), (p.pairwise_iff (fun z => Apart.symm z)).mpr h.2⟩
theorem GoodRs.filter {sg : List Nat} {rs : List Row} (h : GoodRs sg rs) (f : Row → Bool) : GoodRs sg (rs.filter f) := ⟨fun r hr => h.1 r (List.mem_filter.mp hr).1, h.2.filter f⟩
theorem GoodRs.add {sg : List Nat} {rs : List Row} {e : Row} (h : GoodRs sg rs) (f : faultL sg e rs = []) : GoodRs sg (rs ++ [e]) := by
  obtain ⟨h1, h2⟩ := fault_iff.mp f
  refine ⟨fun r hr => ?_, List.pairwise_append.mpr ⟨h.2, List.pairwise_singleton _ _, fun r hr x hx => ?_⟩⟩
  · rcases List.mem_append.mp hr with z | z
    · exact h.1 r z
    · rw [List.mem_singleton] at z
      subst z
      exact h1
  · rw [List.mem_singleton] at hx
    subst hx
    exact h2 r hr
theorem GoodRs.nodup {sg : List Nat} {rs : List Row} (h : GoodRs sg rs) : (rs.map (·.n)).Nodup := by
  refine List.pairwise_map.mpr (h.2.imp fun z => z.1)
end Vk
set_option Elab.async false
set_option linter.all false
set_option maxRecDepth 100000
set_option maxHeartbeats 8000000
namespace Vk
open PySem PySem.Spec PyProof.Rows L2
theorem IsBook.same {CB bk al : Addr} {H H' : Hp} {qs : List (Addr × Row)} (h : IsBook CB bk al H qs) (s : Same H H') : IsBook CB bk al H' qs := by
  obtain ⟨dx, D, b1, b2, b3⟩ := h
  exact ⟨dx, D, s _ _ b1, s _ _ b2, fun q hq => ⟨s _ _ (b3 q hq).1, (b3 q hq).2⟩⟩
theorem names_map (qs : List (Addr × Row)) : ((qs.map (·.2)).map (·.n)) = qs.map fun q => q.2.n := by rw [List.map_map]; rfl
end Vk
set_option Elab.async false
set_option linter.all false
set_option maxRecDepth 100000
set_option maxHeartbeats 4000000
namespace Vk
open PySem PySem.Spec PyProof.Rows L2
/-! what sorted gives is told by the rows alone -/
theorem rising_lt : ∀ (p : Str) (l : List Str), risingS p l = true → (p :: l).Pairwise fun a b => ¬ b.cps.toList < a.cps.toList
  | p, [], _ => by simp
  | p, x :: r, h => by
    have h' : (!ltCps x.cps.toList p.cps.toList && risingS x r) = true := h
    obtain ⟨h1, h2⟩ := Bool.and_eq_true_iff.mp h'
    have ih := rising_lt x r h2
    have hxp : ¬ x.cps.toList < p.cps.toList := by
      rw [ltCps_eq] at h1
      intro z
      rw [decide_eq_true z] at h1
      cases h1
    rw [List.pairwise_cons]
    refine ⟨fun y hy => ?_, ih⟩
    rcases List.mem_cons.mp hy with rfl | hy
    · exact hxp
    · intro z
      have hyx := (List.pairwise_cons.mp ih).1 y hy
      exact hxp (List.lt_of_le_of_lt (List.not_lt.mp hyx) z)
theorem sortedS_lt {ys : List Str} (h : sortedS ys = true) : ys.Pairwise fun a b => ¬ b.cps.toList < a.cps.toList := by
  cases ys with
  | nil => exact .nil
  | cons p r => exact rising_lt p r h
theorem str_ext {a b : Str} (h : a.cps.toList = b.cps.toList) : a = b := by
  cases a with
  | mk x =>
    cases b with
    | mk y =>
      have : x = y := Array.ext' h
      rw [this]
theorem sorted_uniq {ys zs : List Str} (p : ys.Perm zs) (hy : ys.Pairwise fun a b => ¬ b.cps.toList < a.cps.toList) (hz : zs.Pairwise fun a b => ¬ b.cps.toList < a.cps.toList) : ys = zs :=
  List.Perm.eq_of_pairwise (le := fun a b : Str => ¬ b.cps.toList < a.cps.toList) (fun a b _ _ h1 h2 => str_ext (List.le_antisymm (List.not_lt.mp h1) (List.not_lt.mp h2))) hy hz p
theorem sortedR_names {qs : List (Addr × Row)} (h : sortedR qs) : (qs.map fun q => S q.2.n).Pairwise fun a b => ¬ b.cps.toList < a.cps.toList := by
  rw [List.pairwise_map]
  refine h.imp fun {x y} hxy => ?_
  have h1 := (PyProof.Rows.lex_false.mp hxy).1
  have h2 : decide (y.2.n < x.2.n) = false := h1
  rw [S_cps, S_cps]
  exact of_decide_eq_false h2
/-- the names, sorted, are the names of the sorted rows -/
theorem names_eq {qs : List (Addr × Row)} {ps : List (Addr × Row)} {ys : List Str} (hq : sortedR qs) (pq : qs.Perm ps) (py : ys.Perm (ps.map fun q => S q.2.n)) (hs : sortedS ys = true) : ys = qs.map fun q => S q.2.n :=
  sorted_uniq (py.trans (pq.map fun q : Addr × Row => S q.2.n).symm) (sortedS_lt hs) (sortedR_names hq)
/-- two sortings of rows with different names are the same list -/
theorem rows_eq {qs rs ps : List (Addr × Row)} (hq : sortedR qs) (hr : sortedR rs) (pq : qs.Perm ps) (pr : rs.Perm ps) (hnd : (ps.map fun q => q.2.n).Nodup) : qs = rs := by
  have p : qs.Perm rs := pq.trans pr.symm
  have hndq : (qs.map fun q => q.2.n).Nodup := (pq.map fun q : Addr × Row => q.2.n).nodup_iff.mpr hnd
  have inj : ∀ x ∈ qs, ∀ y ∈ qs, x.2.n = y.2.n → x = y := by
    clear p pq hq
    induction qs with
    | nil => intro x hx; cases hx
    | cons z r ih =>
      rw [List.map_cons, List.nodup_cons] at hndq
      intro x hx y hy e
      rcases List.mem_cons.mp hx with rfl | hx2
      · rcases List.mem_cons.mp hy with rfl | hy
        · rfl
        · exact absurd (List.mem_map.mpr ⟨y, hy, e.symm⟩) hndq.1
      · rcases List.mem_cons.mp hy with rfl | hy
        · exact absurd (List.mem_map.mpr ⟨x, hx2, e⟩) hndq.1
        · exact ih hndq.2 x hx2 y hy e
  refine List.Perm.eq_of_pairwise (le := fun a b : Addr × Row => PyProof.Rows.lexLt itemOrd (rowK b.2) (rowK a.2) = false) (fun a b ha hb h1 h2 => ?_) hq hr p
  have e1 : decide (b.2.n < a.2.n) = false := (PyProof.Rows.lex_false.mp h1).1
  have e2 : decide (a.2.n < b.2.n) = false := (PyProof.Rows.lex_false.mp h2).1
  exact inj a ha b (p.mem_iff.mpr hb) (List.le_antisymm (List.not_lt.mp (of_decide_eq_false e1)) (List.not_lt.mp (of_decide_eq_false e2)))
end Vk
set_option Elab.async false
set_option linter.all false
set_option maxRecDepth 100000
set_option maxHeartbeats 8000000
namespace Vk
open PySem PySem.Spec PyProof.Rows L2
def rowL (r : Row) : List (List Nat) := [r.n, r.l, r.s, r.p]
theorem eqv_row (r e : Row) : PyData.eqv r.py e.py = decide (rowL r = rowL e) := by
  have h : ∀ a b : List Nat, (S a == S b) = decide (a = b) := fun a b => by
    rw [Bool.eq_iff_iff, beq_iff_eq, decide_eq_true_iff]
    exact S_inj
  unfold Row.py rowL
  simp only [PyData.eqv, PyData.eqvAll, h]
  rw [Bool.eq_iff_iff]
  simp
theorem eqv_rows : ∀ ps qs : List (Addr × Row), PyData.eqv (.list (ps.map fun q => q.2.py)) (.list (qs.map fun q => q.2.py)) = decide ((ps.map fun q => rowL q.2) = qs.map fun q => rowL q.2)
  | [], [] => by simp [PyData.eqv, PyData.eqvAll]
  | [], q :: qs => by simp [PyData.eqv, PyData.eqvAll]
  | p :: ps, [] => by simp [PyData.eqv, PyData.eqvAll]
  | p :: ps, q :: qs => by
    have ih := eqv_rows ps qs
    simp only [PyData.eqv] at ih
    simp only [List.map_cons, PyData.eqv, PyData.eqvAll, ih, eqv_row]
    rw [Bool.eq_iff_iff]
    simp
/-- what isinstance asks of Book -/
structure BkI (K : PySem.W.Frag) (CB : Addr) : Prop where
  ic : PySem.W.findIn K (.ref CB) "__class__" = some (some (.builtin "object.__class__"))
  ig : PySem.W.specialIn K (.builtin "object.__class__") "__get__" = some (some (.builtin "getset_descriptor.__get__"))
  it : PySem.W.takesIn K (.builtin "object.__class__") = some true
  im : PySem.W.mroIn K CB (.type "object") = some true
abbrev sBEq : Stmt := inClass (top 16) 8
theorem scBEq : FnScope ["self", "other"] ["self", "other"] (defScope sBEq) := ⟨rfl, rfl, rfl, by decide +kernel, rfl, by decide +kernel, by decide +kernel⟩
section
variable {P : Program} {w : World} {K : PySem.W.Frag} {mg : Str → Option Value} {base : Heap} {a : Ad} {d : Fd} {C CB f fE fQ : Addr} {fd fdE fdQ : FuncData} {mcB : Value} {tmB : Tok}
def spBEq (C CB : Addr) : Sp := fun vs H Q _ => ∃ (b1 b2 al1 al2 : Addr) (l1 v1 l2 v2 : List Nat) (ps qs : List (Addr × Row)), vs = [.ref b1, .ref b2] ∧ IsBook CB b1 al1 H ps ∧ IsBook CB b2 al2 H qs ∧ IsAl C H al1 l1 v1 ∧ IsAl C H al2 l2 v2 ∧
  (ps.map fun q => q.2.n).Nodup ∧ (qs.map fun q => q.2.n).Nodup ∧ ps.length ≤ 20 ∧ qs.length ≤ 20 ∧ ∀ H', Same H H' → Q (.bl (AlEq l1 v1 l2 v2 && decide ((ps.map fun q => rowL q.2) = qs.map fun q => rowL q.2))) H'
theorem ok_bEq (Fn : Fun K "__eq__" "Book.__eq__" sBEq f fd) (T : Fns K mg a d) (BV : BkV K mg CB mcB tmB) (I : BkI K CB) (mE : Meth K CB "entries" fE) (GE : FnOk P w K mg base CX0 1 fE fdE ["self"] (spEntries CB)) (bE : Binds K fdE ["self"] [])
    (hsQ : PySem.W.findIn K (.ref C) "__eq__" = some (some (.ref fQ))) (hfQ : PySem.W.isFn K (.ref fQ) = true) (GQ : FnOk P w K mg base CX0 1 fQ fdQ ["self", "other"] (spEq C)) (bQ : Binds K fdQ ["self", "other"] []) (nQ : PySem.W.notFirst K C (.ref C) = true) :
    FnOk P w K mg base CX0 2 f fd ["self", "other"] (spBEq C CB) := by
  refine Fn.ok scBEq (fun vs H Q E h => ?_) (fun cdv A0 outer s H vs Q E hr h => ?_)
  · obtain ⟨b1, b2, al1, al2, l1, v1, l2, v2, ps, qs, rfl, _⟩ := h
    rfl
  · obtain ⟨b1, b2, al1, al2, l1, v1, l2, v2, ps, qs, rfl, hB1, hB2, hA1, hA2, hn1, hn2, hl1, hl2, k⟩ := h
    refine ⟨_, pss_one (ps_ret (pe_and (pe_callB call_isi (by rfl) T.z_isinstance (by decide +kernel) (pa_cons (pv 1) (pa_cons (pe_glob (v := .ref CB) (by rfl) BV.gB rfl) pa_nil)))
      (pe_and (pe_cmpR (op_ownI (fun _ _ => rfl) hsQ hfQ GQ (hr.mono (by decide)) bQ pass0) (pe_fld (pv 0) rfl) (pe_fld (pv 1) rfl) (nomark _)) (pe_one (pe_cmpR (op_eqD hr.units) (pe_meth0 (pv 0) BV.cl mE GE (hr.mono (by decide)) bE .nil pass0) (pe_meth0 (pv 1) BV.cl mE GE (hr.mono (by decide)) bE .nil pass0) (nomark _)))))), ?_⟩
    obtain ⟨dx, D, p1, p2, p3⟩ := id hB1
    obtain ⟨dy, D', q1, q2, q3⟩ := id hB2
    obtain ⟨ax, a1⟩ := id hA1
    obtain ⟨ay, a2⟩ := id hA2
    refine ⟨_, rfl, _, _, _, _, true, rfl, .own CB, .base (.ins q1 BV.cl I.ic I.ig I.it I.im), ?_, true, rfl, iteT ?_⟩
    · show PySem.W.kitOne K (.ref CB) (.ref CB) = some true
      unfold PySem.W.kitOne
      rw [if_pos (beq_iff_eq.mpr rfl)]
    refine ⟨_, rfl, b1, CB, dx, _, _, rfl, p1, BV.cl, BV.nA, rfl, _, rfl, b2, CB, dy, _, _, rfl, q1, BV.cl, BV.nA, rfl, al1, ax, _, al2, C, ay, _, rfl, rfl, a1, a2, nQ, al1, al2, l1, v1, l2, v2, rfl, hA1, hA2, ?_⟩
    refine ⟨_, rfl, ite2 (fun h => ?_) (fun h => ?_)⟩
    · rw [h, Bool.true_and] at k
      refine ⟨_, rfl, b1, dx, _, rfl, p1, rfl, b1, al1, ps, rfl, hB1, hn1, hl1, fun r1 H1 z1 y1 s1 => ?_⟩
      refine ⟨_, rfl, b2, dy, _, rfl, s1 _ _ q1, rfl, b2, al2, qs, rfl, hB2.same s1, hn2, hl2, fun r2 H2 z2 y2 s2 => ?_⟩
      have s12 := Same.trans s1 s2
      refine ⟨.list (ps.map fun q => q.2.py), .list (qs.map fun q => q.2.py), .lst (SqL.of (s2 _ _ y1)) (dp_rows ps fun q hq => s12 _ _ (p3 q hq).1), .lst (SqL.of y2) (dp_rows qs fun q hq => s12 _ _ (q3 q hq).1), shaped_rows (fun q hq => (p3 q hq).2), shaped_rows (fun q hq => (q3 q hq).2), ?_⟩
      rw [eqv_rows]
      exact k H2 s12
    · rw [Bool.eq_false_iff.mpr h, Bool.false_and] at k
      exact k H (Same.refl H)
end
end Vk
set_option Elab.async false
set_option linter.all false
set_option maxRecDepth 100000
set_option maxHeartbeats 2000000
namespace Vk
open PySem PySem.Spec PyProof.Rows L2
/-! a text cut at a sign -/
def cutB (s : Nat) : List Nat → List Nat → List (List Nat)
  | acc, [] => [acc]
  | acc, c :: r => if c = s then acc :: cutB s [] r else cutB s (acc ++ [c]) r
def cutC (s : Nat) (t : List Nat) : List (List Nat) := cutB s [] t
theorem pre_one (s c : Nat) (r : List Nat) : TL.pre [s] (c :: r) = decide (c = s) := by
  show ([c] == [s]) = _
  by_cases h : c = s
  · simp [h]
  · simp [h]
theorem spl_cutB (s : Nat) : ∀ (t acc : List Nat), TL.spl [s] 0 acc t = cutB s acc t
  | [], acc => rfl
  | c :: r, acc => by
    show (if TL.pre [s] (c :: r) = true then acc :: TL.spl [s] 0 [] r else TL.spl [s] 0 (acc ++ [c]) r) = _
    rw [pre_one, spl_cutB s r [], spl_cutB s r (acc ++ [c])]
    by_cases h : c = s
    · simp [cutB, h]
    · simp [cutB, h]
theorem split_C {s : Nat} (hs : s = 10 ∨ s = 32) (t : List Nat) : Txt.split (S t) (S [s]) = (cutC s t).map S := by
  refine TL.map_tl_inj ?_
  have hne : TL.tl (S [s]) ≠ [] := by
    show (S [s]).cps.toList ≠ []
    rw [S_cps]
    simp
  rw [TL.split_spl (S t) (S [s]) hne (by rcases hs with rfl | rfl <;> exact TL.kind_ok (by decide +kernel))]
  have e1 : TL.tl (S [s]) = [s] := by
    show (S [s]).cps.toList = _
    rw [S_cps]
  have e2 : TL.tl (S t) = t := by
    show (S t).cps.toList = _
    rw [S_cps]
  rw [e1, e2, spl_cutB, List.map_map]
  have e3 : ∀ q : List (List Nat), q.map (TL.tl ∘ S) = q := fun q => by
    refine (List.map_congr_left fun c _ => ?_).trans (List.map_id q)
    show (S c).cps.toList = c
    rw [S_cps]
  rw [e3]
  rfl
/-- the pieces but the last, the last, and how it goes on -/
theorem cutB_go (s : Nat) : ∀ (a acc : List Nat), ∃ ls cur, cutB s acc a = ls ++ [cur] ∧ ∀ b, cutB s acc (a ++ b) = ls ++ cutB s cur b
  | [], acc => ⟨[], acc, rfl, fun b => rfl⟩
  | c :: r, acc => by
    by_cases h : c = s
    · obtain ⟨ls, cur, h1, h2⟩ := cutB_go s r []
      refine ⟨acc :: ls, cur, ?_, fun b => ?_⟩
      · rw [cutB, if_pos h, h1]
        rfl
      · rw [List.cons_append, cutB, if_pos h, h2]
        rfl
    · obtain ⟨ls, cur, h1, h2⟩ := cutB_go s r (acc ++ [c])
      refine ⟨ls, cur, ?_, fun b => ?_⟩
      · rw [cutB, if_neg h, h1]
      · rw [List.cons_append, cutB, if_neg h, h2]
theorem cutC_go {s : Nat} {a cur : List Nat} {ls : List (List Nat)} (h : cutC s a = ls ++ [cur]) (b : List Nat) : cutC s (a ++ b) = ls ++ cutB s cur b := by
  obtain ⟨ls', cur', h1, h2⟩ := cutB_go s a []
  have e := h.symm.trans h1
  obtain ⟨e1, e2⟩ := List.append_inj' e rfl
  cases e2
  subst e1
  exact h2 b
theorem cutC_split (s : Nat) (a : List Nat) : ∃ ls cur, cutC s a = ls ++ [cur] := by
  obtain ⟨ls, cur, h, _⟩ := cutB_go s a []
  exact ⟨ls, cur, h⟩
theorem cutB_mem (s : Nat) (t acc : List Nat) : ∀ w ∈ cutB s acc t, w.length ≤ acc.length + t.length ∧ ∀ c ∈ w, c ∈ acc ∨ c ∈ t := by
  induction t generalizing acc with
  | nil =>
    intro w hw
    rw [cutB, List.mem_singleton] at hw
    subst hw
    exact ⟨by simp, fun c hc => .inl hc⟩
  | cons d r ih =>
    intro w hw
    unfold cutB at hw
    split at hw
    · rcases List.mem_cons.mp hw with rfl | hw
      · exact ⟨by simp, fun c hc => .inl hc⟩
      · obtain ⟨h1, h2⟩ := ih [] w hw
        refine ⟨by simp only [List.length_cons, List.length_nil] at h1 ⊢; omega, fun c hc => ?_⟩
        rcases h2 c hc with h | h
        · cases h
        · exact .inr (List.mem_cons_of_mem _ h)
    · obtain ⟨h1, h2⟩ := ih _ w hw
      refine ⟨by simp only [List.length_cons, List.length_append, List.length_nil] at h1 ⊢; omega, fun c hc => ?_⟩
      rcases h2 c hc with h | h
      · rcases List.mem_append.mp h with h | h
        · exact .inl h
        · rw [List.mem_singleton] at h
          exact .inr (by rw [h]; exact List.mem_cons_self ..)
      · exact .inr (List.mem_cons_of_mem _ h)
theorem cutC_mem {s : Nat} {t w : List Nat} (h : w ∈ cutC s t) : w.length ≤ t.length ∧ ∀ c ∈ w, c ∈ t := by
  obtain ⟨h1, h2⟩ := cutB_mem s t [] w h
  refine ⟨by simpa using h1, fun c hc => (h2 c hc).elim (fun h => by cases h) id⟩
theorem cutB_len (s : Nat) (t acc : List Nat) : (cutB s acc t).length ≤ t.length + 1 := by
  induction t generalizing acc with
  | nil => simp [cutB]
  | cons c r ih =>
    unfold cutB
    split
    · have := ih []
      simp only [List.length_cons]
      omega
    · have := ih (acc ++ [c])
      simp only [List.length_cons]
      omega
theorem cutC_len (s : Nat) (t : List Nat) : (cutC s t).length ≤ t.length + 1 := cutB_len s t []
/-! what a note says -/
def entryOf (ws : List (List Nat)) : Option Row := match ws with
  | [n, p, l, s] => some ⟨n, l, s, p⟩
  | _ => none
theorem entryOf_some {ws : List (List Nat)} {e : Row} (h : entryOf ws = some e) : ws = [e.n, e.p, e.l, e.s] := by
  unfold entryOf at h
  split at h
  · cases h
    rfl
  · cases h
theorem entryOf_len {ws : List (List Nat)} : (entryOf ws).isSome = decide (ws.length = 4) := by
  unfold entryOf
  split
  · rfl
  · rename_i h
    rw [eq_comm, Option.isSome_none]
    refine decide_eq_false fun hl => ?_
    match ws, hl with
    | [a, b, c, d], _ => exact h a b c d rfl
/-- one line more: the row that it says, if it stands behind the rows rs -/
def lineR (sg : List Nat) (rs : List Row) (w : List Nat) : Option Row :=
  if rs.length = 8 then none else match entryOf (cutC 32 w) with
    | none => none
    | some e => if faultL sg e rs = [] then some e else none
/-- the rows of the lines, or the number of the first line that says none -/
def goL (sg : List Nat) : List Row → List (List Nat) → Nat ⊕ List Row
  | rs, [] => .inr rs
  | rs, w :: ls => match lineR sg rs w with
    | none => .inl (rs.length + 1)
    | some e => goL sg (rs ++ [e]) ls
theorem goL_app (sg : List Nat) : ∀ (a : List (List Nat)) (rs : List Row) (b : List (List Nat)), goL sg rs (a ++ b) = match goL sg rs a with
    | .inl k => .inl k
    | .inr rs' => goL sg rs' b
  | [], rs, b => rfl
  | w :: a, rs, b => by
    rw [List.cons_append, goL, goL]
    cases lineR sg rs w with
    | none => rfl
    | some e => exact goL_app sg a (rs ++ [e]) b
theorem goL_bad {sg : List Nat} {rs : List Row} {a b : List (List Nat)} {w : List Nat} (h : goL sg [] a = .inr rs) (hw : lineR sg rs w = none) : goL sg [] (a ++ w :: b) = .inl (rs.length + 1) := by
  rw [goL_app, h]
  show goL sg rs (w :: b) = _
  rw [goL, hw]
theorem goL_more {sg : List Nat} {rs : List Row} {a : List (List Nat)} {w : List Nat} {e : Row} (h : goL sg [] a = .inr rs) (hw : lineR sg rs w = some e) : goL sg [] (a ++ [w]) = .inr (rs ++ [e]) := by
  rw [goL_app, h]
  show goL sg rs [w] = _
  rw [goL, hw]
  rfl
theorem goL_len {sg : List Nat} : ∀ (a : List (List Nat)) (rs rs' : List Row), goL sg rs a = .inr rs' → rs'.length = rs.length + a.length
  | [], rs, rs', h => by
    cases h
    rfl
  | w :: a, rs, rs', h => by
    rw [goL] at h
    cases hw : lineR sg rs w with
    | none => rw [hw] at h; cases h
    | some e =>
      rw [hw] at h
      have := goL_len a (rs ++ [e]) rs' h
      rw [List.length_append] at this
      simp only [List.length_cons, List.length_nil] at this ⊢
      omega
theorem lineR_some {sg : List Nat} {rs : List Row} {w : List Nat} {e : Row} (h : lineR sg rs w = some e) : rs.length ≠ 8 ∧ cutC 32 w = [e.n, e.p, e.l, e.s] ∧ faultL sg e rs = [] := by
  unfold lineR at h
  split at h
  · cases h
  rename_i h8
  cases he : entryOf (cutC 32 w) with
  | none => rw [he] at h; cases h
  | some e' =>
    rw [he] at h
    dsimp only at h
    split at h
    · rename_i hf
      cases h
      exact ⟨h8, entryOf_some he, hf⟩
    · cases h
/-- what a note says: its rows, or the number of the first line that is wrong -/
def noteL (sg t : List Nat) : Nat ⊕ List Row := match goL sg [] (cutC 10 t).dropLast with
  | .inl k => .inl k
  | .inr rs => if (cutC 10 t).getLast? = some [] then .inr rs else .inl (rs.length + 1)
theorem noteL_bad {sg t a b w : List Nat} {rs : List Row} {ls : List (List Nat)} (ht : t = a ++ 10 :: b) (ha : cutC 10 a = ls ++ [w]) (h : goL sg [] ls = .inr rs) (hw : lineR sg rs w = none) : noteL sg t = .inl (rs.length + 1) := by
  have e : cutC 10 t = ls ++ w :: cutC 10 b := by
    rw [ht, cutC_go ha, cutB, if_pos rfl]
    rfl
  obtain ⟨l2, c2, h2⟩ := cutC_split 10 b
  have e2 : (cutC 10 t).dropLast = ls ++ w :: l2 := by
    rw [e, h2, show ls ++ w :: (l2 ++ [c2]) = (ls ++ w :: l2) ++ [c2] by simp, List.dropLast_concat]
  unfold noteL
  rw [e2, goL_bad h hw]
theorem noteL_end {sg t w : List Nat} {rs : List Row} {ls : List (List Nat)} (ha : cutC 10 t = ls ++ [w]) (h : goL sg [] ls = .inr rs) : noteL sg t = if w = [] then .inr rs else .inl (rs.length + 1) := by
  unfold noteL
  rw [ha, List.dropLast_concat, h]
  dsimp only
  rw [List.getLast?_concat]
  by_cases hw : w = []
  · rw [if_pos hw, if_pos (by rw [hw])]
  · rw [if_neg hw, if_neg fun e => hw (Option.some.inj e)]
theorem GoodRs.nil {sg : List Nat} : GoodRs sg [] := ⟨(fun _ h => nomatch h), List.Pairwise.nil⟩
theorem goL_good {sg : List Nat} : ∀ (a : List (List Nat)) (rs rs' : List Row), goL sg rs a = .inr rs' → GoodRs sg rs → rs.length ≤ 8 → GoodRs sg rs' ∧ rs'.length ≤ 8
  | [], rs, rs', h, h1, h2 => by
    cases h
    exact ⟨h1, h2⟩
  | w :: a, rs, rs', h, h1, h2 => by
    rw [goL] at h
    cases hw : lineR sg rs w with
    | none => rw [hw] at h; cases h
    | some e =>
      rw [hw] at h
      obtain ⟨g1, g2, g3⟩ := lineR_some hw
      exact goL_good a (rs ++ [e]) rs' h (h1.add g3) (by rw [List.length_append]; simp only [List.length_cons, List.length_nil]; omega)
theorem noteL_good {sg t : List Nat} {rs : List Row} (h : noteL sg t = .inr rs) : GoodRs sg rs ∧ rs.length ≤ 8 := by
  unfold noteL at h
  cases hg : goL sg [] (cutC 10 t).dropLast with
  | inl k => rw [hg] at h; cases h
  | inr r =>
    rw [hg] at h
    dsimp only at h
    split at h
    · cases h
      exact goL_good _ _ _ hg GoodRs.nil (Nat.zero_le _)
    · cases h
end Vk
set_option Elab.async false
set_option linter.all false
set_option maxRecDepth 100000
set_option maxHeartbeats 8000000
namespace Vk
open PySem PySem.Spec PyProof.Rows L2
/-! the walk over a reading -/
open L2 in
local macro_rules | `(tactic| walk_at "lk") => `(tactic| (refine Fr.get (by assumption) (by first | assumption | (simp only [List.mem_cons, List.not_mem_nil, or_false, not_or]; first | assumption | (refine ⟨?_, ?_⟩ <;> assumption) | (apply Ne.symm; assumption))) ?_; walk_at "lk"))
local macro_rules | `(tactic| walk_at "lk") => `(tactic| (refine Same.get (by assumption) ?_; walk_at "lk"))
local macro_rules | `(tactic| walk_at "lk") => `(tactic| (refine upd_oth (by first | assumption | (apply Ne.symm; assumption)) ?_; walk_at "lk"))
local macro_rules | `(tactic| walk_at "lk") => `(tactic| (refine upd_old (by assumption) ?_; walk_at "lk"))
local macro_rules | `(tactic| walk_at "lk") => `(tactic| exact upd_same)
local macro_rules | `(tactic| walk_at "lk") => `(tactic| assumption)
local macro_rules | `(tactic| walk_at "len") => `(tactic| (simp only [S_len, sizeLine_eq, List.length_take, List.length_drop, List.length_append, List.length_cons, List.length_nil]; omega))
local macro_rules | `(tactic| walk_at "len") => `(tactic| (simp only [S_len, sizeLine_eq]; omega))
local macro_rules | `(tactic| walk_at "len") => `(tactic| (simp only [List.length_cons, List.length_nil, sizeLine_eq]; omega))
local macro_rules | `(tactic| walk_at "num") => `(tactic| first | assumption | omega | (simp only [List.length_take, List.length_drop, List.length_append, List.length_cons, List.length_nil]; omega))
local macro_rules | `(tactic| walk_at "ix") => `(tactic| first | exact rfl | assumption | exact atI_nat (by assumption))
local macro_rules | `(tactic| walk_at "putq") => `(tactic| exact rfl)
local macro_rules | `(tactic| walk_at "sq") => `(tactic| exact .inr (SqT.of (by walk_at "lk")))
local macro_rules | `(tactic| walk_at "sq") => `(tactic| exact .inl (SqL.of (by walk_at "lk")))
local macro_rules | `(tactic| walk_at "sq") => `(tactic| exact .inl (by assumption))
local macro_rules | `(tactic| walk_at "sq") => `(tactic| exact .inr (by assumption))
local macro_rules | `(tactic| walk_at "mapq") => `(tactic| exact (rfl : _ = List.map (fun l => V.str (S l)) [_, _, _, _, _]))
local macro_rules | `(tactic| walk_at "mapq") => `(tactic| exact (rfl : _ = List.map (fun l => V.str (S l)) [_, _, _, _]))
local macro_rules | `(tactic| walk_at "mapq") => `(tactic| exact (rfl : _ = List.map (fun l => V.str (S l)) [_, _, _]))
local macro_rules | `(tactic| walk_at "mapq") => `(tactic| exact (rfl : _ = List.map (fun l => V.str (S l)) [_, _]))
local macro_rules | `(tactic| walk_at "mapq") => `(tactic| exact (rfl : _ = List.map (fun l => V.str (S l)) [_]))
local macro_rules | `(tactic| walk_at "mapq") => `(tactic| exact rfl)
local macro_rules | `(tactic| walk_at "setq") => `(tactic| ((try simp only [Int.reduceToNat, List.set_cons_succ, List.set_cons_zero]); exact rfl))
local macro_rules | `(tactic| walk_at "toN") => `(tactic| first | exact rfl | exact (Int.natCast_add _ _).symm | exact (Int.natCast_add _ 1).symm)
local macro_rules | `(tactic| walk_at "cond") => `(tactic| first | omega | (simp only [List.length_map]; omega) | (refine Or.inl ⟨?_, ?_⟩ <;> omega) | (refine Or.inr ⟨?_, ?_⟩ <;> omega) | (refine ⟨?_, ?_⟩ <;> omega))
local macro_rules | `(tactic| walk_at "side") => `(tactic| omega)
local macro_rules | `(tactic| walk_at "side") => `(tactic| (walk_at "len"))
local macro_rules | `(tactic| walk_at "side") => `(tactic| exact ⟨_, by assumption⟩)
local macro_rules | `(tactic| walk_at "side") => `(tactic| exact ⟨_, SqL.of (by walk_at "lk")⟩)
local macro_rules | `(tactic| walk_at "side") => `(tactic| exact ⟨_, rfl⟩)
local macro_rules | `(tactic| walk_at "side") => `(tactic| exact .inl ⟨rfl, _, SqL.of (by walk_at "lk")⟩)
local macro_rules | `(tactic| walk_at "side") => `(tactic| exact .inr (SqT.of (by walk_at "lk")))
local macro_rules | `(tactic| walk_at "side") => `(tactic| exact .inl (SqL.of (by walk_at "lk")))
local macro_rules | `(tactic| walk_at "side") => `(tactic| exact SqT.of (by walk_at "lk"))
local macro_rules | `(tactic| walk_at "side") => `(tactic| exact SqL.of (by walk_at "lk"))
local macro_rules | `(tactic| walk_at "side") => `(tactic| (walk_at "lk"))
local macro_rules | `(tactic| walk_at "side") => `(tactic| rfl)
local macro_rules | `(tactic| walk_at "go1") => `(tactic| ((with_reducible apply Or.inr); (with_reducible apply Exists.intro); (with_reducible apply And.intro); exact rfl))
local macro_rules | `(tactic| walk_at "go1") => `(tactic| ((with_reducible apply Or.inl); (with_reducible apply Exists.intro); (with_reducible apply And.intro); exact rfl))
local macro_rules | `(tactic| walk_at "go1") => `(tactic| ((with_reducible apply And.intro); walk_at "side"))
local macro_rules | `(tactic| walk_at "go1") => `(tactic| ((with_reducible apply And.intro); exact rfl))
local macro_rules | `(tactic| walk_at "go1") => `(tactic| (with_reducible apply Exists.intro))
local macro_rules | `(tactic| walk_at "go1") => `(tactic| (walk_at "proj"))
local macro_rules | `(tactic| walk_at "go1") => `(tactic| ((with_reducible apply eSFld); (walk_at "lk"); assumption; assumption; (simp only [List.length_cons, List.length_nil]; decide); (walk_at "putq")))
local macro_rules | `(tactic| walk_at "go1") => `(tactic| (with_reducible refine iNFF ?_))
local macro_rules | `(tactic| walk_at "go1") => `(tactic| (with_reducible refine iNTT ?_))
local macro_rules | `(tactic| walk_at "go1") => `(tactic| (with_reducible refine iFF ?_))
local macro_rules | `(tactic| walk_at "go1") => `(tactic| (with_reducible refine iTT ?_))
local macro_rules | `(tactic| walk_at "go1") => `(tactic| ((with_reducible apply iListT); (walk_at "num")))
local macro_rules | `(tactic| walk_at "go1") => `(tactic| ((with_reducible apply iTruL); (first | assumption | exact SqL.of (by walk_at "lk"))))
local macro_rules | `(tactic| walk_at "go1") => `(tactic| ((with_reducible apply iTruCons); exact SqL.of (by walk_at "lk")))
local macro_rules | `(tactic| walk_at "go1") => `(tactic| ((with_reducible apply iTruNil); exact SqL.of (by walk_at "lk")))
local macro_rules | `(tactic| walk_at "go1") => `(tactic| ((with_reducible apply iAppend); (walk_at "lk"); (walk_at "len")))
local macro_rules | `(tactic| walk_at "go1") => `(tactic| ((with_reducible apply iCat); (walk_at "lk"); (walk_at "lk"); (walk_at "len")))
local macro_rules | `(tactic| walk_at "go1") => `(tactic| ((with_reducible apply iSlL); (first | assumption | exact SqL.of (by walk_at "lk"))))
local macro_rules | `(tactic| walk_at "go1") => `(tactic| (with_reducible refine iYes ?_))
local macro_rules | `(tactic| walk_at "go1") => `(tactic| (with_reducible refine iForR2 ?_))
local macro_rules | `(tactic| walk_at "go1") => `(tactic| (with_reducible refine iForR1 ?_))
local macro_rules | `(tactic| walk_at "go1") => `(tactic| (with_reducible refine iForS ?_))
local macro_rules | `(tactic| walk_at "go1") => `(tactic| (with_reducible refine iForL ?_))
local macro_rules | `(tactic| walk_at "go1") => `(tactic| (with_reducible refine iLcR1 ?_))
local macro_rules | `(tactic| walk_at "go1") => `(tactic| (with_reducible refine iLcS ?_))
local macro_rules | `(tactic| walk_at "go1") => `(tactic| (with_reducible refine iLcL ?_))
local macro_rules | `(tactic| walk_at "go1") => `(tactic| ((with_reducible apply iNInL); (walk_at "sq"); (walk_at "mapq")))
local macro_rules | `(tactic| walk_at "go1") => `(tactic| ((with_reducible apply iInL); (walk_at "sq"); (walk_at "mapq")))
local macro_rules | `(tactic| walk_at "go1") => `(tactic| (with_reducible refine iWF ?_))
local macro_rules | `(tactic| walk_at "go1") => `(tactic| (with_reducible refine iWT ?_))
local macro_rules | `(tactic| walk_at "go1") => `(tactic| (with_reducible refine iMeth ?_))
local macro_rules | `(tactic| walk_at "go1") => `(tactic| (with_reducible refine iMeth0 ?_))
local macro_rules | `(tactic| walk_at "go1") => `(tactic| (with_reducible refine iProp ?_))
local macro_rules | `(tactic| walk_at "go1") => `(tactic| (with_reducible refine iCon ?_))
local macro_rules | `(tactic| walk_at "go1") => `(tactic| (with_reducible refine iSFld ?_))
local macro_rules | `(tactic| walk_at "go1") => `(tactic| (with_reducible refine iFld ?_))
local macro_rules | `(tactic| walk_at "go1") => `(tactic| (with_reducible refine isi_bl_str ?_))
local macro_rules | `(tactic| walk_at "go1") => `(tactic| (with_reducible refine isi_bl_int ?_))
local macro_rules | `(tactic| walk_at "go1") => `(tactic| (with_reducible refine isi_bl_bool ?_))
local macro_rules | `(tactic| walk_at "go1") => `(tactic| (with_reducible refine isi_str_bool ?_))
local macro_rules | `(tactic| walk_at "go1") => `(tactic| (with_reducible refine isi_str_int ?_))
local macro_rules | `(tactic| walk_at "go1") => `(tactic| (with_reducible refine isi_str_str ?_))
local macro_rules | `(tactic| walk_at "go1") => `(tactic| (with_reducible refine isi_int_str ?_))
local macro_rules | `(tactic| walk_at "go1") => `(tactic| (with_reducible refine isi_int_bool ?_))
local macro_rules | `(tactic| walk_at "go1") => `(tactic| (with_reducible refine isi_int_int ?_))
local macro_rules | `(tactic| walk_at "go1") => `(tactic| (with_reducible refine iLst ?_))
local macro_rules | `(tactic| walk_at "go1") => `(tactic| (with_reducible refine iTup ?_))
local macro_rules | `(tactic| walk_at "go1") => `(tactic| (with_reducible refine iPart ?_))
local macro_rules | `(tactic| walk_at "go1") => `(tactic| (with_reducible refine iNoPart ?_))
local macro_rules | `(tactic| walk_at "go1") => `(tactic| ((with_reducible apply iSetL); (walk_at "lk"); exact rfl; (walk_at "setq")))
local macro_rules | `(tactic| walk_at "go1") => `(tactic| ((with_reducible apply iPartS); walk_at "num"))
local macro_rules | `(tactic| walk_at "go1") => `(tactic| (with_reducible refine iStartS ?_))
local macro_rules | `(tactic| walk_at "go1") => `(tactic| (with_reducible refine iFindS ?_))
local macro_rules | `(tactic| walk_at "go1") => `(tactic| ((with_reducible apply iFindNo); assumption))
local macro_rules | `(tactic| walk_at "go1") => `(tactic| ((with_reducible apply iFindYes); assumption))
local macro_rules | `(tactic| walk_at "go1") => `(tactic| (with_reducible refine iNotInS ?_))
local macro_rules | `(tactic| walk_at "go1") => `(tactic| (with_reducible refine iInS ?_))
local macro_rules | `(tactic| walk_at "go1") => `(tactic| ((with_reducible apply iLenS1); walk_at "num"))
local macro_rules | `(tactic| walk_at "go1") => `(tactic| ((with_reducible apply iAddS); walk_at "num"))
local macro_rules | `(tactic| walk_at "go1") => `(tactic| ((with_reducible apply iSlS); walk_at "num"))
local macro_rules | `(tactic| walk_at "go1") => `(tactic| ((with_reducible apply iSlMid); walk_at "num"; walk_at "toN"; walk_at "toN"))
local macro_rules | `(tactic| walk_at "go1") => `(tactic| ((with_reducible apply iSlFrom); walk_at "num"; walk_at "toN"))
local macro_rules | `(tactic| walk_at "go1") => `(tactic| ((with_reducible apply iSlTo); walk_at "num"; walk_at "toN"))
local macro_rules | `(tactic| walk_at "go1") => `(tactic| ((with_reducible apply iIxS); walk_at "num"; walk_at "ix"))
local macro_rules | `(tactic| walk_at "go1") => `(tactic| ((with_reducible apply iIxT); exact SqT.of (by walk_at "lk"); walk_at "ix"))
local macro_rules | `(tactic| walk_at "go1") => `(tactic| ((with_reducible apply iIxL); exact SqL.of (by walk_at "lk"); walk_at "ix"))
local macro_rules | `(tactic| walk_at "go1") => `(tactic| (with_reducible refine iSl ?_))
local macro_rules | `(tactic| walk_at "go1") => `(tactic| (with_reducible refine iBM ?_))
local macro_rules | `(tactic| walk_at "go1") => `(tactic| (with_reducible refine iM1 ?_))
local macro_rules | `(tactic| walk_at "go1") => `(tactic| ((with_reducible apply iI); walk_at "cond"))
local macro_rules | `(tactic| walk_at "go1") => `(tactic| ((with_reducible apply iNe); exact rfl))
local macro_rules | `(tactic| walk_at "go1") => `(tactic| ((with_reducible apply iEq); exact rfl))
local macro_rules | `(tactic| walk_at "go1") => `(tactic| (with_reducible refine iNext ?_))
local macro_rules | `(tactic| walk_at "go1") => `(tactic| (with_reducible refine iDrop ?_))
local macro_rules | `(tactic| walk_at "go1") => `(tactic| (with_reducible refine iRetN ?_))
local macro_rules | `(tactic| walk_at "go1") => `(tactic| (with_reducible refine iRet ?_))
local macro_rules | `(tactic| walk_at "go1") => `(tactic| (with_reducible refine iIfE ?_))
local macro_rules | `(tactic| walk_at "go1") => `(tactic| (with_reducible refine iNotV ?_))
local macro_rules | `(tactic| walk_at "go1") => `(tactic| (with_reducible refine iOrV ?_))
local macro_rules | `(tactic| walk_at "go1") => `(tactic| (with_reducible refine iAndV ?_))
local macro_rules | `(tactic| walk_at "go1") => `(tactic| (with_reducible refine iNot ?_))
local macro_rules | `(tactic| walk_at "go1") => `(tactic| (with_reducible refine iOr ?_))
local macro_rules | `(tactic| walk_at "go1") => `(tactic| (with_reducible refine iAnd ?_))
local macro_rules | `(tactic| walk_at "go1") => `(tactic| (with_reducible refine iTest ?_))
local macro_rules | `(tactic| walk_at "go1") => `(tactic| (with_reducible refine iB ?_))
local macro_rules | `(tactic| walk_at "go1") => `(tactic| (with_reducible refine iIfS ?_))
local macro_rules | `(tactic| walk_at "go1") => `(tactic| (with_reducible refine iUn ?_))
local macro_rules | `(tactic| walk_at "go1") => `(tactic| (with_reducible refine iU ?_))
local macro_rules | `(tactic| walk_at "go1") => `(tactic| (with_reducible refine iI0 ?_))
local macro_rules | `(tactic| walk_at "go1") => `(tactic| (with_reducible refine iCall ?_))
local macro_rules | `(tactic| walk_at "go1") => `(tactic| (with_reducible refine iCall0 ?_))
local macro_rules | `(tactic| walk_at "go1") => `(tactic| (with_reducible refine iCB ?_))
local macro_rules | `(tactic| walk_at "go1") => `(tactic| (with_reducible refine iNil ?_))
local macro_rules | `(tactic| walk_at "go1") => `(tactic| (with_reducible refine iCons ?_))
local macro_rules | `(tactic| walk_at "go1") => `(tactic| (with_reducible refine iSub ?_))
local macro_rules | `(tactic| walk_at "go1") => `(tactic| (with_reducible refine iName ?_))
local macro_rules | `(tactic| walk_at "go1") => `(tactic| (with_reducible refine iAsg ?_))
local macro_rules | `(tactic| walk_at "go1") => `(tactic| (with_reducible refine iOp ?_))
local macro_rules | `(tactic| walk_at "go1") => `(tactic| (with_reducible refine iC ?_))
local macro_rules | `(tactic| walk_at "go1") => `(tactic| ((with_reducible apply iVar); exact rfl))
local macro_rules | `(tactic| walk_at "go1") => `(tactic| (with_reducible refine iSeq ?_))
local macro_rules | `(tactic| walk_at "fr") => `(tactic| (refine Fr.trans ?_ (Fr.wk (Fr.wk (by assumption))); walk_at "fr"))
local macro_rules | `(tactic| walk_at "fr") => `(tactic| (refine Fr.trans ?_ (Fr.wk1 (by assumption)); walk_at "fr"))
local macro_rules | `(tactic| walk_at "fr") => `(tactic| (refine Fr.trans ?_ (Fr.wk (by assumption)); walk_at "fr"))
local macro_rules | `(tactic| walk_at "fr") => `(tactic| (refine Fr.trans ?_ (by assumption); walk_at "fr"))
local macro_rules | `(tactic| walk_at "fr") => `(tactic| (refine Fr.trans ?_ (Fr.of_same (by assumption)); walk_at "fr"))
local macro_rules | `(tactic| walk_at "fr") => `(tactic| (refine Fr.trans ?_ (Fr.upd_new (by assumption)); walk_at "fr"))
local macro_rules | `(tactic| walk_at "fr") => `(tactic| (refine Fr.trans ?_ Fr.in2; walk_at "fr"))
local macro_rules | `(tactic| walk_at "fr") => `(tactic| (refine Fr.trans ?_ Fr.in1; walk_at "fr"))
local macro_rules | `(tactic| walk_at "fr") => `(tactic| (refine Fr.trans ?_ Fr.in0; walk_at "fr"))
local macro_rules | `(tactic| walk_at "fr") => `(tactic| assumption)
local macro_rules | `(tactic| walk_at "fr") => `(tactic| exact Fr.refl _ _)
local macro_rules | `(tactic| walk_at "proj") => `(tactic| (with_reducible refine (show (Ends.mk _ _ _ _).rt _ _ from ?_); dsimp only))
local macro_rules | `(tactic| walk_at "proj") => `(tactic| (with_reducible refine (show (Ends.mk _ _ _ _).nx _ _ from ?_); dsimp only))
local macro_rules | `(tactic| walk_at "br0") => `(tactic| (with_reducible apply iWDN))
local macro_rules | `(tactic| walk_at "br0") => `(tactic| (with_reducible apply iWD))
local macro_rules | `(tactic| walk_at "br0") => `(tactic| (with_reducible apply iBbn))
local macro_rules | `(tactic| walk_at "br0") => `(tactic| (with_reducible apply iBb))
local macro_rules | `(tactic| walk_at "br0") => `(tactic| (with_reducible apply iBnd))
local macro_rules | `(tactic| walk_at "br0") => `(tactic| (with_reducible apply iBd))
local macro_rules | `(tactic| walk_at "dead") => `(tactic| first | (exfalso; omega) | contradiction)
local macro_rules | `(tactic| walk_at "br") => `(tactic| (walk_at "br0" <;> (intro hbr; (try simp only [V.str.injEq, V.int.injEq, V.bl.injEq, Vk.S_inj, reduceCtorEq, List.cons.injEq, and_true, not_true_eq_false, not_false_eq_true, decide_eq_true_eq, decide_eq_false_iff_not, Nat.reduceEqDiff, List.length_cons, List.length_nil, and_false, false_and, eq_self] at hbr); (try walk_at "dead"))))
local macro_rules | `(tactic| walk_at "new") => `(tactic| (refine fun (p : Addr) (hp : _ = none) => ?_))
local macro_rules | `(tactic| walk_at "go") => `(tactic| repeat' (first | walk_at "go1" | walk_at "br" | walk_at "new" | (refine fun (y z : V) => ?_)))
section
set_option Elab.async false
set_option linter.all false
set_option maxRecDepth 100000
set_option maxHeartbeats 8000000
open PySem PySem.Spec PyProof.Rows L2

def kStrG2_0 : List Nat := [32, 33, 34, 35, 36, 38, 39, 40, 41, 42, 43, 44, 45, 46, 47, 48, 49, 50, 51, 52, 53, 54, 55, 56, 57, 58, 59, 60, 61, 62, 63, 64, 65, 66, 67, 68, 69, 70, 71, 72, 73, 74, 75, 76, 77, 78, 79, 80, 81, 82, 83, 84, 85, 86, 87, 88, 89, 90, 91, 92, 93, 94, 95, 96]
theorem kStrG2_0_eq : PySem.Str.ofString " !\"#$&'()*+,-./0123456789:;<=>?@ABCDEFGHIJKLMNOPQRSTUVWXYZ[\\]^_`" = S kStrG2_0 := by decide +kernel
def kStrG2_1 : List Nat := [97, 98, 99, 100, 101, 102, 103, 104, 105, 106, 107, 108, 109, 110, 111, 112, 113, 114, 115, 116, 117, 118, 119, 120, 121, 122, 123, 124, 125, 126, 10, 9]
theorem kStrG2_1_eq : PySem.Str.ofString "abcdefghijklmnopqrstuvwxyz{|}~\n\t" = S kStrG2_1 := by decide +kernel
def lineL (r : Row) : List Nat := r.n ++ [32] ++ r.p ++ [32] ++ r.l ++ [32] ++ r.s ++ [10]
theorem wide_app {a b : List Nat} (ha : WideOk a) (hb : WideOk b) : WideOk (a ++ b) := fun c hc => (List.mem_append.mp hc).elim (ha c) (hb c)
theorem wide_take {a : List Nat} (n : Nat) (ha : WideOk a) : WideOk (a.take n) := fun c hc => ha c (List.mem_of_mem_take hc)
theorem wide_drop {a : List Nat} (n : Nat) (ha : WideOk a) : WideOk (a.drop n) := fun c hc => ha c (List.mem_of_mem_drop hc)
theorem wide_one {c : Nat} (h : c < 0x110000) : WideOk [c] := fun x hx => by
  rw [List.mem_singleton] at hx
  rw [hx]
  exact h
theorem lineL_wide {r : Row} (h : r.ok) : WideOk (lineL r) := by
  obtain ⟨h1, h2, h3, h4⟩ := h
  have w1 : WideOk [32] := by unfold WideOk; decide
  have w2 : WideOk [10] := by unfold WideOk; decide
  exact wide_app (wide_app (wide_app (wide_app (wide_app (wide_app (wide_app h1.2 w1) h4.2) w1) h2.2) w1) h3.2) w2
theorem lineL_len (r : Row) : (lineL r).length = r.n.length + r.p.length + r.l.length + r.s.length + 4 := by
  unfold lineL
  simp only [List.length_append, List.length_cons, List.length_nil]
  omega
section
variable {P : Program} {w : World} {K : PySem.W.Frag} {mg : Str → Option Value} {base : Heap} {a : Ad} {d : Fd}
def spLine : Sp := fun vs H Q _ => ∃ (x : Addr) (r : Row), vs = [.ref x] ∧ H x = some (.tup r.vs) ∧ r.ok ∧ Q (.str (S (lineL r))) H
theorem scLine : FnScope ["_law_row"] ["_law_row"] (defScope sLine) := ⟨rfl, rfl, rfl, by decide +kernel, rfl, by decide +kernel, by decide +kernel⟩
theorem ok_line (T : Fns K mg a d) : FnOk P w K mg base CX0 1 a.aLine d.dLine ["_law_row"] spLine := by
  refine T.FLine.ok scLine (fun vs H Q E h => ?_) (fun cdv A outer s H vs Q E hr h => ?_)
  · obtain ⟨x, r, rfl, _⟩ := h
    rfl
  · obtain ⟨x, r, rfl, hx, hr0, k⟩ := h
    refine ⟨_, ((pss_one (ps_ret (pe_op op_addS (pe_op op_addS (pe_op op_addS (pe_op op_addS (pe_op op_addS (pe_op op_addS (pe_op op_addS (pe_ix (r := rIxT K) ix_tup (pv 0) pe_int (fun _ _ => rfl)) (pe_strS (l := [32]) (by decide +kernel))) (pe_ix (r := rIxT K) ix_tup (pv 0) pe_int (fun _ _ => rfl))) (pe_strS (l := [32]) (by decide +kernel))) (pe_ix (r := rIxT K) ix_tup (pv 0) pe_int (fun _ _ => rfl))) (pe_strS (l := [32]) (by decide +kernel))) (pe_ix (r := rIxT K) ix_tup (pv 0) pe_int (fun _ _ => rfl))) (pe_strS (l := [10]) (by decide +kernel)))))), ?_⟩
    obtain ⟨⟨h1, _⟩, ⟨h2, _⟩, ⟨h3, _⟩, ⟨h4, _⟩⟩ := id hr0
    walk_at "go"
    exact k
def spCharL : Sp := fun vs H Q _ => ∃ (b g : Addr) (sg : List Nat), vs = [.ref b, .str (S sg)] ∧ BoxB H b g ∧ 1 ≤ sg.length ∧ sg.length ≤ 100 ∧ WideOk sg ∧ ∀ (c : Nat) (H' : Hp), c < 0x110000 → BoxB H' b g → Kp2 b g H H' → Q (.str (S [c])) H'
theorem scCharL : FnScope ["_law_box_here", "_law_signs", "_law_chars"] ["_law_box_here", "_law_signs"] (defScope sCharL) := ⟨rfl, rfl, rfl, by decide +kernel, rfl, by decide +kernel, by decide +kernel⟩
theorem ok_charL (T : Fns K mg a d) : FnOk P w K mg base CX0 2 a.aCharL d.dCharL ["_law_box_here", "_law_signs"] spCharL := by
  have GDraw : FnOk P w K mg base CX0 1 a.aDraw d.dDraw ["_law_box_here", "_law_many"] spDraw := gDraw T
  refine T.FCharL.ok scCharL (fun vs H Q E h => ?_) (fun cdv A outer s H vs Q E hr h => ?_)
  · obtain ⟨b, g, sg, rfl, _⟩ := h
    rfl
  · obtain ⟨b, g, sg, rfl, hB, h1, h2, hw, k⟩ := h
    refine ⟨_, ((pss_cons (ps_set (i := 2) scCharL.nd rfl (Or.inl rfl) (pe_strS (l := kStrG2_0) kStrG2_0_eq))
      (pss_cons (ps_set (i := 2) scCharL.nd rfl (Or.inl rfl) (pe_op op_addS (pv 2) (pe_strS (l := kStrG2_1) kStrG2_1_eq)))
      (pss_cons (ps_if (pt_cmpR op_eq (pe_call GDraw (hr.mono (by decide)) (by rfl) T.gDraw T.FDraw.kp T.bDraw .nil pass0 (pa_cons (pv 0) (pa_cons pe_int pa_nil))) pe_int (nomark _)) (pss_one (ps_set (i := 2) scCharL.nd rfl (Or.inl rfl) (pv 1))) pss_nil)
      (pss_one (ps_ret (pe_ix ix_str (pv 2) (pe_call GDraw (hr.mono (by decide)) (by rfl) T.gDraw T.FDraw.kp T.bDraw .nil pass0 (pa_cons (pv 0) (pa_cons (pe_callB call_lenS (by rfl) T.z_len (by decide +kernel) (pa_cons (pv 2) pa_nil)) pa_nil))) (fun _ _ => rfl)))))))), ?_⟩
    have pick : ∀ (t : List Nat) (H1 : Hp), WideOk t → 1 ≤ t.length → t.length ≤ 1000 → BoxB H1 b g → Kp2 b g H H1 → spDraw [.ref b, .int (t.length : Int)] H1 (fun y H2 => rIxS (.str (S t)) y H2 fun x H3 => Q x H3) E0 := fun t H1 hw h1 h2 hB1 hk1 => by
      refine ⟨b, g, _, rfl, hB1, by omega, fun r2 H2 hr2 hB2 hk2 => ?_⟩
      have hl : r2 < t.length := by omega
      have hc : t[r2]? = some t[r2] := List.getElem?_eq_getElem hl
      walk_at "go"
      exact k _ H2 (hw _ (List.getElem_mem hl)) hB2 (hk1.trans hk2)
    have l0 : kStrG2_0.length ≤ 100 := by decide
    have l1 : kStrG2_1.length ≤ 100 := by decide
    have l2 : 1 ≤ kStrG2_0.length := by decide
    have w01 : WideOk (kStrG2_0 ++ kStrG2_1) := by unfold WideOk; decide
    have l01 : (kStrG2_0 ++ kStrG2_1).length = kStrG2_0.length + kStrG2_1.length := List.length_append
    walk_at "go"
    refine ⟨b, g, _, rfl, hB, by decide, fun r1 H1 hr1 hB1 hk1 => ?_⟩
    walk_at "go"
    · exact pick sg H1 hw h1 (by omega) hB1 hk1
    · exact pick _ H1 w01 (by omega) (by omega) hB1 hk1
def spEdited : Sp := fun vs H Q _ => ∃ (b g : Addr) (sg t : List Nat), vs = [.ref b, .str (S sg), .str (S t)] ∧ BoxB H b g ∧ 1 ≤ sg.length ∧ sg.length ≤ 100 ∧ WideOk sg ∧ t.length ≤ 2900 ∧ WideOk t ∧
  ∀ (t' : List Nat) (H' : Hp), t'.length ≤ t.length + 1 → WideOk t' → BoxB H' b g → Kp2 b g H H' → Q (.str (S t')) H'
theorem scEdited : FnScope ["_law_box_here", "_law_signs", "_law_text", "_law_way", "_law_at", "_law_char_here"] ["_law_box_here", "_law_signs", "_law_text"] (defScope sEdited) := ⟨rfl, rfl, rfl, by decide +kernel, rfl, by decide +kernel, by decide +kernel⟩
theorem ok_edited (T : Fns K mg a d) : FnOk P w K mg base CX0 3 a.aEdited d.dEdited ["_law_box_here", "_law_signs", "_law_text"] spEdited := by
  have GDraw : FnOk P w K mg base CX0 1 a.aDraw d.dDraw ["_law_box_here", "_law_many"] spDraw := gDraw T
  have GCharL : FnOk P w K mg base CX0 2 a.aCharL d.dCharL ["_law_box_here", "_law_signs"] spCharL := ok_charL T
  refine T.FEdited.ok scEdited (fun vs H Q E h => ?_) (fun cdv A outer s H vs Q E hr h => ?_)
  · obtain ⟨b, g, sg, t, rfl, _⟩ := h
    rfl
  · obtain ⟨b, g, sg, t, rfl, hB, h1, h2, hw, ht, htw, k⟩ := h
    refine ⟨_, ((pss_cons (ps_set (i := 3) scEdited.nd rfl (Or.inl rfl) (pe_call GDraw (hr.mono (by decide)) (by rfl) T.gDraw T.FDraw.kp T.bDraw .nil pass0 (pa_cons (pv 0) (pa_cons pe_int pa_nil))))
      (pss_cons (ps_set (i := 4) scEdited.nd rfl (Or.inl rfl) (pe_call GDraw (hr.mono (by decide)) (by rfl) T.gDraw T.FDraw.kp T.bDraw .nil pass0 (pa_cons (pv 0) (pa_cons (pe_op op_add (pe_callB call_lenS (by rfl) T.z_len (by decide +kernel) (pa_cons (pv 2) pa_nil)) pe_int) pa_nil))))
      (pss_cons (ps_set (i := 5) scEdited.nd rfl (Or.inl rfl) (pe_call GCharL (hr.mono (by decide)) (by rfl) T.gCharL T.FCharL.kp T.bCharL .nil pass0 (pa_cons (pv 0) (pa_cons (pv 1) pa_nil))))
      (pss_cons (ps_if (pt_cmpR op_eq (pv 3) pe_int (nomark _)) (pss_one (ps_ret (pe_op op_addS (pe_op op_addS (pe_slice sl_str (pv 2) po_none (po_some (pv 4))) (pv 5)) (pe_slice sl_str (pv 2) (po_some (pv 4)) po_none)))) pss_nil)
      (pss_cons (ps_if (pt_cmpR op_eq (pv 3) pe_int (nomark _)) (pss_one (ps_ret (pe_op op_addS (pe_slice sl_str (pv 2) po_none (po_some (pv 4))) (pe_slice sl_str (pv 2) (po_some (pe_op op_add (pv 4) pe_int)) po_none)))) pss_nil)
      (pss_one (ps_ret (pe_op op_addS (pe_op op_addS (pe_slice sl_str (pv 2) po_none (po_some (pv 4))) (pv 5)) (pe_slice sl_str (pv 2) (po_some (pe_op op_add (pv 4) pe_int)) po_none)))))))))), ?_⟩
    walk_at "go"
    refine ⟨b, g, _, rfl, hB, by decide, fun way H1 hway hB1 hk1 => ?_⟩
    walk_at "go"
    refine ⟨b, g, _, rfl, hB1, by omega, fun at_ H2 hat hB2 hk2 => ?_⟩
    walk_at "go"
    refine ⟨b, g, sg, rfl, hB2, h1, h2, hw, fun c H3 hc hB3 hk3 => ?_⟩
    have hk03 := hk1.trans (hk2.trans hk3)
    have wc : WideOk [c] := wide_one hc
    have lt := List.length_take (l := t) (i := at_)
    have ld := List.length_drop (l := t) (i := at_)
    have ld1 := List.length_drop (l := t) (i := at_ + 1)
    have lc : ([c] : List Nat).length = 1 := rfl
    walk_at "go"
    · exact k _ H3 (by simp only [List.length_append, List.length_take, List.length_drop, List.length_cons, List.length_nil]; omega) (wide_app (wide_app (wide_take _ htw) wc) (wide_drop _ htw)) hB3 hk03
    · exact k _ H3 (by simp only [List.length_append, List.length_take, List.length_drop, List.length_cons, List.length_nil]; omega) (wide_app (wide_take _ htw) (wide_drop _ htw)) hB3 hk03
    · exact k _ H3 (by simp only [List.length_append, List.length_take, List.length_drop, List.length_cons, List.length_nil]; omega) (wide_app (wide_app (wide_take _ htw) wc) (wide_drop _ htw)) hB3 hk03
end
end
section
set_option Elab.async false
set_option linter.all false
set_option maxRecDepth 100000
set_option maxHeartbeats 8000000
open PySem PySem.Spec PyProof.Rows L2


theorem iPopAt {H : Hp} {Q : VK} {p : Addr} {xs : List V} {r : Nat} {y : V} (h : H p = some (.lst xs)) (hr : r < 2 ^ 62) (hy : xs[r]? = some y) (k : Q y (upd H p (.lst (xs.eraseIdx r)))) : rPopAt (.ref p) [.int (r : Int)] H Q := by
  obtain ⟨j, j1, j2, _⟩ := atI_get (atI_nat hy)
  have hrq : r < xs.length := (List.getElem?_eq_some_iff.mp hy).1
  have hj : j = r := by
    have h3 : seqIndex? (r : Int) xs.length = some r := by
      unfold seqIndex?
      have h4 : ¬ ((r : Int) < 0) := by omega
      simp [h4, hrq]
    rw [h3] at j1
    exact (Option.some.inj j1).symm
  subst hj
  exact ⟨p, xs, _, j, y, rfl, rfl, h, by omega, by omega, j1, hy, k⟩
theorem none_back {H H' : Hp} {p : Addr} (s : Same H H') (h : H' p = none) : H p = none := by
  cases hz : H p with
  | none => rfl
  | some o =>
    have := s _ _ hz
    rw [h] at this
    cases this
theorem cut_permA {α : Type} {q : List α} {r : Nat} {c : α} (h : q[r]? = some c) : (c :: (q.take r ++ q.drop (r + 1))).Perm q := by
  have hr : r < q.length := (List.getElem?_eq_some_iff.mp h).1
  have hc : q[r] = c := (List.getElem?_eq_some_iff.mp h).2
  have e : q = q.take r ++ c :: q.drop (r + 1) := by
    conv => lhs; rw [← List.take_append_drop r q]
    rw [List.drop_eq_getElem_cons hr, hc]
  conv => rhs; rw [e]
  exact List.perm_middle.symm
def stMx (b u p q : Addr) (v4 : Option V) : L2.St := [some (.ref b), some (.ref u), some (.ref p), some (.ref q), v4]
/-- the box stands and what was new may have changed -/
theorem box_upd {H : Hp} {b g p : Addr} {o : HO} (h : BoxB H b g) (hp : p ≠ b ∧ p ≠ g) : BoxB (upd H p o) b g := by
  obtain ⟨x, m, sd, gs, h1, h2, h3⟩ := h
  exact ⟨x, m, sd, gs, by rw [upd_ne hp.1.symm]; exact h1, by rw [upd_ne hp.2.symm]; exact h2, h3⟩
theorem kp2_upd {H H' : Hp} {b g p : Addr} {o : HO} (k : Kp2 b g H H') (hn : H p = none) : Kp2 b g H (upd H' p o) := fun c x h1 h2 h3 => by
  rw [upd_ne (ne_of_none h3 hn)]
  exact k c x h1 h2 h3
theorem none_kp {H H' : Hp} {b g p : Addr} (hB : BoxB H' b g) (k : Kp2 b g H H') (hp : H' p = none) : H p = none := by
  cases hz : H p with
  | none => rfl
  | some o =>
    obtain ⟨⟨ob, hob⟩, ⟨og, hog⟩⟩ := hB.al
    have := k _ _ (ne_of_none hob hp).symm (ne_of_none hog hp).symm hz
    rw [hp] at this
    cases this
theorem off_box {H : Hp} {b g p : Addr} (hB : BoxB H b g) (hp : H p = none) : p ≠ b ∧ p ≠ g := by
  obtain ⟨⟨ob, hob⟩, ⟨og, hog⟩⟩ := hB.al
  exact ⟨(ne_of_none hob hp).symm, (ne_of_none hog hp).symm⟩
section
variable {P : Program} {w : World} {K : PySem.W.Frag} {mg : Str → Option Value} {base : Heap} {a : Ad} {d : Fd}
def spMixed : Sp := fun vs H Q _ => ∃ (b g u : Addr) (ts : List (List Nat)), vs = [.ref b, .ref u] ∧ BoxB H b g ∧ H u = some (.lst (ts.map fun t => V.str (S t))) ∧ (u ≠ b ∧ u ≠ g) ∧ ts.length ≤ 20 ∧
  ∀ (q : Addr) (ts' : List (List Nat)) (H' : Hp), H q = none → H' q = some (.lst (ts'.map fun t => V.str (S t))) → ts'.Perm ts → BoxB H' b g → Kp2 b g H H' → Q (.ref q) H'
theorem scMixed : FnScope ["_law_box_here", "_law_lines", "_law_rest", "_law_mixed_here", "_law_k"] ["_law_box_here", "_law_lines"] (defScope sMixed) := ⟨rfl, rfl, rfl, by decide +kernel, rfl, by decide +kernel, by decide +kernel⟩
theorem ok_mixed (T : Fns K mg a d) : FnOk P w K mg base CX0 2 a.aMixed d.dMixed ["_law_box_here", "_law_lines"] spMixed := by
  have GDraw : FnOk P w K mg base CX0 1 a.aDraw d.dDraw ["_law_box_here", "_law_many"] spDraw := gDraw T
  refine T.FMixed.ok scMixed (fun vs H Q E h => ?_) (fun cdv A outer s H vs Q E hr h => ?_)
  · obtain ⟨b, g, u, ts, rfl, _⟩ := h
    rfl
  · obtain ⟨b, g, u, ts, rfl, hB, hu, hub, hl, k⟩ := h
    refine ⟨_, ((pss_cons (ps_set (i := 2) scMixed.nd rfl (Or.inl rfl) (pe_callTy call_list_of (by rfl) T.z_list (by decide +kernel) (pa_cons (pv 1) pa_nil)))
      (pss_cons (ps_set (i := 3) scMixed.nd rfl (Or.inl rfl) (pe_lst pa_nil))
      (pss_cons (ps_for PassesOwn.never rfl (pi_range1 (by rfl) T.z_range (pa_cons (pe_callB call_len_seq (by rfl) T.z_len (by decide +kernel) (pa_cons (pv 1) pa_nil)) pa_nil)) (pg_name (i := 4) scMixed.nd rfl (Or.inl rfl)) (pss_one (ps_expr (pe_bm PySem.F.plainAttrs_list PySem.F.slot_list_append PySem.F.type_list_append mt_append (pv 3) (pa_cons (pe_bm PySem.F.plainAttrs_list PySem.F.slot_list_pop PySem.F.type_list_pop mt_popAt (pv 2) (pa_cons (pe_call GDraw (hr.mono (by decide)) (by rfl) T.gDraw T.FDraw.kp T.bDraw .nil pass0 (pa_cons (pv 0) (pa_cons (pe_callB call_len_seq (by rfl) T.z_len (by decide +kernel) (pa_cons (pv 2) pa_nil)) pa_nil))) pa_nil)) pa_nil)))))
      (pss_one (ps_ret (pv 3))))))), ?_⟩
    have hul : (ts.map fun t => V.str (S t)).length = ts.length := List.length_map _
    walk_at "go"
    rename_i p hp q hq
    have s1 : Same H (upd H p (.lst (ts.map fun t => V.str (S t)))) := upd_laid hp
    have hp1 : (upd H p (.lst (ts.map fun t => V.str (S t)))) p = some (.lst (ts.map fun t => V.str (S t))) := upd_same
    have hB1 := hB.same s1
    have np := off_box hB hp
    generalize upd H p (.lst (ts.map fun t => V.str (S t))) = H1 at s1 hp1 hB1 hq
    have pq : p ≠ q := ne_of_none hp1 hq
    have nq := off_box hB1 hq
    have hq0 : H q = none := none_back s1 hq
    have s2 : Same H (upd H1 q (.lst [])) := Same.trans s1 (upd_laid hq)
    have hp2 : (upd H1 q (.lst [])) p = some (.lst (ts.map fun t => V.str (S t))) := upd_laid hq _ _ hp1
    have hq2 : (upd H1 q (.lst [])) q = some (.lst (([] : List (List Nat)).map fun t => V.str (S t))) := upd_same
    have hB2 := hB.same s2
    generalize upd H1 q (.lst []) = H2 at s2 hp2 hq2 hB2
    rw [hul, Int.toNat_natCast]
    refine for_R (fun i σ H' => Stop (∃ (rest done : List (List Nat)) (v4 : Option V), σ = stMx b u p q v4 ∧ H' p = some (.lst (rest.map fun t => V.str (S t))) ∧ H' q = some (.lst (done.map fun t => V.str (S t))) ∧ (done ++ rest).Perm ts ∧ done.length = i ∧ BoxB H' b g ∧ Kp2 b g H H'))
      ⟨ts, [], none, rfl, hp2, hq2, List.Perm.refl _, rfl, hB2, Same.kp2 s2 b g⟩ ?_ ?_
    · rintro i σ H3 hi ⟨rest, done, v4, rfl, hp3, hq3, hper, hdl, hB3, hk3⟩
      have hrl := hper.length_eq
      rw [List.length_append] at hrl
      have hrm : (rest.map fun t => V.str (S t)).length = rest.length := List.length_map _
      walk_at "go"
      refine ⟨b, g, _, rfl, hB3, by rw [hrm]; omega, fun r H4 hr4 hB4 hk4 => ?_⟩
      rw [hrm] at hr4
      have hp4 := hk4 _ _ np.1 np.2 hp3
      have hq4 := hk4 _ _ nq.1 nq.2 hq3
      have hrr : r < rest.length := by omega
      obtain ⟨t, ht⟩ : ∃ t, rest[r]? = some t := ⟨_, List.getElem?_eq_getElem hrr⟩
      walk_at "go"
      refine iPopAt hp4 (by omega) (by rw [List.getElem?_map, ht]; rfl) ?_
      have hp5 : (upd H4 p (.lst ((rest.map fun t => V.str (S t)).eraseIdx r))) p = some (.lst ((rest.take r ++ rest.drop (r + 1)).map fun t => V.str (S t))) := by rw [upd_same, erase_map]
      have hq5 : (upd H4 p (.lst ((rest.map fun t => V.str (S t)).eraseIdx r))) q = some (.lst (done.map fun t => V.str (S t))) := by rw [upd_ne pq.symm]; exact hq4
      have hB5 := box_upd (o := .lst ((rest.map fun t => V.str (S t)).eraseIdx r)) hB4 np
      have hk5 := kp2_upd (o := .lst ((rest.map fun t => V.str (S t)).eraseIdx r)) (hk3.trans hk4) hp
      generalize upd H4 p (.lst ((rest.map fun t => V.str (S t)).eraseIdx r)) = H5 at hp5 hq5 hB5 hk5
      walk_at "go"
      refine ⟨q, _, _, rfl, rfl, hq5, by rw [List.length_map, sizeLine_eq]; omega, ?_⟩
      refine ⟨rest.take r ++ rest.drop (r + 1), done ++ [t], _, rfl, ?_, ?_, ?_, ?_, box_upd hB5 nq, kp2_upd hk5 hq0⟩
      · rw [upd_ne pq]
        exact hp5
      · rw [upd_same, List.map_append]
        rfl
      · rw [List.append_assoc]
        exact ((cut_permA ht).append_left done).trans hper
      · rw [List.length_append, hdl]
        rfl
    · rintro σ H3 ⟨rest, done, v4, rfl, hp3, hq3, hper, hdl, hB3, hk3⟩
      have hrl := hper.length_eq
      rw [List.length_append] at hrl
      have hr0 : rest = [] := List.length_eq_zero_iff.mp (by omega)
      subst hr0
      rw [List.append_nil] at hper
      walk_at "go"
      exact k q done H3 hq0 hq3 hper hB3 hk3
end
end
section
set_option Elab.async false
set_option linter.all false
set_option maxRecDepth 100000
set_option maxHeartbeats 8000000
open PySem PySem.Spec PyProof.Rows L2

def kStrG4_0 : List Nat := [97, 98, 99, 100, 101, 102, 103, 104, 105, 106, 107, 108, 109, 110, 111, 112, 113, 114, 115, 116, 117, 118, 119, 120, 121, 122]
theorem kStrG4_0_eq : PySem.Str.ofString "abcdefghijklmnopqrstuvwxyz" = S kStrG4_0 := by decide +kernel
def kStrG4_1 : List Nat := [105, 110, 110, 101, 114]
theorem kStrG4_1_eq : PySem.Str.ofString "inner" = S kStrG4_1 := by decide +kernel
def kStrG4_2 : List Nat := [111, 112, 101, 110, 105, 110, 103]
theorem kStrG4_2_eq : PySem.Str.ofString "opening" = S kStrG4_2 := by decide +kernel
structure EnI (H0 : Hp) (b g u : Addr) (ps : List (Addr × Row)) (rw : Addr) (H : Hp) (r : Row) : Prop where
  hB : BoxB H b g
  k : Kp2 b g H0 H
  hR : RowsAt H u ps
  hrw : H rw = some (.lst r.vs)
  hr : r.ok
  n1 : H0 rw = none
  nb : rw ≠ b ∧ rw ≠ g ∧ u ≠ rw
  ub : u ≠ b ∧ u ≠ g
theorem EnI.asg {H0 : Hp} {b g u : Addr} {ps : List (Addr × Row)} {rw : Addr} {H : Hp} {r : Row} (h : EnI H0 b g u ps rw H r) {j : Nat} {t : List Nat} (hj : j ≤ 3) (ht : Tx t) :
    EnI H0 b g u ps rw (upd H rw (.lst (r.vs.set j (.str (S t))))) (r.put j t) := by
  have nt : ∀ {x : Addr} {xs : List V}, H x = some (.tup xs) → x ≠ rw := fun {x xs} hx z => by
    rw [z, h.hrw] at hx
    cases hx
  refine ⟨?_, ?_, ⟨?_, fun q hq => ?_⟩, ?_, put_ok h.hr ht, h.n1, h.nb, h.ub⟩
  · obtain ⟨x, mm, sd, gs, h1, h2, h3⟩ := h.hB
    exact ⟨x, mm, sd, gs, by rw [upd_ne h.nb.1.symm]; exact h1, by rw [upd_ne h.nb.2.1.symm]; exact h2, h3⟩
  · intro c o2 h1 h2 h3
    have hne : c ≠ rw := ne_of_none h3 h.n1
    rw [upd_ne hne]
    exact h.k c o2 h1 h2 h3
  · rw [upd_ne h.nb.2.2]
    exact h.hR.1
  · obtain ⟨h1, h2⟩ := h.hR.2 q hq
    exact ⟨by rw [upd_ne (nt h1)]; exact h1, h2⟩
  · rw [upd_same, put_vs r t hj]
theorem EnI.draw {H0 : Hp} {b g u : Addr} {ps : List (Addr × Row)} {rw : Addr} {H H' : Hp} {r : Row} (h : EnI H0 b g u ps rw H r) (hB : BoxB H' b g) (k : Kp2 b g H H') : EnI H0 b g u ps rw H' r :=
  ⟨hB, h.k.trans k, h.hR.kp h.hB h.ub k, k _ _ h.nb.1 h.nb.2.1 h.hrw, h.hr, h.n1, h.nb, h.ub⟩
theorem EnI.same {H0 : Hp} {b g u : Addr} {ps : List (Addr × Row)} {rw : Addr} {H H' : Hp} {r : Row} (h : EnI H0 b g u ps rw H r) (s : Same H H') : EnI H0 b g u ps rw H' r := h.draw (h.hB.same s) (Same.kp2 s b g)
def Row.short (r : Row) : Prop := r.n.length ≤ 8 ∧ r.l.length ≤ 8 ∧ r.s.length ≤ 8 ∧ r.p.length ≤ 8
theorem put_short {r : Row} {j : Nat} {t : List Nat} (hr : r.short) (ht : t.length ≤ 8) : (r.put j t).short := by
  obtain ⟨h1, h2, h3, h4⟩ := hr
  unfold Row.put
  split
  · exact ⟨ht, h2, h3, h4⟩
  · exact ⟨h1, ht, h3, h4⟩
  · exact ⟨h1, h2, ht, h4⟩
  · exact ⟨h1, h2, h3, ht⟩
theorem vs_atS {r : Row} (hr : r.ok) (hs : r.short) {j : Nat} (h : j ≤ 3) : ∃ t, r.vs[j]? = some (.str (S t)) ∧ Tx t ∧ t.length ≤ 8 := by
  obtain ⟨h1, h2, h3, h4⟩ := hr
  obtain ⟨s1, s2, s3, s4⟩ := hs
  match j, h with
  | 0, _ => exact ⟨_, rfl, h1, s1⟩
  | 1, _ => exact ⟨_, rfl, h2, s2⟩
  | 2, _ => exact ⟨_, rfl, h3, s3⟩
  | 3, _ => exact ⟨_, rfl, h4, s4⟩
theorem az_k0 : kStrG4_0 = azL := by decide +kernel
def stF (b : Addr) (sg : List Nat) (u rw : Addr) (part : Nat) : L2.St := [some (.ref b), some (.str (S sg)), some (.ref u), some (.str (S azL)), some (.ref rw), some (.int (part : Int))]
def tF5 : TS := fun D σ H => ∃ (H0 : Hp) (b g : Addr) (sg : List Nat) (u : Addr) (ps : List (Addr × Row)) (rw : Addr) (part : Nat) (r : Row), σ = stF b sg u rw part ∧ ps.length ≤ 20 ∧ (∀ q ∈ ps, q.2.short) ∧ EnI H0 b g u ps rw H r ∧ r.short ∧
  ∀ r' H', EnI H0 b g u ps rw H' r' → r'.short → D.nx (stF b sg u rw part) H'
section
variable {P : Program} {w : World} {K : PySem.W.Frag} {mg : Str → Option Value} {base : Heap} {a : Ad} {d : Fd}
def spLineL : Sp := fun vs H Q _ => ∃ (x : Addr) (r : Row), vs = [.ref x] ∧ H x = some (.lst r.vs) ∧ r.ok ∧ Q (.str (S (lineL r))) H
theorem ok_lineL (T : Fns K mg a d) : FnOk P w K mg base CX0 1 a.aLine d.dLine ["_law_row"] spLineL := by
  refine T.FLine.ok scLine (fun vs H Q E h => ?_) (fun cdv A outer s H vs Q E hr h => ?_)
  · obtain ⟨x, r, rfl, _⟩ := h
    rfl
  · obtain ⟨x, r, rfl, hx, hr0, k⟩ := h
    refine ⟨_, ((pss_one (ps_ret (pe_op op_addS (pe_op op_addS (pe_op op_addS (pe_op op_addS (pe_op op_addS (pe_op op_addS (pe_op op_addS (pe_ix (r := rIxL K) ix_list (pv 0) pe_int (fun _ _ => rfl)) (pe_strS (l := [32]) (by decide +kernel))) (pe_ix (r := rIxL K) ix_list (pv 0) pe_int (fun _ _ => rfl))) (pe_strS (l := [32]) (by decide +kernel))) (pe_ix (r := rIxL K) ix_list (pv 0) pe_int (fun _ _ => rfl))) (pe_strS (l := [32]) (by decide +kernel))) (pe_ix (r := rIxL K) ix_list (pv 0) pe_int (fun _ _ => rfl))) (pe_strS (l := [10]) (by decide +kernel)))))), ?_⟩
    obtain ⟨⟨h1, _⟩, ⟨h2, _⟩, ⟨h3, _⟩, ⟨h4, _⟩⟩ := id hr0
    walk_at "go"
    exact k
def spFurther : Sp := fun vs H Q _ => ∃ (b g : Addr) (sg : List Nat) (u : Addr) (ps : List (Addr × Row)), vs = [.ref b, .str (S sg), .ref u] ∧ BoxB H b g ∧ 1 ≤ sg.length ∧ sg.length ≤ 100 ∧ WideOk sg ∧ RowsAt H u ps ∧ (u ≠ b ∧ u ≠ g) ∧ ps.length ≤ 20 ∧ (∀ q ∈ ps, q.2.short) ∧
  ∀ (t : List Nat) (H' : Hp), t.length ≤ 40 → WideOk t → BoxB H' b g → Kp2 b g H H' → Q (.str (S t)) H'
theorem scFurther : FnScope ["_law_box_here", "_law_signs", "_law_rows_here", "_law_lowers", "_law_row", "_law_part"] ["_law_box_here", "_law_signs", "_law_rows_here"] (defScope sFurther) := ⟨rfl, rfl, rfl, by decide +kernel, rfl, by decide +kernel, by decide +kernel⟩
theorem ok_further (T : Fns K mg a d) : FnOk P w K mg base CX0 3 a.aFurther d.dFurther ["_law_box_here", "_law_signs", "_law_rows_here"] spFurther := by
  have GDraw : FnOk P w K mg base CX0 1 a.aDraw d.dDraw ["_law_box_here", "_law_many"] spDraw := gDraw T
  have GWord : FnOk P w K mg base CX0 2 a.aWord d.dWord ["_law_box_here", "_law_signs", "_law_most", "_law_shift"] spWord := ok_word T
  have GLine : FnOk P w K mg base CX0 1 a.aLine d.dLine ["_law_row"] spLineL := ok_lineL T
  refine T.FFurther.ok scFurther (fun vs H Q E h => ?_) (fun cdv A outer s H vs Q E hr h => ?_)
  · obtain ⟨b, g, sg, u, ps, rfl, _⟩ := h
    rfl
  · obtain ⟨b, g, sg, u, ps, rfl, hB, hs1, hs2, hsw, hR, hub, hps, hsh, k⟩ := h
    refine ⟨_, ((pss_cons (ps_set (i := 3) scFurther.nd rfl (Or.inl rfl) (pe_strS (l := kStrG4_0) kStrG4_0_eq))
      (pss_cons (ps_set (i := 4) scFurther.nd rfl (Or.inl rfl) (pe_lst (pa_cons (pe_call GWord (hr.mono (by decide)) (by rfl) T.gWord T.FWord.kp T.bWord .nil pass0 (pa_cons (pv 0) (pa_cons (pv 3) (pa_cons pe_int (pa_cons pe_int pa_nil))))) (pa_cons (pe_call GWord (hr.mono (by decide)) (by rfl) T.gWord T.FWord.kp T.bWord .nil pass0 (pa_cons (pv 0) (pa_cons (pv 1) (pa_cons pe_int (pa_cons pe_int pa_nil))))) (pa_cons (pe_call GWord (hr.mono (by decide)) (by rfl) T.gWord T.FWord.kp T.bWord .nil pass0 (pa_cons (pv 0) (pa_cons (pv 1) (pa_cons pe_int (pa_cons pe_int pa_nil))))) (pa_cons (pe_strS (l := kStrG4_1) kStrG4_1_eq) pa_nil))))))
      (pss_cons (ps_asg (pe_ix (r := rIxL K) ix_list (pe_lst (pa_cons (pe_strS (l := kStrG4_1) kStrG4_1_eq) (pa_cons (pe_strS (l := kStrG4_2) kStrG4_2_eq) (pa_cons (pe_strS (l := [97, 110, 121]) (by decide +kernel)) pa_nil)))) (pe_call GDraw (hr.mono (by decide)) (by rfl) T.gDraw T.FDraw.kp T.bDraw .nil pass0 (pa_cons (pv 0) (pa_cons pe_int pa_nil))) (fun _ _ => rfl)) (pg_sub (pv 4) pe_int set_list))
      (pss_cons (ps_set (i := 5) scFurther.nd rfl (Or.inl rfl) (pe_call GDraw (hr.mono (by decide)) (by rfl) T.gDraw T.FDraw.kp T.bDraw .nil pass0 (pa_cons (pv 0) (pa_cons pe_int pa_nil))))
      (pss_cons (PS.imp (t' := tF5) (ps_if (PW.pt (pw_and (pt_cmpR op_lt (pv 5) pe_int (nomark _)) (pw_and1 (pt_cmpR (op_neD hr.units) (pv 2) (pe_lst pa_nil) (nomark _))))) (pss_one (ps_asg (pe_ix (r := rIxT K) ix_tup (pe_ix (r := rIxL K) ix_list (pv 2) (pe_call GDraw (hr.mono (by decide)) (by rfl) T.gDraw T.FDraw.kp T.bDraw .nil pass0 (pa_cons (pv 0) (pa_cons (pe_callB call_len_seq (by rfl) T.z_len (by decide +kernel) (pa_cons (pv 2) pa_nil)) pa_nil))) (fun _ _ => rfl)) (pv 5) (fun _ _ => rfl)) (pg_sub (pv 4) (pv 5) set_list))) pss_nil) ?h5)
      (pss_cons (ps_if (pt_cmpR op_eq (pe_call GDraw (hr.mono (by decide)) (by rfl) T.gDraw T.FDraw.kp T.bDraw .nil pass0 (pa_cons (pv 0) (pa_cons pe_int pa_nil))) pe_int (nomark _)) (pss_one (ps_ret (pe_strS (l := [10]) (by decide +kernel)))) pss_nil)
      (pss_one (ps_ret (pe_call GLine (hr.mono (by decide)) (by rfl) T.gLine T.FLine.kp T.bLine .nil pass0 (pa_cons (pv 4) pa_nil))))))))))), ?_⟩
    case h5 =>
      rintro ⟨D1, D2, D3, D4⟩ σ H ⟨H0, b, g, sg, u, ps, rw, part, r, rfl, hps, hsh, I, hrs, kk⟩
      walk_at "go"
      · rename_i hp4 p hp
        have s1 : Same H (upd H p (.lst [])) := upd_laid hp
        have I1 := I.same s1
        refine ⟨.list (ps.map fun q => q.2.py), .list [], .lst (SqL.of I1.hR.1) (dp_rows ps fun q hq => (I1.hR.2 q hq).1), .lst (SqL.of upd_same) .nil, shaped_rows (fun q hq => (I1.hR.2 q hq).2), shaped_nil, ?_⟩
        rw [eqv_nil]
        generalize upd H p (.lst []) = H1 at I1
        refine ⟨_, rfl, ite2 (fun h => ?_) (fun h => ?_)⟩
        case refine_2 => exact kk _ _ I1 hrs
        have hpos : 1 ≤ ps.length := by
          cases ps with
          | nil => cases h
          | cons x r => exact Nat.succ_le_succ (Nat.zero_le _)
        have hR1 := I1.hR.1
        walk_at "go"
        refine ⟨b, g, _, rfl, I1.hB, by rw [List.length_map]; omega, fun r1 H2 hr1 hB2 hk2 => ?_⟩
        have I2 := I1.draw hB2 hk2
        rw [List.length_map] at hr1
        have hr1' : r1 < ps.length := by omega
        obtain ⟨qo, hqo, hato⟩ : ∃ q ∈ ps, (ps.map fun q => V.ref q.1)[r1]? = some (V.ref q.1) := ⟨ps[r1], List.getElem_mem hr1', by rw [List.getElem?_map, List.getElem?_eq_getElem hr1']; rfl⟩
        have hR2 := I2.hR.1
        obtain ⟨hqt, hqok⟩ := I2.hR.2 qo hqo
        obtain ⟨t, hat, ht, hts⟩ := vs_atS hqok (hsh qo hqo) (j := part) (by omega)
        walk_at "go"
        refine ⟨rw, _, _, part, rfl, rfl, I2.hrw, ixN_w (n := 4) (by omega), ?_⟩
        exact kk _ _ (I2.asg (by omega) ht) (put_short hrs hts)
      · exact kk _ _ I hrs
    have l4 : kStrG4_1.length ≤ 8 := by decide
    have az3 : ∀ c ∈ kStrG4_0, c < 0x110000 := by decide
    have wz : WideOk kStrG4_1 := by unfold WideOk; decide
    walk_at "go"
    refine ⟨b, g, kStrG4_0, 8, 3, rfl, hB, by decide, by decide, by decide, by decide, by decide, fun w1 H5 a1 a2 a3 hB5 hk5 => ?_⟩
    have hR5 := hR.kp hB hub hk5
    walk_at "go"
    refine ⟨b, g, sg, 6, 4, rfl, hB5, hs1, hs2, by decide, by decide, by decide, fun w2 H6 c1 c2 c3 hB6 hk6 => ?_⟩
    have hR6 := hR5.kp hB5 hub hk6
    have k6 := hk5.trans hk6
    walk_at "go"
    refine ⟨b, g, sg, 6, 3, rfl, hB6, hs1, hs2, by decide, by decide, by decide, fun w3 H7 d1 d2 d3 hB7 hk7 => ?_⟩
    have hR7 := hR6.kp hB6 hub hk7
    have k7 := k6.trans hk7
    walk_at "go"
    rename_i rw hrw L hL
    have n7 := off_box hB7 hrw
    have hn0 : H rw = none := none_kp hB7 k7 hrw
    have hr : Row.ok ⟨w1, w2, w3, kStrG4_1⟩ := ⟨(⟨by omega, fun c hc => az3 c (a3 c hc)⟩ : Tx w1), (⟨by omega, fun c hc => hsw c (c3 c hc)⟩ : Tx w2), (⟨by omega, fun c hc => hsw c (d3 c hc)⟩ : Tx w3), (⟨by omega, wz⟩ : Tx kStrG4_1)⟩
    have hrs : Row.short ⟨w1, w2, w3, kStrG4_1⟩ := ⟨(by omega : w1.length ≤ 8), (by omega : w2.length ≤ 8), (by omega : w3.length ≤ 8), l4⟩
    have s7 : Same H7 (upd H7 rw (.lst [V.str (S w1), V.str (S w2), V.str (S w3), V.str (S kStrG4_1)])) := upd_laid hrw
    have I7 : EnI H b g u ps rw (upd H7 rw (.lst [V.str (S w1), V.str (S w2), V.str (S w3), V.str (S kStrG4_1)])) ⟨w1, w2, w3, kStrG4_1⟩ :=
      ⟨hB7.same s7, k7.trans (Same.kp2 s7 b g), hR7.same s7, upd_same, hr, hn0, ⟨n7.1, n7.2, ne_of_none hR7.1 hrw⟩, hub⟩
    generalize upd H7 rw (.lst [V.str (S w1), V.str (S w2), V.str (S w3), V.str (S kStrG4_1)]) = H8 at I7 hL
    generalize hr0 : (⟨w1, w2, w3, kStrG4_1⟩ : Row) = r0 at I7 hr hrs
    have n8 := off_box I7.hB hL
    have s9 : Same H8 (upd H8 L (.lst [V.str (S kStrG4_1), V.str (S kStrG4_2), V.str (S [97, 110, 121])])) := upd_laid hL
    have I9 := I7.same s9
    have hL9 : (upd H8 L (.lst [V.str (S kStrG4_1), V.str (S kStrG4_2), V.str (S [97, 110, 121])])) L = some (.lst [V.str (S kStrG4_1), V.str (S kStrG4_2), V.str (S [97, 110, 121])]) := upd_same
    generalize upd H8 L (.lst [V.str (S kStrG4_1), V.str (S kStrG4_2), V.str (S [97, 110, 121])]) = H9 at I9 hL9
    refine ⟨b, g, _, rfl, I9.hB, by decide, fun r2 H10 hr2 hB10 hk10 => ?_⟩
    have I10 := I9.draw hB10 hk10
    have hL10 := hk10 _ _ n8.1 n8.2 hL9
    obtain ⟨pl, hpl, hplx, hpll⟩ : ∃ pl : List Nat, ([V.str (S kStrG4_1), V.str (S kStrG4_2), V.str (S [97, 110, 121])] : List V)[r2]? = some (V.str (S pl)) ∧ Tx pl ∧ pl.length ≤ 8 := by
      match r2, (by omega : r2 < 3) with
      | 0, _ => exact ⟨_, rfl, by unfold Tx; decide, by decide⟩
      | 1, _ => exact ⟨_, rfl, by unfold Tx; decide, by decide⟩
      | 2, _ => exact ⟨_, rfl, by unfold Tx; decide, by decide⟩
    walk_at "go"
    refine ⟨rw, _, _, 3, rfl, rfl, I10.hrw, rfl, ?_⟩
    have I11 := I10.asg (j := 3) (by decide) hplx
    have hrs11 := put_short (j := 3) hrs hpll
    generalize upd H10 rw (.lst (r0.vs.set 3 (.str (S pl)))) = H11 at I11
    generalize r0.put 3 pl = r1 at I11 hrs11
    walk_at "go"
    refine ⟨b, g, _, rfl, I11.hB, by decide, fun part H12 hr12 hB12 hk12 => ?_⟩
    have I12 := I11.draw hB12 hk12
    walk_at "go"
    refine ⟨H, b, g, sg, u, ps, rw, part, r1, (by rw [az_k0]; rfl), hps, hsh, I12, hrs11, fun r2 H13 I13 hrs13 => ?_⟩
    walk_at "go"
    refine ⟨b, g, _, rfl, I13.hB, by decide, fun r14 H14 hr14 hB14 hk14 => ?_⟩
    have I14 := I13.draw hB14 hk14
    walk_at "go"
    · exact k _ H14 (by decide) (by unfold WideOk; decide) I14.hB I14.k
    · refine ⟨rw, r2, rfl, I14.hrw, I14.hr, ?_⟩
      walk_at "go"
      exact k _ H14 (by rw [lineL_len]; obtain ⟨z1, z2, z3, z4⟩ := hrs13; omega) (lineL_wide I14.hr) I14.hB I14.k
end
end
section
set_option Elab.async false
set_option linter.all false
set_option maxRecDepth 100000
set_option maxHeartbeats 8000000
open PySem PySem.Spec PyProof.Rows L2


def spaced : List (List Nat) → List Nat
  | [] => []
  | [x] => x
  | x :: y :: r => x ++ [32] ++ spaced (y :: r)
theorem join_sp (l : List (List Nat)) : Txt.join (S [32]) (l.map S) = S (spaced l) := by
  refine (PySem.StrLaws.glued_eq_join _ _).trans ?_
  induction l with
  | nil => rfl
  | cons x r ih =>
    cases r with
    | nil => rfl
    | cons y r =>
      show S x ++ S [32] ++ Str.join (S [32]) ((y :: r).map S) = _
      rw [ih, S_app, S_app]
      rfl
def wsum (ws : List (List Nat)) : Nat := (ws.map fun w => w.length + 1).sum
theorem wsum_cons (x : List Nat) (r : List (List Nat)) : wsum (x :: r) = x.length + 1 + wsum r := rfl
theorem wsum_app (a b : List (List Nat)) : wsum (a ++ b) = wsum a + wsum b := by
  unfold wsum
  rw [List.map_append, List.sum_append]
theorem spaced_len : ∀ ws : List (List Nat), (spaced ws).length ≤ wsum ws
  | [] => Nat.zero_le _
  | [x] => by
    rw [wsum_cons]
    show x.length ≤ _
    omega
  | x :: y :: r => by
    have ih := spaced_len (y :: r)
    rw [wsum_cons]
    show (x ++ [32] ++ spaced (y :: r)).length ≤ _
    simp only [List.length_append, List.length_cons, List.length_nil]
    omega
theorem spaced_wide : ∀ {ws : List (List Nat)}, (∀ w ∈ ws, WideOk w) → WideOk (spaced ws)
  | [], _ => fun _ h => nomatch h
  | [x], h => h x List.mem_cons_self
  | x :: y :: r, h => by
    show WideOk (x ++ [32] ++ spaced (y :: r))
    exact wide_app (wide_app (h x List.mem_cons_self) (by unfold WideOk; decide)) (spaced_wide fun w hw => h w (List.mem_cons_of_mem _ hw))
theorem wsum_cutB (s : Nat) (t acc : List Nat) : wsum (cutB s acc t) = acc.length + t.length + 1 := by
  induction t generalizing acc with
  | nil => rfl
  | cons c r ih =>
    unfold cutB
    split
    · rw [wsum_cons, ih []]
      simp only [List.length_cons, List.length_nil]
      omega
    · rw [ih (acc ++ [c])]
      simp only [List.length_cons, List.length_append, List.length_nil]
      omega
theorem wsum_cutC (s : Nat) (t : List Nat) : wsum (cutC s t) = t.length + 1 := by
  have := wsum_cutB s t []
  simp only [List.length_nil] at this
  show wsum (cutB s [] t) = _
  omega
theorem wsum_set (a : List Nat) : ∀ (l : List (List Nat)) (i : Nat) (x : List Nat), l[i]? = some x → x.length + wsum (l.set i a) = a.length + wsum l
  | [], i, x, h => by simp at h
  | y :: r, 0, x, h => by
    cases h
    rw [List.set_cons_zero, wsum_cons, wsum_cons]
    omega
  | y :: r, i + 1, x, h => by
    have ih := wsum_set a r i x h
    rw [List.set_cons_succ, wsum_cons, wsum_cons]
    omega
theorem wsum_swap {l : List (List Nat)} {i j : Nat} {x y : List Nat} (hi : l[i]? = some x) (hj : l[j]? = some y) : wsum ((l.set i y).set j x) = wsum l := by
  have h1 := wsum_set y l i x hi
  have hy : (l.set i y)[j]? = some y := by
    rw [List.getElem?_set]
    by_cases e : i = j
    · rw [if_pos e, if_pos (List.getElem?_eq_some_iff.mp hi).1]
    · rw [if_neg e, hj]
  have h2 := wsum_set x (l.set i y) j y hy
  omega
theorem wsum_take (l : List (List Nat)) (n : Nat) : wsum (l.take n) + wsum (l.drop n) = wsum l := by
  rw [← wsum_app, List.take_append_drop]
theorem wsum_drop1 (l : List (List Nat)) (n : Nat) : wsum (l.drop (n + 1)) ≤ wsum (l.drop n) := by
  have h := wsum_take (l.drop n) 1
  rw [List.drop_drop] at h
  omega
theorem join_sum {us : List (List Nat)} (h : wsum us ≤ 4000) : ((us.map S).map (·.length)).sum + (us.map S).length * (S [32]).length ≤ 16777216 := by
  have h3 : ((us.map S).map (·.length)).sum + us.length = wsum us := by
    clear h
    induction us with
    | nil => rfl
    | cons z us ih =>
      rw [wsum_cons]
      simp only [List.map_cons, List.sum_cons, S_len, List.length_cons]
      omega
  rw [List.length_map, S_len]
  simp only [List.length_cons, List.length_nil]
  omega
theorem strs_map (H : Hp) (p : Addr) (ws : List (List Nat)) (h : H p = some (.lst (ws.map fun t => V.str (S t)))) : H p = some (.lst ((ws.map S).map V.str)) := by
  rw [h, List.map_map]
  rfl
theorem cutS_neg (t : List Nat) : ∃ u, cutS (S t) none (some (-1)) = S u ∧ u.Sublist t := ⟨_, S_cut _ _ _, (List.take_sublist _ _).trans (List.drop_sublist _ _)⟩
theorem wide_sub {t u : List Nat} (h : WideOk t) (hs : u.Sublist t) : WideOk u := fun c hc => h c (hs.subset hc)
section
variable {P : Program} {w : World} {K : PySem.W.Frag} {mg : Str → Option Value} {base : Heap} {a : Ad} {d : Fd}
def spExch : Sp := fun vs H Q _ => ∃ (b g : Addr) (t : List Nat), vs = [.ref b, .str (S t)] ∧ BoxB H b g ∧ t.length ≤ 2900 ∧ WideOk t ∧
  ∀ (t' : List Nat) (H' : Hp), t'.length ≤ t.length + 3 → WideOk t' → BoxB H' b g → Kp2 b g H H' → Q (.str (S t')) H'
theorem scExch : FnScope ["_law_box_here", "_law_line_here", "_law_parts", "_law_way", "_law_one", "_law_two", "_law_turned"] ["_law_box_here", "_law_line_here"] (defScope sExch) := ⟨rfl, rfl, rfl, by decide +kernel, rfl, by decide +kernel, by decide +kernel⟩
theorem ok_exch (T : Fns K mg a d) : FnOk P w K mg base CX0 2 a.aExch d.dExch ["_law_box_here", "_law_line_here"] spExch := by
  have GDraw : FnOk P w K mg base CX0 1 a.aDraw d.dDraw ["_law_box_here", "_law_many"] spDraw := gDraw T
  refine T.FExch.ok scExch (fun vs H Q E h => ?_) (fun cdv A outer s H vs Q E hr h => ?_)
  · obtain ⟨b, g, t, rfl, _⟩ := h
    rfl
  · obtain ⟨b, g, t, rfl, hB, ht, htw, k⟩ := h
    refine ⟨_, ((pss_cons (ps_set (i := 2) scExch.nd rfl (Or.inl rfl) (pe_split (pe_slice sl_str (pv 1) po_none (po_some (pe_un un_neg pe_int))) (pe_strS (l := [32]) (by decide +kernel))))
      (pss_cons (ps_set (i := 3) scExch.nd rfl (Or.inl rfl) (pe_call GDraw (hr.mono (by decide)) (by rfl) T.gDraw T.FDraw.kp T.bDraw .nil pass0 (pa_cons (pv 0) (pa_cons pe_int pa_nil))))
      (pss_cons (ps_set (i := 4) scExch.nd rfl (Or.inl rfl) (pe_call GDraw (hr.mono (by decide)) (by rfl) T.gDraw T.FDraw.kp T.bDraw .nil pass0 (pa_cons (pv 0) (pa_cons (pe_callB call_len_seq (by rfl) T.z_len (by decide +kernel) (pa_cons (pv 2) pa_nil)) pa_nil))))
      (pss_cons (ps_set (i := 5) scExch.nd rfl (Or.inl rfl) (pe_op op_mod (pe_callTy call_int1 (by rfl) T.z_int (by decide +kernel) (pa_cons (pe_op op_add (pe_op op_add (pe_call GDraw (hr.mono (by decide)) (by rfl) T.gDraw T.FDraw.kp T.bDraw .nil pass0 (pa_cons (pv 0) (pa_cons (pe_callB call_len_seq (by rfl) T.z_len (by decide +kernel) (pa_cons (pv 2) pa_nil)) pa_nil))) (pv 4)) pe_int) pa_nil)) (pe_callB call_len_seq (by rfl) T.z_len (by decide +kernel) (pa_cons (pv 2) pa_nil))))
      (pss_cons (ps_if (pt_cmpR op_eq (pv 3) pe_int (nomark _)) (pss_one (ps_ret (pe_op op_addS (pe_strS (l := [32]) (by decide +kernel)) (pv 1)))) pss_nil)
      (pss_cons (ps_if (pt_cmpR op_eq (pv 3) pe_int (nomark _)) (pss_one (ps_ret (pe_op op_addS (pe_slice sl_str (pv 1) po_none (po_some (pe_un un_neg pe_int))) (pe_strS (l := [32, 10]) (by decide +kernel))))) pss_nil)
      (pss_cons (ps_if (pt_cmpR op_eq (pv 3) pe_int (nomark _)) (pss_one (ps_ret (pe_op op_addS (pe_join (pe_strS (l := [32]) (by decide +kernel)) (pe_op op_cat (pe_op op_cat (pe_slice sl_list (pv 2) po_none (po_some (pv 4))) (pe_lst (pa_cons (pe_strS (l := []) (by decide +kernel)) pa_nil))) (pe_slice sl_list (pv 2) (po_some (pv 4)) po_none))) (pe_strS (l := [10]) (by decide +kernel))))) pss_nil)
      (pss_cons (ps_if (pt_cmpR op_eq (pv 3) pe_int (nomark _)) (pss_one (ps_ret (pe_op op_addS (pe_join (pe_strS (l := [32]) (by decide +kernel)) (pe_op op_cat (pe_slice sl_list (pv 2) po_none (po_some (pv 4))) (pe_slice sl_list (pv 2) (po_some (pe_op op_add (pv 4) pe_int)) po_none))) (pe_strS (l := [10]) (by decide +kernel))))) pss_nil)
      (pss_cons (ps_set (i := 6) scExch.nd rfl (Or.inl rfl) (pe_callTy call_list_of (by rfl) T.z_list (by decide +kernel) (pa_cons (pv 2) pa_nil)))
      (pss_cons (ps_asg (pe_ix (r := rIxL K) ix_list (pv 2) (pv 5) (fun _ _ => rfl)) (pg_sub (pv 6) (pv 4) set_list))
      (pss_cons (ps_asg (pe_ix (r := rIxL K) ix_list (pv 2) (pv 4) (fun _ _ => rfl)) (pg_sub (pv 6) (pv 5) set_list))
      (pss_one (ps_ret (pe_op op_addS (pe_join (pe_strS (l := [32]) (by decide +kernel)) (pv 6)) (pe_strS (l := [10]) (by decide +kernel))))))))))))))))), ?_⟩
    obtain ⟨x, hx, hxs⟩ := cutS_neg t
    have hxl := hxs.length_le
    have hxw := wide_sub htw hxs
    walk_at "go"
    rw [hx]
    refine ⟨by rw [S_len, sizeLine_eq]; omega, fun p hp => ?_⟩
    rw [split_C (.inr rfl)]
    have np := off_box hB hp
    have s1 : Same H (upd H p (.lst (((cutC 32 x).map S).map V.str))) := upd_laid hp
    have hp1 : (upd H p (.lst (((cutC 32 x).map S).map V.str))) p = some (.lst ((cutC 32 x).map fun t => V.str (S t))) := by
      rw [upd_same, List.map_map]
      rfl
    have hB1 := hB.same s1
    have k1 := Same.kp2 s1 b g
    generalize upd H p (.lst (((cutC 32 x).map S).map V.str)) = H1 at s1 hp1 hB1 k1
    have hsum : wsum (cutC 32 x) ≤ t.length + 1 := by rw [wsum_cutC]; omega
    have hww : ∀ w ∈ cutC 32 x, WideOk w := fun w hw c hc => hxw c ((cutC_mem hw).2 c hc)
    have hpos : 1 ≤ (cutC 32 x).length := by
      obtain ⟨ls, cur, e⟩ := cutC_split 32 x
      rw [e, List.length_append]
      exact Nat.le_add_left _ _
    have hwl : (cutC 32 x).length ≤ 3000 := Nat.le_trans (cutC_len 32 x) (by omega)
    generalize cutC 32 x = ws at hp1 hsum hww hpos hwl
    have hwm : (ws.map fun t => V.str (S t)).length = ws.length := List.length_map _
    walk_at "go"
    refine ⟨b, g, _, rfl, hB1, by decide, fun way H2 hway hB2 hk2 => ?_⟩
    have hp2 := hk2 _ _ np.1 np.2 hp1
    have k2 := k1.trans hk2
    walk_at "go"
    refine ⟨b, g, _, rfl, hB2, by rw [hwm]; omega, fun one H3 hone hB3 hk3 => ?_⟩
    have hp3 := hk3 _ _ np.1 np.2 hp2
    have k3 := k2.trans hk3
    rw [hwm] at hone
    walk_at "go"
    refine ⟨b, g, _, rfl, hB3, by rw [hwm]; omega, fun r2 H4 hr2 hB4 hk4 => ?_⟩
    have hp4 := hk4 _ _ np.1 np.2 hp3
    have k4 := k3.trans hk4
    clear hk2 hk3 hk4 hp1 hp2 hp3 hB1 hB2 hB3 k1 k2 k3
    have ho : one < ws.length := by omega
    obtain ⟨w1, hw1⟩ : ∃ w, ws[one]? = some w := ⟨_, List.getElem?_eq_getElem ho⟩
    walk_at "go"
    · exact k _ H4 (by simp only [List.length_append, List.length_cons, List.length_nil]; omega) (wide_app (by unfold WideOk; decide) htw) hB4 k4
    · rw [hx]
      have l2 : ([32, 10] : List Nat).length = 2 := rfl
      walk_at "go"
      exact k _ H4 (by simp only [List.length_append, List.length_cons, List.length_nil]; omega) (wide_app hxw (by unfold WideOk; decide)) hB4 k4
    · rename_i p5 hp5 p6 hp6
      rw [cut_to, ← List.map_take] at hp6
      rw [cut_to, ← List.map_take]
      have e5 : (upd H4 p5 (.lst ((ws.take one).map fun t => V.str (S t)))) p5 = some (.lst ((ws.take one).map fun t => V.str (S t))) := upd_same
      have s5 : Same H4 (upd H4 p5 (.lst ((ws.take one).map fun t => V.str (S t)))) := upd_laid hp5
      generalize upd H4 p5 (.lst ((ws.take one).map fun t => V.str (S t))) = H5 at e5 s5 hp6
      have s6 : Same H4 (upd H5 p6 (.lst [V.str (S [])])) := Same.trans s5 (upd_laid hp6)
      have e56 := (upd_laid (o := .lst [V.str (S [])]) hp6) _ _ e5
      have e6 : (upd H5 p6 (.lst [V.str (S [])])) p6 = some (.lst (([[]] : List (List Nat)).map fun t => V.str (S t))) := upd_same
      generalize upd H5 p6 (.lst [V.str (S [])]) = H6 at s6 e56 e6
      refine ⟨p5, p6, _, _, rfl, rfl, e56, e6, by simp only [List.length_map, List.length_take, List.length_cons, List.length_nil, sizeLine_eq]; omega, fun p7 hp7 => ?_⟩
      rw [← List.map_append]
      have s7 : Same H4 (upd H6 p7 (.lst ((ws.take one ++ [[]]).map fun t => V.str (S t)))) := Same.trans s6 (upd_laid hp7)
      have e7 : (upd H6 p7 (.lst ((ws.take one ++ [[]]).map fun t => V.str (S t)))) p7 = some (.lst ((ws.take one ++ [[]]).map fun t => V.str (S t))) := upd_same
      generalize upd H6 p7 (.lst ((ws.take one ++ [[]]).map fun t => V.str (S t))) = H7 at s7 e7
      have hp47 := s7 _ _ hp4
      walk_at "go"
      rename_i p8 hp8
      rw [cut_from, ← List.map_drop]
      have s8 : Same H4 (upd H7 p8 (.lst ((ws.drop one).map fun t => V.str (S t)))) := Same.trans s7 (upd_laid hp8)
      have e78 := (upd_laid (o := .lst ((ws.drop one).map fun t => V.str (S t))) hp8) _ _ e7
      have e8 : (upd H7 p8 (.lst ((ws.drop one).map fun t => V.str (S t)))) p8 = some (.lst ((ws.drop one).map fun t => V.str (S t))) := upd_same
      generalize upd H7 p8 (.lst ((ws.drop one).map fun t => V.str (S t))) = H8 at s8 e78 e8
      refine ⟨p7, p8, _, _, rfl, rfl, e78, e8, by simp only [List.length_map, List.length_take, List.length_drop, List.length_append, List.length_cons, List.length_nil, sizeLine_eq]; omega, fun p9 hp9 => ?_⟩
      rw [← List.map_append]
      have s9 : Same H4 (upd H8 p9 (.lst ((ws.take one ++ [[]] ++ ws.drop one).map fun t => V.str (S t)))) := Same.trans s8 (upd_laid hp9)
      have e9 : (upd H8 p9 (.lst ((ws.take one ++ [[]] ++ ws.drop one).map fun t => V.str (S t)))) p9 = some (.lst ((ws.take one ++ [[]] ++ ws.drop one).map fun t => V.str (S t))) := upd_same
      have hsm : wsum (ws.take one ++ [[]] ++ ws.drop one) ≤ t.length + 2 := by
        have h1 := wsum_take ws one
        rw [wsum_app, wsum_app]
        show _ + 1 + _ ≤ _
        omega
      have hwd : ∀ w ∈ ws.take one ++ [[]] ++ ws.drop one, WideOk w := fun w hw => by
        rcases List.mem_append.mp hw with hw | hw
        · rcases List.mem_append.mp hw with hw | hw
          · exact hww w (List.mem_of_mem_take hw)
          · rw [List.mem_singleton] at hw
            subst hw
            exact fun _ h => nomatch h
        · exact hww w (List.mem_of_mem_drop hw)
      generalize ws.take one ++ [[]] ++ ws.drop one = us at s9 e9 hsm hwd
      generalize upd H8 p9 (.lst (us.map fun t => V.str (S t))) = H9 at s9 e9
      refine ⟨_, p9, us.map S, rfl, rfl, .inl (SqL.of (strs_map _ _ _ e9)), join_sum (by omega), ?_⟩
      rw [join_sp]
      have hsl := spaced_len us
      have l1 : ([10] : List Nat).length = 1 := rfl
      walk_at "go"
      exact k _ H9 (by simp only [List.length_append, List.length_cons, List.length_nil]; omega) (wide_app (spaced_wide hwd) (by unfold WideOk; decide)) (hB4.same s9) (k4.trans (Same.kp2 s9 b g))
    · rename_i p5 hp5 p6 hp6
      rw [show ((one : Int) + 1) = ((one + 1 : Nat) : Int) from rfl, cut_to, cut_from, ← List.map_take, ← List.map_drop]
      rw [cut_to, ← List.map_take] at hp6
      have e5 : (upd H4 p5 (.lst ((ws.take one).map fun t => V.str (S t)))) p5 = some (.lst ((ws.take one).map fun t => V.str (S t))) := upd_same
      have s5 : Same H4 (upd H4 p5 (.lst ((ws.take one).map fun t => V.str (S t)))) := upd_laid hp5
      generalize upd H4 p5 (.lst ((ws.take one).map fun t => V.str (S t))) = H5 at e5 s5 hp6
      have s6 : Same H4 (upd H5 p6 (.lst ((ws.drop (one + 1)).map fun t => V.str (S t)))) := Same.trans s5 (upd_laid hp6)
      have e56 := (upd_laid (o := .lst ((ws.drop (one + 1)).map fun t => V.str (S t))) hp6) _ _ e5
      have e6 : (upd H5 p6 (.lst ((ws.drop (one + 1)).map fun t => V.str (S t)))) p6 = some (.lst ((ws.drop (one + 1)).map fun t => V.str (S t))) := upd_same
      generalize upd H5 p6 (.lst ((ws.drop (one + 1)).map fun t => V.str (S t))) = H6 at s6 e56 e6
      refine ⟨p5, p6, _, _, rfl, rfl, e56, e6, by simp only [List.length_map, List.length_take, List.length_drop, sizeLine_eq]; omega, fun p9 hp9 => ?_⟩
      rw [← List.map_append]
      have s9 : Same H4 (upd H6 p9 (.lst ((ws.take one ++ ws.drop (one + 1)).map fun t => V.str (S t)))) := Same.trans s6 (upd_laid hp9)
      have e9 : (upd H6 p9 (.lst ((ws.take one ++ ws.drop (one + 1)).map fun t => V.str (S t)))) p9 = some (.lst ((ws.take one ++ ws.drop (one + 1)).map fun t => V.str (S t))) := upd_same
      have hsm : wsum (ws.take one ++ ws.drop (one + 1)) ≤ t.length + 2 := by
        have h1 := wsum_take ws one
        have h2 := wsum_drop1 ws one
        rw [wsum_app]
        omega
      have hwd : ∀ w ∈ ws.take one ++ ws.drop (one + 1), WideOk w := fun w hw => by
        rcases List.mem_append.mp hw with hw | hw
        · exact hww w (List.mem_of_mem_take hw)
        · exact hww w (List.mem_of_mem_drop hw)
      generalize ws.take one ++ ws.drop (one + 1) = us at s9 e9 hsm hwd
      generalize upd H6 p9 (.lst (us.map fun t => V.str (S t))) = H9 at s9 e9
      refine ⟨_, p9, us.map S, rfl, rfl, .inl (SqL.of (strs_map _ _ _ e9)), join_sum (by omega), ?_⟩
      rw [join_sp]
      have hsl := spaced_len us
      have l1 : ([10] : List Nat).length = 1 := rfl
      walk_at "go"
      exact k _ H9 (by simp only [List.length_append, List.length_cons, List.length_nil]; omega) (wide_app (spaced_wide hwd) (by unfold WideOk; decide)) (hB4.same s9) (k4.trans (Same.kp2 s9 b g))
    · rename_i p5 hp5
      have g0 := Int.emod_nonneg ((r2 : Int) + one + 1) (show ((ws.map fun t => V.str (S t)).length : Int) ≠ 0 by omega)
      have g1 := Int.emod_lt_of_pos ((r2 : Int) + one + 1) (show (0 : Int) < ((ws.map fun t => V.str (S t)).length : Int) by omega)
      obtain ⟨j, hj⟩ : ∃ j : Nat, ((r2 : Int) + one + 1) % ((ws.map fun t => V.str (S t)).length : Int) = (j : Int) := ⟨(((r2 : Int) + one + 1) % ((ws.map fun t => V.str (S t)).length : Int)).toNat, by omega⟩
      rw [hj] at g1 ⊢
      have hjl : j < ws.length := by omega
      obtain ⟨w2, hw2⟩ : ∃ w, ws[j]? = some w := ⟨_, List.getElem?_eq_getElem hjl⟩
      have hat2 : (ws.map fun t => V.str (S t))[j]? = some (V.str (S w2)) := by rw [List.getElem?_map, hw2]; rfl
      have hat1 : (ws.map fun t => V.str (S t))[one]? = some (V.str (S w1)) := by rw [List.getElem?_map, hw1]; rfl
      have n5 := off_box hB4 hp5
      have hn5 := none_kp hB4 k4 hp5
      have s5 : Same H4 (upd H4 p5 (.lst (ws.map fun t => V.str (S t)))) := upd_laid hp5
      have e5 : (upd H4 p5 (.lst (ws.map fun t => V.str (S t)))) p5 = some (.lst (ws.map fun t => V.str (S t))) := upd_same
      have hp45 := s5 _ _ hp4
      have pp5 : p ≠ p5 := ne_of_none hp4 hp5
      generalize upd H4 p5 (.lst (ws.map fun t => V.str (S t))) = H5 at s5 e5 hp45
      have hB5 := hB4.same s5
      have k5 := k4.trans (Same.kp2 s5 b g)
      walk_at "go"
      refine ⟨p5, _, _, one, rfl, rfl, e5, ixN_w (by rw [hwm]; exact ho), ?_⟩
      have e6 : (upd H5 p5 (.lst ((ws.map fun t => V.str (S t)).set one (V.str (S w2))))) p5 = some (.lst ((ws.set one w2).map fun t => V.str (S t))) := by rw [upd_same, List.map_set]
      have hp6 : (upd H5 p5 (.lst ((ws.map fun t => V.str (S t)).set one (V.str (S w2))))) p = some (.lst (ws.map fun t => V.str (S t))) := by rw [upd_ne pp5]; exact hp45
      have hB6 := box_upd (o := .lst ((ws.map fun t => V.str (S t)).set one (V.str (S w2)))) hB5 n5
      have k6 := kp2_upd (o := .lst ((ws.map fun t => V.str (S t)).set one (V.str (S w2)))) k5 hn5
      generalize upd H5 p5 (.lst ((ws.map fun t => V.str (S t)).set one (V.str (S w2)))) = H6 at e6 hp6 hB6 k6
      walk_at "go"
      refine ⟨p5, _, _, j, rfl, rfl, e6, ixN_w (by rw [List.length_map, List.length_set]; exact hjl), ?_⟩
      have e7 : (upd H6 p5 (.lst (((ws.set one w2).map fun t => V.str (S t)).set j (V.str (S w1))))) p5 = some (.lst (((ws.set one w2).set j w1).map fun t => V.str (S t))) := by rw [upd_same]; simp only [List.map_set]
      have hB7 := box_upd (o := .lst (((ws.set one w2).map fun t => V.str (S t)).set j (V.str (S w1)))) hB6 n5
      have k7 := kp2_upd (o := .lst (((ws.set one w2).map fun t => V.str (S t)).set j (V.str (S w1)))) k6 hn5
      have hsm : wsum ((ws.set one w2).set j w1) ≤ t.length + 1 := by rw [wsum_swap hw1 hw2]; exact hsum
      have hwd : ∀ w ∈ (ws.set one w2).set j w1, WideOk w := fun w hw => by
        rcases List.mem_or_eq_of_mem_set hw with hw | rfl
        · rcases List.mem_or_eq_of_mem_set hw with hw | rfl
          · exact hww w hw
          · exact hww _ (List.mem_of_getElem? hw2)
        · exact hww _ (List.mem_of_getElem? hw1)
      generalize upd H6 p5 (.lst (((ws.set one w2).map fun t => V.str (S t)).set j (V.str (S w1)))) = H7 at e7 hB7 k7
      generalize (ws.set one w2).set j w1 = us at e7 hsm hwd
      walk_at "go"
      refine ⟨.inl (SqL.of (strs_map H7 p5 us e7)), join_sum (by omega), ?_⟩
      rw [join_sp]
      have hsl := spaced_len us
      have l1 : ([10] : List Nat).length = 1 := rfl
      walk_at "go"
      exact k _ H7 (by simp only [List.length_append, List.length_cons, List.length_nil]; omega) (wide_app (spaced_wide hwd) (by unfold WideOk; decide)) hB7 k7
end
end
section
set_option Elab.async false
set_option linter.all false
set_option maxRecDepth 100000
set_option maxHeartbeats 8000000
open PySem PySem.Spec PyProof.Rows L2


theorem join_flat : ∀ l : List (List Nat), Txt.join (S []) (l.map S) = S l.flatten := fun l => by
  refine (PySem.StrLaws.glued_eq_join _ _).trans ?_
  induction l with
  | nil => rfl
  | cons x r ih =>
    cases r with
    | nil =>
      show S x = S (x ++ [])
      rw [List.append_nil]
    | cons y r =>
      show S x ++ S [] ++ Str.join (S []) ((y :: r).map S) = _
      rw [ih, S_app, S_app, List.append_nil]
      rfl
theorem join_sumE {us : List (List Nat)} (h : us.flatten.length ≤ 4000) : ((us.map S).map (·.length)).sum + (us.map S).length * (S []).length ≤ 16777216 := by
  have h3 : ((us.map S).map (·.length)).sum = us.flatten.length := by
    clear h
    induction us with
    | nil => rfl
    | cons z us ih =>
      simp only [List.map_cons, List.sum_cons, S_len, List.flatten_cons, List.length_append]
      rw [← ih]
  rw [h3, S_len]
  simp only [List.length_nil]
  omega
theorem flat_wide {ts : List (List Nat)} (h : ∀ t ∈ ts, WideOk t) : WideOk ts.flatten := fun c hc => by
  obtain ⟨t, ht, hc⟩ := List.mem_flatten.mp hc
  exact h t ht c hc
theorem flat_mem : ∀ {ts : List (List Nat)} {t : List Nat}, t ∈ ts → t.length ≤ ts.flatten.length
  | x :: r, t, h => by
    rw [List.flatten_cons, List.length_append]
    rcases List.mem_cons.mp h with rfl | h
    · omega
    · have := flat_mem h
      omega
theorem mid_tot (ts : List (List Nat)) (i j : Nat) (h : i ≤ j) (x : List Nat) : (ts.take i ++ [x] ++ ts.drop j).flatten.length ≤ ts.flatten.length + x.length := by
  have e : ts.flatten.length = (ts.take i).flatten.length + (ts.drop i).flatten.length := by rw [← List.length_append, ← List.flatten_append, List.take_append_drop]
  have e2 : (ts.drop i).flatten.length = ((ts.drop i).take (j - i)).flatten.length + (ts.drop j).flatten.length := by
    have : ts.drop j = (ts.drop i).drop (j - i) := by rw [List.drop_drop]; congr 1; omega
    rw [this, ← List.length_append, ← List.flatten_append, List.take_append_drop]
  rw [List.flatten_append, List.flatten_append, List.length_append, List.length_append]
  simp only [List.flatten_cons, List.flatten_nil, List.append_nil]
  omega
theorem mid_wide {ts : List (List Nat)} {i j : Nat} {x : List Nat} (h : ∀ t ∈ ts, WideOk t) (hx : WideOk x) : ∀ t ∈ ts.take i ++ [x] ++ ts.drop j, WideOk t := fun t ht => by
  rcases List.mem_append.mp ht with ht | ht
  · rcases List.mem_append.mp ht with ht | ht
    · exact h t (List.mem_of_mem_take ht)
    · rw [List.mem_singleton] at ht
      rw [ht]
      exact hx
  · exact h t (List.mem_of_mem_drop ht)
def stC (b : Addr) (sg : List Nat) (u z : Addr) (way : Int) (at_ : Nat) : L2.St := [some (.ref b), some (.str (S sg)), some (.ref u), some (.ref z), some (.int way), some (.int (at_ : Int))]
structure ChI (b g : Addr) (sg : List Nat) (u z : Addr) (ps : List (Addr × Row)) (ts : List (List Nat)) (H : Hp) : Prop where
  hB : BoxB H b g
  s1 : 1 ≤ sg.length
  s2 : sg.length ≤ 100
  sw : WideOk sg
  hR : RowsAt H u ps
  ub : u ≠ b ∧ u ≠ g
  p20 : ps.length ≤ 20
  sh : ∀ q ∈ ps, q.2.short
  hz : H z = some (.lst (ts.map fun t => V.str (S t)))
  zb : z ≠ b ∧ z ≠ g
  t20 : ts.length ≤ 20
  tt : ts.flatten.length ≤ 1400
  wd : ∀ t ∈ ts, WideOk t
theorem ChI.kp {b g : Addr} {sg : List Nat} {u z : Addr} {ps : List (Addr × Row)} {ts : List (List Nat)} {H H' : Hp} (I : ChI b g sg u z ps ts H) (hB : BoxB H' b g) (k : Kp2 b g H H') : ChI b g sg u z ps ts H' :=
  ⟨hB, I.s1, I.s2, I.sw, I.hR.kp I.hB I.ub k, I.ub, I.p20, I.sh, k _ _ I.zb.1 I.zb.2 I.hz, I.zb, I.t20, I.tt, I.wd⟩
def ResC (b g : Addr) (ts : List (List Nat)) (H : Hp) (F : V → Hp → Prop) : Prop := ∀ (q : Addr) (ts' : List (List Nat)) (H' : Hp), H q = none → H' q = some (.lst (ts'.map fun t => V.str (S t))) → ts'.flatten.length ≤ 2 * ts.flatten.length + 45 → ts'.length ≤ ts.length + 2 → (∀ t ∈ ts', WideOk t) → BoxB H' b g → Kp2 b g H H' → F (.ref q) H'
theorem ResC.kp {b g : Addr} {ts : List (List Nat)} {H H' : Hp} {F : V → Hp → Prop} (k : ResC b g ts H F) (hB : BoxB H' b g) (hk : Kp2 b g H H') : ResC b g ts H' F :=
  fun q ts' H2 h1 h2 h3 h4 h5 h6 h7 => k q ts' H2 (none_kp hB hk h1) h2 h3 h4 h5 h6 (hk.trans h7)
def tCh : TS := fun D σ H => ∃ (b g : Addr) (sg : List Nat) (u z : Addr) (ps : List (Addr × Row)) (ts : List (List Nat)) (way : Int) (at_ : Nat), σ = stC b sg u z way at_ ∧ at_ ≤ ts.length ∧ ChI b g sg u z ps ts H ∧ (∀ H', BoxB H' b g → Kp2 b g H H' → D.nx σ H') ∧ ResC b g ts H D.rt
section
variable {P : Program} {w : World} {K : PySem.W.Frag} {mg : Str → Option Value} {base : Heap} {a : Ad} {d : Fd}
def spChanged : Sp := fun vs H Q _ => ∃ (b g : Addr) (sg : List Nat) (u z : Addr) (ps : List (Addr × Row)) (ts : List (List Nat)), vs = [.ref b, .str (S sg), .ref u, .ref z] ∧ BoxB H b g ∧ 1 ≤ sg.length ∧ sg.length ≤ 100 ∧ WideOk sg ∧ RowsAt H u ps ∧ (u ≠ b ∧ u ≠ g) ∧ ps.length ≤ 20 ∧ (∀ q ∈ ps, q.2.short) ∧
  H z = some (.lst (ts.map fun t => V.str (S t))) ∧ (z ≠ b ∧ z ≠ g) ∧ ts.length ≤ 20 ∧ ts.flatten.length ≤ 1400 ∧ (∀ t ∈ ts, WideOk t) ∧
  ResC b g ts H Q
theorem scChanged : FnScope ["_law_box_here", "_law_signs", "_law_rows_here", "_law_lines", "_law_way", "_law_at"] ["_law_box_here", "_law_signs", "_law_rows_here", "_law_lines"] (defScope sChanged) := ⟨rfl, rfl, rfl, by decide +kernel, rfl, by decide +kernel, by decide +kernel⟩
theorem ok_changed (T : Fns K mg a d) : FnOk P w K mg base CX0 4 a.aChanged d.dChanged ["_law_box_here", "_law_signs", "_law_rows_here", "_law_lines"] spChanged := by
  have GDraw : FnOk P w K mg base CX0 1 a.aDraw d.dDraw ["_law_box_here", "_law_many"] spDraw := gDraw T
  have GFurther : FnOk P w K mg base CX0 3 a.aFurther d.dFurther ["_law_box_here", "_law_signs", "_law_rows_here"] spFurther := ok_further T
  have GExch : FnOk P w K mg base CX0 2 a.aExch d.dExch ["_law_box_here", "_law_line_here"] spExch := ok_exch T
  have GEdited : FnOk P w K mg base CX0 3 a.aEdited d.dEdited ["_law_box_here", "_law_signs", "_law_text"] spEdited := ok_edited T
  refine T.FChanged.ok scChanged (fun vs H Q E h => ?_) (fun cdv A outer s H vs Q E hr h => ?_)
  · obtain ⟨b, g, sg, u, z, ps, ts, rfl, _⟩ := h
    rfl
  · obtain ⟨b, g, sg, u, z, ps, ts, rfl, hB, hs1, hs2, hsw, hR, hub, hps, hsh, hz, hzb, htl, htt, hwd, k⟩ := h
    refine ⟨_, ((pss_cons (ps_set (i := 4) scChanged.nd rfl (Or.inl rfl) (pe_op op_mod (pe_callTy call_int1 (by rfl) T.z_int (by decide +kernel) (pa_cons (pe_op op_add (pe_call GDraw (hr.mono (by decide)) (by rfl) T.gDraw T.FDraw.kp T.bDraw .nil pass0 (pa_cons (pv 0) (pa_cons pe_int pa_nil))) pe_int) pa_nil)) pe_int))
      (pss_cons (ps_set (i := 5) scChanged.nd rfl (Or.inl rfl) (pe_call GDraw (hr.mono (by decide)) (by rfl) T.gDraw T.FDraw.kp T.bDraw .nil pass0 (pa_cons (pv 0) (pa_cons (pe_op op_add (pe_callB call_len_seq (by rfl) T.z_len (by decide +kernel) (pa_cons (pv 3) pa_nil)) pe_int) pa_nil))))
      (pss_cons (PS.imp (t' := tCh) (ps_if (pt_cmpR op_eq (pv 4) pe_int (nomark _)) (pss_one (ps_ret (pe_op op_cat (pe_op op_cat (pe_slice sl_list (pv 3) po_none (po_some (pv 5))) (pe_lst (pa_cons (pe_call GFurther (hr.mono (by decide)) (by rfl) T.gFurther T.FFurther.kp T.bFurther .nil pass0 (pa_cons (pv 0) (pa_cons (pv 1) (pa_cons (pv 2) pa_nil)))) pa_nil))) (pe_slice sl_list (pv 3) (po_some (pv 5)) po_none)))) pss_nil) ?h2)
      (pss_cons (PS.imp (t' := tCh) (ps_if (PW.pt (pw_and (pt_cmpR op_eq (pv 4) pe_int (nomark _)) (pw_and1 (pt_cmpR (op_neD hr.units) (pv 3) (pe_lst pa_nil) (nomark _))))) (pss_one (ps_ret (pe_op op_cat (pe_op op_cat (pe_slice sl_list (pv 3) po_none (po_some (pv 5))) (pe_lst (pa_cons (pe_ix (r := rIxL K) ix_list (pv 3) (pe_call GDraw (hr.mono (by decide)) (by rfl) T.gDraw T.FDraw.kp T.bDraw .nil pass0 (pa_cons (pv 0) (pa_cons (pe_callB call_len_seq (by rfl) T.z_len (by decide +kernel) (pa_cons (pv 3) pa_nil)) pa_nil))) (fun _ _ => rfl)) pa_nil))) (pe_slice sl_list (pv 3) (po_some (pv 5)) po_none)))) pss_nil) ?h3)
      (pss_cons (PS.imp (t' := tCh) (ps_if (PW.pt (pw_and (pt_cmpR op_eq (pv 4) pe_int (nomark _)) (pw_and1 (pt_cmpR op_lt (pv 5) (pe_callB call_len_seq (by rfl) T.z_len (by decide +kernel) (pa_cons (pv 3) pa_nil)) (nomark _))))) (pss_one (ps_ret (pe_op op_cat (pe_op op_cat (pe_slice sl_list (pv 3) po_none (po_some (pv 5))) (pe_lst (pa_cons (pe_call GExch (hr.mono (by decide)) (by rfl) T.gExch T.FExch.kp T.bExch .nil pass0 (pa_cons (pv 0) (pa_cons (pe_ix (r := rIxL K) ix_list (pv 3) (pv 5) (fun _ _ => rfl)) pa_nil))) pa_nil))) (pe_slice sl_list (pv 3) (po_some (pe_op op_add (pv 5) pe_int)) po_none)))) pss_nil) ?h4)
      (pss_cons (PS.imp (t' := tCh) (ps_if (pt_cmpR op_eq (pv 4) pe_int (nomark _)) (pss_one (ps_ret (pe_lst (pa_cons (pe_slice sl_str (pe_join (pe_strS (l := []) (by decide +kernel)) (pv 3)) po_none (po_some (pe_un un_neg pe_int))) pa_nil)))) pss_nil) ?h5)
      (pss_cons (PS.imp (t' := tCh) (ps_if (PW.pt (pw_and (pt_cmpR op_eq (pv 4) pe_int (nomark _)) (pw_and1 (pt_cmpR op_lt (pv 5) (pe_callB call_len_seq (by rfl) T.z_len (by decide +kernel) (pa_cons (pv 3) pa_nil)) (nomark _))))) (pss_one (ps_ret (pe_op op_cat (pe_op op_cat (pe_slice sl_list (pv 3) po_none (po_some (pv 5))) (pe_lst (pa_cons (pe_call GEdited (hr.mono (by decide)) (by rfl) T.gEdited T.FEdited.kp T.bEdited .nil pass0 (pa_cons (pv 0) (pa_cons (pv 1) (pa_cons (pe_ix (r := rIxL K) ix_list (pv 3) (pv 5) (fun _ _ => rfl)) pa_nil)))) pa_nil))) (pe_slice sl_list (pv 3) (po_some (pe_op op_add (pv 5) pe_int)) po_none)))) pss_nil) ?h6)
      (pss_one (ps_ret (pe_lst (pa_cons (pe_call GEdited (hr.mono (by decide)) (by rfl) T.gEdited T.FEdited.kp T.bEdited .nil pass0 (pa_cons (pv 0) (pa_cons (pv 1) (pa_cons (pe_join (pe_strS (l := []) (by decide +kernel)) (pv 3)) pa_nil)))) pa_nil)))))))))))), ?_⟩
    case h2 =>
      rintro ⟨D1, D2, D3, D4⟩ σ H ⟨b, g, sg, u, z, ps, ts, way, at_, rfl, hat, I, kn, k⟩
      have htm : (ts.map fun t => V.str (S t)).length = ts.length := List.length_map _
      have hz := I.hz
      have hBX := I.hB
      have t20 := I.t20
      have tt := I.tt
      have hwd := I.wd
      walk_at "go"
      · rename_i p5 hp5
        rw [cut_to, ← List.map_take]
        have s5 : Same H (upd H p5 (.lst ((ts.take at_).map fun t => V.str (S t)))) := upd_laid hp5
        have e5 : (upd H p5 (.lst ((ts.take at_).map fun t => V.str (S t)))) p5 = some (.lst ((ts.take at_).map fun t => V.str (S t))) := upd_same
        have n5 := off_box I.hB hp5
        generalize upd H p5 (.lst ((ts.take at_).map fun t => V.str (S t))) = H5 at s5 e5
        have I5 := I.kp (I.hB.same s5) (Same.kp2 s5 b g)
        refine ⟨b, g, sg, u, ps, rfl, I5.hB, I.s1, I.s2, I.sw, I5.hR, I.ub, I.p20, I.sh, fun x HX hx hxw hBX kX => ?_⟩
        have e5 := kX _ _ n5.1 n5.2 e5
        have hz5 := (I5.kp hBX kX).hz
        have kX := (Same.kp2 s5 b g).trans kX
        walk_at "go"
        rename_i p6 hp6
        have e6 : (upd HX p6 (.lst [V.str (S x)])) p6 = some (.lst ([x].map fun t => V.str (S t))) := upd_same
        have s6 : Same HX (upd HX p6 (.lst [V.str (S x)])) := upd_laid hp6
        have e56 := s6 _ _ e5
        have z6 := s6 _ _ hz5
        generalize upd HX p6 (.lst [V.str (S x)]) = H6 at s6 e6 e56 z6
        refine ⟨p5, p6, _, _, rfl, rfl, e56, e6, by simp only [List.length_map, List.length_take, List.length_cons, List.length_nil, sizeLine_eq]; omega, fun p7 hp7 => ?_⟩
        rw [← List.map_append]
        have s7 : Same HX (upd H6 p7 (.lst ((ts.take at_ ++ [x]).map fun t => V.str (S t)))) := Same.trans s6 (upd_laid hp7)
        have e7 : (upd H6 p7 (.lst ((ts.take at_ ++ [x]).map fun t => V.str (S t)))) p7 = some (.lst ((ts.take at_ ++ [x]).map fun t => V.str (S t))) := upd_same
        generalize upd H6 p7 (.lst ((ts.take at_ ++ [x]).map fun t => V.str (S t))) = H7 at s7 e7
        have z7 := s7 _ _ hz5
        walk_at "go"
        rename_i p8 hp8
        rw [cut_from, ← List.map_drop]
        have s8 : Same HX (upd H7 p8 (.lst ((ts.drop at_).map fun t => V.str (S t)))) := Same.trans s7 (upd_laid hp8)
        have e78 := (upd_laid (o := .lst ((ts.drop at_).map fun t => V.str (S t))) hp8) _ _ e7
        have e8 : (upd H7 p8 (.lst ((ts.drop at_).map fun t => V.str (S t)))) p8 = some (.lst ((ts.drop at_).map fun t => V.str (S t))) := upd_same
        generalize upd H7 p8 (.lst ((ts.drop at_).map fun t => V.str (S t))) = H8 at s8 e78 e8
        refine ⟨p7, p8, _, _, rfl, rfl, e78, e8, by simp only [List.length_map, List.length_take, List.length_drop, List.length_append, List.length_cons, List.length_nil, sizeLine_eq]; omega, fun p9 hp9 => ?_⟩
        rw [← List.map_append]
        have s9 : Same HX (upd H8 p9 (.lst ((ts.take at_ ++ [x] ++ ts.drop at_).map fun t => V.str (S t)))) := Same.trans s8 (upd_laid hp9)
        walk_at "go"
        refine k p9 (ts.take at_ ++ [x] ++ ts.drop at_) _ (none_kp (hBX.same s8) (kX.trans (Same.kp2 s8 b g)) hp9) upd_same ?_ ?_ (mid_wide hwd hxw) (hBX.same s9) (kX.trans (Same.kp2 s9 b g))
        · have h1 := mid_tot ts at_ at_ (by omega) x
          omega
        · simp only [List.length_append, List.length_take, List.length_drop, List.length_cons, List.length_nil]
          omega
      · exact kn H I.hB (Kp2.refl b g H)
    case h3 =>
      rintro ⟨D1, D2, D3, D4⟩ σ H ⟨b, g, sg, u, z, ps, ts, way, at_, rfl, hat, I, kn, k⟩
      have htm : (ts.map fun t => V.str (S t)).length = ts.length := List.length_map _
      have hz := I.hz
      have hBX := I.hB
      have t20 := I.t20
      have tt := I.tt
      have hwd := I.wd
      walk_at "go"
      · rename_i hw2 p0 hp0
        have s0 : Same H (upd H p0 (.lst [])) := upd_laid hp0
        have hz0 := s0 _ _ hz
        refine ⟨_, .list [], dp_strs (SqL.of (strs_map _ _ _ hz0)), .lst (SqL.of upd_same) .nil, shaped_strs (fun y hy => by
          obtain ⟨t, ht, rfl⟩ := List.mem_map.mp hy
          exact wide_ok (hwd t ht)), shaped_nil, ?_⟩
        rw [eqv_nil]
        generalize upd H p0 (.lst []) = H1 at s0 hz0
        have I1 := I.kp (I.hB.same s0) (Same.kp2 s0 b g)
        refine ⟨_, rfl, ite2 (fun h => ?_) (fun h => ?_)⟩
        case refine_2 => exact kn H1 I1.hB (Same.kp2 s0 b g)
        have hpos : 1 ≤ ts.length := by
          cases ts with
          | nil => cases h
          | cons x r => exact Nat.succ_le_succ (Nat.zero_le _)
        walk_at "go"
        rename_i p5 hp5
        rw [cut_to, ← List.map_take]
        have s5 : Same H1 (upd H1 p5 (.lst ((ts.take at_).map fun t => V.str (S t)))) := upd_laid hp5
        have e5 : (upd H1 p5 (.lst ((ts.take at_).map fun t => V.str (S t)))) p5 = some (.lst ((ts.take at_).map fun t => V.str (S t))) := upd_same
        have n5 := off_box I1.hB hp5
        generalize upd H1 p5 (.lst ((ts.take at_).map fun t => V.str (S t))) = H5 at s5 e5
        have I5 := I1.kp (I1.hB.same s5) (Same.kp2 s5 b g)
        have hz5 := I5.hz
        walk_at "go"
        refine ⟨b, g, _, rfl, I5.hB, by rw [htm]; omega, fun r2 HX hr2 hBX kX => ?_⟩
        have hz5' := (I5.kp hBX kX).hz
        rw [htm] at hr2
        have hal : r2 < ts.length := by omega
        obtain ⟨x, hx0⟩ : ∃ x, ts[r2]? = some x := ⟨_, List.getElem?_eq_getElem hal⟩
        have hx0m := List.mem_of_getElem? hx0
        have hx := flat_mem hx0m
        have hxw := hwd x hx0m
        have hat0 : (ts.map fun t => V.str (S t))[r2]? = some (V.str (S x)) := by rw [List.getElem?_map, hx0]; rfl
        have e5 := kX _ _ n5.1 n5.2 e5
        have hz5 := (I5.kp hBX kX).hz
        have kX := (Same.kp2 s5 b g).trans kX
        have kX := (Same.kp2 s0 b g).trans kX
        walk_at "go"
        rename_i p6 hp6
        have e6 : (upd HX p6 (.lst [V.str (S x)])) p6 = some (.lst ([x].map fun t => V.str (S t))) := upd_same
        have s6 : Same HX (upd HX p6 (.lst [V.str (S x)])) := upd_laid hp6
        have e56 := s6 _ _ e5
        have z6 := s6 _ _ hz5
        generalize upd HX p6 (.lst [V.str (S x)]) = H6 at s6 e6 e56 z6
        refine ⟨p5, p6, _, _, rfl, rfl, e56, e6, by simp only [List.length_map, List.length_take, List.length_cons, List.length_nil, sizeLine_eq]; omega, fun p7 hp7 => ?_⟩
        rw [← List.map_append]
        have s7 : Same HX (upd H6 p7 (.lst ((ts.take at_ ++ [x]).map fun t => V.str (S t)))) := Same.trans s6 (upd_laid hp7)
        have e7 : (upd H6 p7 (.lst ((ts.take at_ ++ [x]).map fun t => V.str (S t)))) p7 = some (.lst ((ts.take at_ ++ [x]).map fun t => V.str (S t))) := upd_same
        generalize upd H6 p7 (.lst ((ts.take at_ ++ [x]).map fun t => V.str (S t))) = H7 at s7 e7
        have z7 := s7 _ _ hz5
        walk_at "go"
        rename_i p8 hp8
        rw [cut_from, ← List.map_drop]
        have s8 : Same HX (upd H7 p8 (.lst ((ts.drop at_).map fun t => V.str (S t)))) := Same.trans s7 (upd_laid hp8)
        have e78 := (upd_laid (o := .lst ((ts.drop at_).map fun t => V.str (S t))) hp8) _ _ e7
        have e8 : (upd H7 p8 (.lst ((ts.drop at_).map fun t => V.str (S t)))) p8 = some (.lst ((ts.drop at_).map fun t => V.str (S t))) := upd_same
        generalize upd H7 p8 (.lst ((ts.drop at_).map fun t => V.str (S t))) = H8 at s8 e78 e8
        refine ⟨p7, p8, _, _, rfl, rfl, e78, e8, by simp only [List.length_map, List.length_take, List.length_drop, List.length_append, List.length_cons, List.length_nil, sizeLine_eq]; omega, fun p9 hp9 => ?_⟩
        rw [← List.map_append]
        have s9 : Same HX (upd H8 p9 (.lst ((ts.take at_ ++ [x] ++ ts.drop at_).map fun t => V.str (S t)))) := Same.trans s8 (upd_laid hp9)
        walk_at "go"
        refine k p9 (ts.take at_ ++ [x] ++ ts.drop at_) _ (none_kp (hBX.same s8) (kX.trans (Same.kp2 s8 b g)) hp9) upd_same ?_ ?_ (mid_wide hwd hxw) (hBX.same s9) (kX.trans (Same.kp2 s9 b g))
        · have h1 := mid_tot ts at_ at_ (by omega) x
          omega
        · simp only [List.length_append, List.length_take, List.length_drop, List.length_cons, List.length_nil]
          omega
      · exact kn H I.hB (Kp2.refl b g H)
    case h4 =>
      rintro ⟨D1, D2, D3, D4⟩ σ H ⟨b, g, sg, u, z, ps, ts, way, at_, rfl, hat, I, kn, k⟩
      have htm : (ts.map fun t => V.str (S t)).length = ts.length := List.length_map _
      have hz := I.hz
      have hBX := I.hB
      have t20 := I.t20
      have tt := I.tt
      have hwd := I.wd
      walk_at "go"
      · have hal : at_ < ts.length := by rename_i hh _ _; omega
        obtain ⟨x0, hx0⟩ : ∃ x, ts[at_]? = some x := ⟨_, List.getElem?_eq_getElem hal⟩
        have hx0m := List.mem_of_getElem? hx0
        have hxl0 := flat_mem hx0m
        have hat0 : (ts.map fun t => V.str (S t))[at_]? = some (V.str (S x0)) := by rw [List.getElem?_map, hx0]; rfl
        rename_i p5 hp5
        rw [cut_to, ← List.map_take]
        have s5 : Same H (upd H p5 (.lst ((ts.take at_).map fun t => V.str (S t)))) := upd_laid hp5
        have e5 : (upd H p5 (.lst ((ts.take at_).map fun t => V.str (S t)))) p5 = some (.lst ((ts.take at_).map fun t => V.str (S t))) := upd_same
        have n5 := off_box I.hB hp5
        generalize upd H p5 (.lst ((ts.take at_).map fun t => V.str (S t))) = H5 at s5 e5
        have I5 := I.kp (I.hB.same s5) (Same.kp2 s5 b g)
        have hz5 := I5.hz
        walk_at "go"
        refine ⟨b, g, x0, rfl, I5.hB, by omega, hwd x0 hx0m, fun x HX hx hxw hBX kX => ?_⟩
        have e5 := kX _ _ n5.1 n5.2 e5
        have hz5 := (I5.kp hBX kX).hz
        have kX := (Same.kp2 s5 b g).trans kX
        walk_at "go"
        rename_i p6 hp6
        have e6 : (upd HX p6 (.lst [V.str (S x)])) p6 = some (.lst ([x].map fun t => V.str (S t))) := upd_same
        have s6 : Same HX (upd HX p6 (.lst [V.str (S x)])) := upd_laid hp6
        have e56 := s6 _ _ e5
        have z6 := s6 _ _ hz5
        generalize upd HX p6 (.lst [V.str (S x)]) = H6 at s6 e6 e56 z6
        refine ⟨p5, p6, _, _, rfl, rfl, e56, e6, by simp only [List.length_map, List.length_take, List.length_cons, List.length_nil, sizeLine_eq]; omega, fun p7 hp7 => ?_⟩
        rw [← List.map_append]
        have s7 : Same HX (upd H6 p7 (.lst ((ts.take at_ ++ [x]).map fun t => V.str (S t)))) := Same.trans s6 (upd_laid hp7)
        have e7 : (upd H6 p7 (.lst ((ts.take at_ ++ [x]).map fun t => V.str (S t)))) p7 = some (.lst ((ts.take at_ ++ [x]).map fun t => V.str (S t))) := upd_same
        generalize upd H6 p7 (.lst ((ts.take at_ ++ [x]).map fun t => V.str (S t))) = H7 at s7 e7
        have z7 := s7 _ _ hz5
        walk_at "go"
        rename_i p8 hp8
        rw [show ((at_ : Int) + 1) = ((at_ + 1 : Nat) : Int) from rfl, cut_from, ← List.map_drop]
        have s8 : Same HX (upd H7 p8 (.lst ((ts.drop (at_ + 1)).map fun t => V.str (S t)))) := Same.trans s7 (upd_laid hp8)
        have e78 := (upd_laid (o := .lst ((ts.drop (at_ + 1)).map fun t => V.str (S t))) hp8) _ _ e7
        have e8 : (upd H7 p8 (.lst ((ts.drop (at_ + 1)).map fun t => V.str (S t)))) p8 = some (.lst ((ts.drop (at_ + 1)).map fun t => V.str (S t))) := upd_same
        generalize upd H7 p8 (.lst ((ts.drop (at_ + 1)).map fun t => V.str (S t))) = H8 at s8 e78 e8
        refine ⟨p7, p8, _, _, rfl, rfl, e78, e8, by simp only [List.length_map, List.length_take, List.length_drop, List.length_append, List.length_cons, List.length_nil, sizeLine_eq]; omega, fun p9 hp9 => ?_⟩
        rw [← List.map_append]
        have s9 : Same HX (upd H8 p9 (.lst ((ts.take at_ ++ [x] ++ ts.drop (at_ + 1)).map fun t => V.str (S t)))) := Same.trans s8 (upd_laid hp9)
        walk_at "go"
        refine k p9 (ts.take at_ ++ [x] ++ ts.drop (at_ + 1)) _ (none_kp (hBX.same s8) (kX.trans (Same.kp2 s8 b g)) hp9) upd_same ?_ ?_ (mid_wide hwd hxw) (hBX.same s9) (kX.trans (Same.kp2 s9 b g))
        · have h1 := mid_tot ts at_ (at_ + 1) (by omega) x
          omega
        · simp only [List.length_append, List.length_take, List.length_drop, List.length_cons, List.length_nil]
          omega
      · exact kn H I.hB (Kp2.refl b g H)
      · exact kn H I.hB (Kp2.refl b g H)
    case h5 =>
      rintro ⟨D1, D2, D3, D4⟩ σ H ⟨b, g, sg, u, z, ps, ts, way, at_, rfl, hat, I, kn, k⟩
      have htm : (ts.map fun t => V.str (S t)).length = ts.length := List.length_map _
      have hz := I.hz
      have hBX := I.hB
      have t20 := I.t20
      have tt := I.tt
      have hwd := I.wd
      obtain ⟨x, hx, hxs⟩ := cutS_neg ts.flatten
      have hxl := hxs.length_le
      have hxw := wide_sub (flat_wide hwd) hxs
      walk_at "go"
      · refine ⟨.inl (SqL.of (strs_map H z ts hz)), join_sumE (by omega), ?_⟩
        rw [join_flat]
        walk_at "go"
        rename_i p6 hp6
        rw [hx]
        have s6 : Same H (upd H p6 (.lst [V.str (S x)])) := upd_laid hp6
        refine k p6 [x] _ hp6 upd_same ?_ (Nat.le_trans (show (1 : Nat) ≤ 2 from by decide) (Nat.le_add_left _ _)) (fun t ht => ?_) (I.hB.same s6) (Same.kp2 s6 b g)
        · simp only [List.flatten_cons, List.flatten_nil, List.append_nil]
          omega
        · rw [List.mem_singleton] at ht
          rw [ht]
          exact hxw
      · exact kn H I.hB (Kp2.refl b g H)
    case h6 =>
      rintro ⟨D1, D2, D3, D4⟩ σ H ⟨b, g, sg, u, z, ps, ts, way, at_, rfl, hat, I, kn, k⟩
      have htm : (ts.map fun t => V.str (S t)).length = ts.length := List.length_map _
      have hz := I.hz
      have hBX := I.hB
      have t20 := I.t20
      have tt := I.tt
      have hwd := I.wd
      walk_at "go"
      · have hal : at_ < ts.length := by rename_i hh _ _; omega
        obtain ⟨x0, hx0⟩ : ∃ x, ts[at_]? = some x := ⟨_, List.getElem?_eq_getElem hal⟩
        have hx0m := List.mem_of_getElem? hx0
        have hxl0 := flat_mem hx0m
        have hat0 : (ts.map fun t => V.str (S t))[at_]? = some (V.str (S x0)) := by rw [List.getElem?_map, hx0]; rfl
        rename_i p5 hp5
        rw [cut_to, ← List.map_take]
        have s5 : Same H (upd H p5 (.lst ((ts.take at_).map fun t => V.str (S t)))) := upd_laid hp5
        have e5 : (upd H p5 (.lst ((ts.take at_).map fun t => V.str (S t)))) p5 = some (.lst ((ts.take at_).map fun t => V.str (S t))) := upd_same
        have n5 := off_box I.hB hp5
        generalize upd H p5 (.lst ((ts.take at_).map fun t => V.str (S t))) = H5 at s5 e5
        have I5 := I.kp (I.hB.same s5) (Same.kp2 s5 b g)
        have hz5 := I5.hz
        walk_at "go"
        refine ⟨b, g, sg, x0, rfl, I5.hB, I.s1, I.s2, I.sw, by omega, hwd x0 hx0m, fun x HX hx hxw hBX kX => ?_⟩
        have e5 := kX _ _ n5.1 n5.2 e5
        have hz5 := (I5.kp hBX kX).hz
        have kX := (Same.kp2 s5 b g).trans kX
        walk_at "go"
        rename_i p6 hp6
        have e6 : (upd HX p6 (.lst [V.str (S x)])) p6 = some (.lst ([x].map fun t => V.str (S t))) := upd_same
        have s6 : Same HX (upd HX p6 (.lst [V.str (S x)])) := upd_laid hp6
        have e56 := s6 _ _ e5
        have z6 := s6 _ _ hz5
        generalize upd HX p6 (.lst [V.str (S x)]) = H6 at s6 e6 e56 z6
        refine ⟨p5, p6, _, _, rfl, rfl, e56, e6, by simp only [List.length_map, List.length_take, List.length_cons, List.length_nil, sizeLine_eq]; omega, fun p7 hp7 => ?_⟩
        rw [← List.map_append]
        have s7 : Same HX (upd H6 p7 (.lst ((ts.take at_ ++ [x]).map fun t => V.str (S t)))) := Same.trans s6 (upd_laid hp7)
        have e7 : (upd H6 p7 (.lst ((ts.take at_ ++ [x]).map fun t => V.str (S t)))) p7 = some (.lst ((ts.take at_ ++ [x]).map fun t => V.str (S t))) := upd_same
        generalize upd H6 p7 (.lst ((ts.take at_ ++ [x]).map fun t => V.str (S t))) = H7 at s7 e7
        have z7 := s7 _ _ hz5
        walk_at "go"
        rename_i p8 hp8
        rw [show ((at_ : Int) + 1) = ((at_ + 1 : Nat) : Int) from rfl, cut_from, ← List.map_drop]
        have s8 : Same HX (upd H7 p8 (.lst ((ts.drop (at_ + 1)).map fun t => V.str (S t)))) := Same.trans s7 (upd_laid hp8)
        have e78 := (upd_laid (o := .lst ((ts.drop (at_ + 1)).map fun t => V.str (S t))) hp8) _ _ e7
        have e8 : (upd H7 p8 (.lst ((ts.drop (at_ + 1)).map fun t => V.str (S t)))) p8 = some (.lst ((ts.drop (at_ + 1)).map fun t => V.str (S t))) := upd_same
        generalize upd H7 p8 (.lst ((ts.drop (at_ + 1)).map fun t => V.str (S t))) = H8 at s8 e78 e8
        refine ⟨p7, p8, _, _, rfl, rfl, e78, e8, by simp only [List.length_map, List.length_take, List.length_drop, List.length_append, List.length_cons, List.length_nil, sizeLine_eq]; omega, fun p9 hp9 => ?_⟩
        rw [← List.map_append]
        have s9 : Same HX (upd H8 p9 (.lst ((ts.take at_ ++ [x] ++ ts.drop (at_ + 1)).map fun t => V.str (S t)))) := Same.trans s8 (upd_laid hp9)
        walk_at "go"
        refine k p9 (ts.take at_ ++ [x] ++ ts.drop (at_ + 1)) _ (none_kp (hBX.same s8) (kX.trans (Same.kp2 s8 b g)) hp9) upd_same ?_ ?_ (mid_wide hwd hxw) (hBX.same s9) (kX.trans (Same.kp2 s9 b g))
        · have h1 := mid_tot ts at_ (at_ + 1) (by omega) x
          omega
        · simp only [List.length_append, List.length_take, List.length_drop, List.length_cons, List.length_nil]
          omega
      · exact kn H I.hB (Kp2.refl b g H)
      · exact kn H I.hB (Kp2.refl b g H)
    have htm : (ts.map fun t => V.str (S t)).length = ts.length := List.length_map _
    have I0 : ChI b g sg u z ps ts H := ⟨hB, hs1, hs2, hsw, hR, hub, hps, hsh, hz, hzb, htl, htt, hwd⟩
    walk_at "go"
    refine ⟨b, g, _, rfl, hB, by decide, fun r1 H1 hr1 hB1 hk1 => ?_⟩
    have I1 := I0.kp hB1 hk1
    have hz1 := I1.hz
    walk_at "go"
    refine ⟨b, g, _, rfl, hB1, by rw [htm]; omega, fun at_ H2 hat hB2 hk2 => ?_⟩
    rw [htm] at hat
    have I2 := I1.kp hB2 hk2
    have k2 := ResC.kp k hB2 (hk1.trans hk2)
    walk_at "go"
    refine ⟨b, g, sg, u, z, ps, ts, _, at_, rfl, by omega, I2, fun H3 hB3 hk3 => ?_, k2⟩
    have I3 := I2.kp hB3 hk3
    have k3 := ResC.kp k2 hB3 hk3
    walk_at "go"
    refine ⟨b, g, sg, u, z, ps, ts, _, at_, rfl, by omega, I3, fun H4 hB4 hk4 => ?_, k3⟩
    have I4 := I3.kp hB4 hk4
    have k4 := ResC.kp k3 hB4 hk4
    walk_at "go"
    refine ⟨b, g, sg, u, z, ps, ts, _, at_, rfl, by omega, I4, fun H5 hB5 hk5 => ?_, k4⟩
    have I5 := I4.kp hB5 hk5
    have k5 := ResC.kp k4 hB5 hk5
    walk_at "go"
    refine ⟨b, g, sg, u, z, ps, ts, _, at_, rfl, by omega, I5, fun H6 hB6 hk6 => ?_, k5⟩
    have I6 := I5.kp hB6 hk6
    have k6 := ResC.kp k5 hB6 hk6
    walk_at "go"
    refine ⟨b, g, sg, u, z, ps, ts, _, at_, rfl, by omega, I6, fun H7 hB7 hk7 => ?_, k6⟩
    have I7 := I6.kp hB7 hk7
    have k7 := ResC.kp k6 hB7 hk7
    have hz7 := I7.hz
    walk_at "go"
    refine ⟨.inl (SqL.of (strs_map H7 z ts hz7)), join_sumE (by omega), ?_⟩
    rw [join_flat]
    walk_at "go"
    refine ⟨b, g, sg, ts.flatten, rfl, hB7, hs1, hs2, hsw, by omega, flat_wide hwd, fun x H8 hx hxw hB8 hk8 => ?_⟩
    have k8 := ResC.kp k7 hB8 hk8
    walk_at "go"
    rename_i p9 hp9
    have s9 : Same H8 (upd H8 p9 (.lst [V.str (S x)])) := upd_laid hp9
    refine k8 p9 [x] _ hp9 upd_same ?_ (Nat.le_trans (show (1 : Nat) ≤ 2 from by decide) (Nat.le_add_left _ _)) (fun t ht => ?_) (hB8.same s9) (Same.kp2 s9 b g)
    · simp only [List.flatten_cons, List.flatten_nil, List.append_nil]
      omega
    · rw [List.mem_singleton] at ht
      rw [ht]
      exact hxw
end
end
section
set_option Elab.async false
set_option linter.all false
set_option maxRecDepth 100000
set_option maxHeartbeats 8000000
open PySem PySem.Spec PyProof.Rows L2

def kStrG7_0 : List Nat := [66, 97, 100, 76, 105, 110, 101]
theorem kStrG7_0_eq : PySem.Str.ofString "BadLine" = S kStrG7_0 := by decide +kernel
def kBad : List Nat := [66, 97, 100, 76, 105, 110, 101]
def kBook : List Nat := [98, 111, 111, 107]
def ReadOut (sg t : List Nat) (H : Hp) (Q : VK) : Prop := (∀ k, noteL sg t = .inl k → ∀ p H', H p = none → H' p = some (.lst [.str (S kBad), .int (k : Int)]) → Same H H' → Q (.ref p) H') ∧
  ∀ rs, noteL sg t = .inr rs → ∀ p u ps H', H p = none → H' p = some (.lst [.str (S kBook), .ref u]) → RowsAt H' u ps → ps.map (·.2) = rs → Same H H' → Q (.ref p) H'
def stRd (sg t : List Nat) (u : Addr) (cur : List Nat) (v4 v5 v6 : Option V) : L2.St := [some (.str (S sg)), some (.str (S t)), some (.ref u), some (.str (S cur)), v4, v5, v6]
theorem same_upd {H H' : Hp} {p : Addr} {o : HO} (s : Same H H') (hn : H p = none) : Same H (upd H' p o) := fun c u h => by
  rw [upd_ne (ne_of_none h hn)]
  exact s c u h
theorem rows_app {H : Hp} {u x : Addr} {ps : List (Addr × Row)} {e : Row} (h : RowsAt H u ps) (hx : H x = some (.tup e.vs)) (he : e.ok) : RowsAt (upd H u (.lst ((ps.map fun q => V.ref q.1) ++ [.ref x]))) u (ps ++ [(x, e)]) := by
  have nt : ∀ {c : Addr} {xs : List V}, H c = some (.tup xs) → c ≠ u := fun hc z => by
    rw [z, h.1] at hc
    cases hc
  refine ⟨by rw [upd_same, List.map_append]; rfl, fun q hq => ?_⟩
  rcases List.mem_append.mp hq with m | m
  · exact ⟨by rw [upd_ne (nt (h.2 q m).1)]; exact (h.2 q m).1, (h.2 q m).2⟩
  · rw [List.mem_singleton] at m
    subst m
    exact ⟨by rw [upd_ne (nt hx)]; exact hx, he⟩
theorem four4 {ws : List (List Nat)} (h : ws.length = 4) : ∃ a b c d, ws = [a, b, c, d] := by
  match ws, h with
  | [a, b, c, d], _ => exact ⟨a, b, c, d, rfl⟩
theorem lineR_full {sg : List Nat} {rs : List Row} {w : List Nat} (h : rs.length = 8) : lineR sg rs w = none := by
  unfold lineR
  rw [if_pos h]
theorem lineR_parts {sg : List Nat} {rs : List Row} {w : List Nat} (h : (cutC 32 w).length ≠ 4) : lineR sg rs w = none := by
  unfold lineR
  have e : entryOf (cutC 32 w) = none := by
    have h2 := @entryOf_len (cutC 32 w)
    rw [decide_eq_false h] at h2
    cases hx : entryOf (cutC 32 w) with
    | none => rfl
    | some e => rw [hx] at h2; cases h2
  rw [e]
  split <;> rfl
theorem lineR_row {sg : List Nat} {rs : List Row} {w a b c d : List Nat} (h8 : rs.length ≠ 8) (h : cutC 32 w = [a, b, c, d]) : lineR sg rs w = if faultL sg ⟨a, c, d, b⟩ rs = [] then some ⟨a, c, d, b⟩ else none := by
  unfold lineR
  rw [if_neg h8, h]
  rfl
section
variable {P : Program} {w : World} {K : PySem.W.Frag} {mg : Str → Option Value} {base : Heap} {a : Ad} {d : Fd}
def spReadL : Sp := fun vs H Q _ => ∃ (sg t : List Nat), vs = [.str (S sg), .str (S t)] ∧ t.length ≤ 2900 ∧ WideOk t ∧ ReadOut sg t H Q
theorem scReadL : FnScope ["_law_signs", "_law_text", "_law_rows_here", "_law_line_here", "_law_char_here", "_law_parts", "_law_entry"] ["_law_signs", "_law_text"] (defScope sReadL) := ⟨rfl, rfl, rfl, by decide +kernel, rfl, by decide +kernel, by decide +kernel⟩
theorem ok_readL (T : Fns K mg a d) : FnOk P w K mg base CX0 3 a.aReadL d.dReadL ["_law_signs", "_law_text"] spReadL := by
  have GFault : FnOk P w K mg base CX0 2 a.aFault d.dFault ["_law_signs", "_law_entry", "_law_rows_here"] spFault := ok_fault T
  refine T.FReadL.ok scReadL (fun vs H Q E h => ?_) (fun cdv A outer s H vs Q E hr h => ?_)
  · obtain ⟨sg, t, rfl, _⟩ := h
    rfl
  · obtain ⟨sg, t, rfl, htl, htw, k1, k2⟩ := h
    refine ⟨_, ((pss_cons (ps_set (i := 2) scReadL.nd rfl (Or.inl rfl) (pe_lst pa_nil))
      (pss_cons (ps_set (i := 3) scReadL.nd rfl (Or.inl rfl) (pe_strS (l := []) (by decide +kernel)))
      (pss_cons (ps_for PassesOwn.never rfl (pi_str (pv 1)) (pg_name (i := 4) scReadL.nd rfl (Or.inl rfl)) (pss_one (ps_if (pt_cmpR op_ne (pv 4) (pe_strS (l := [10]) (by decide +kernel)) (nomark _)) (pss_one (ps_set (i := 3) scReadL.nd rfl (Or.inl rfl) (pe_op op_addS (pv 3) (pv 4)))) (pss_cons (ps_set (i := 5) scReadL.nd rfl (Or.inl rfl) (pe_split (pv 3) (pe_strS (l := [32]) (by decide +kernel))))
      (pss_cons (ps_if (PW.pt (pw_or (pt_cmpR op_eq (pe_callB call_len_seq (by rfl) T.z_len (by decide +kernel) (pa_cons (pv 2) pa_nil)) pe_int (nomark _)) (pw_or1 (pt_cmpR op_ne (pe_callB call_len_seq (by rfl) T.z_len (by decide +kernel) (pa_cons (pv 5) pa_nil)) pe_int (nomark _))))) (pss_one (ps_ret (pe_lst (pa_cons (pe_strS (l := kStrG7_0) kStrG7_0_eq) (pa_cons (pe_op op_add (pe_callB call_len_seq (by rfl) T.z_len (by decide +kernel) (pa_cons (pv 2) pa_nil)) pe_int) pa_nil))))) pss_nil)
      (pss_cons (ps_set (i := 6) scReadL.nd rfl (Or.inl rfl) (pe_tup (pa_cons (pe_ix (r := rIxL K) ix_list (pv 5) pe_int (fun _ _ => rfl)) (pa_cons (pe_ix (r := rIxL K) ix_list (pv 5) pe_int (fun _ _ => rfl)) (pa_cons (pe_ix (r := rIxL K) ix_list (pv 5) pe_int (fun _ _ => rfl)) (pa_cons (pe_ix (r := rIxL K) ix_list (pv 5) pe_int (fun _ _ => rfl)) pa_nil))))))
      (pss_cons (ps_if (pt_cmpR (op_neD hr.units) (pe_call GFault (hr.mono (by decide)) (by rfl) T.gFault T.FFault.kp T.bFault .nil pass0 (pa_cons (pv 0) (pa_cons (pv 6) (pa_cons (pv 2) pa_nil)))) (pe_lst pa_nil) (nomark _)) (pss_one (ps_ret (pe_lst (pa_cons (pe_strS (l := kStrG7_0) kStrG7_0_eq) (pa_cons (pe_op op_add (pe_callB call_len_seq (by rfl) T.z_len (by decide +kernel) (pa_cons (pv 2) pa_nil)) pe_int) pa_nil))))) pss_nil)
      (pss_cons (ps_expr (pe_bm PySem.F.plainAttrs_list PySem.F.slot_list_append PySem.F.type_list_append mt_append (pv 2) (pa_cons (pv 6) pa_nil)))
      (pss_one (ps_set (i := 3) scReadL.nd rfl (Or.inl rfl) (pe_strS (l := []) (by decide +kernel))))))))))))
      (pss_cons (ps_if (pt_cmpR op_ne (pv 3) (pe_strS (l := []) (by decide +kernel)) (nomark _)) (pss_one (ps_ret (pe_lst (pa_cons (pe_strS (l := kStrG7_0) kStrG7_0_eq) (pa_cons (pe_op op_add (pe_callB call_len_seq (by rfl) T.z_len (by decide +kernel) (pa_cons (pv 2) pa_nil)) pe_int) pa_nil))))) pss_nil)
      (pss_one (ps_ret (pe_lst (pa_cons (pe_strS (l := [98, 111, 111, 107]) (by decide +kernel)) (pa_cons (pv 2) pa_nil)))))))))), ?_⟩
    walk_at "go"
    rename_i u hu
    have s1 : Same H (upd H u (.lst [])) := upd_laid hu
    have hR1 : RowsAt (upd H u (.lst [])) u [] := ⟨upd_same, fun q hq => nomatch hq⟩
    generalize upd H u (.lst []) = H1 at s1 hR1
    refine for_S (fun i σ H' => Stop (∃ (v4 v5 v6 : Option V) (ls : List (List Nat)) (cur : List Nat) (ps : List (Addr × Row)), σ = stRd sg t u cur v4 v5 v6 ∧ RowsAt H' u ps ∧ goL sg [] ls = .inr (ps.map (·.2)) ∧ cutC 10 (t.take i) = ls ++ [cur] ∧ Same H H'))
      ⟨none, none, none, [], [], [], rfl, hR1, rfl, rfl, s1⟩ ?_ ?_
    · rintro i c σ H2 hci ⟨v4, v5, v6, ls, cur, ps, rfl, hR2, hg, hcut, s2⟩
      have hps : ps.length ≤ 8 := by
        have := (goL_good ls [] _ hg GoodRs.nil (Nat.zero_le _)).2
        rwa [List.length_map] at this
      have hcm : cur ∈ cutC 10 (t.take i) := by rw [hcut]; exact List.mem_append_right _ (List.mem_singleton.mpr rfl)
      have hcl : cur.length ≤ 2900 := by
        have h1 := (cutC_mem hcm).1
        rw [List.length_take] at h1
        omega
      have hcw : WideOk cur := fun x hx => htw x (List.mem_of_mem_take ((cutC_mem hcm).2 x hx))
      have e2 : t.take (i + 1) = t.take i ++ [c] := by rw [List.take_add_one, hci]; rfl
      have hlt : i < t.length := (List.getElem?_eq_some_iff.mp hci).1
      have het : t = t.take i ++ c :: t.drop (i + 1) := by
        conv => lhs; rw [← List.take_append_drop i t]
        rw [List.drop_eq_getElem_cons hlt, (List.getElem?_eq_some_iff.mp hci).2]
      have hu2 := hR2.1
      have hpm : (ps.map fun q => V.ref q.1).length = ps.length := List.length_map _
      have lc1 : ([c] : List Nat).length = 1 := rfl
      walk_at "go"
      · rename_i hc
        exact ⟨_, _, _, ls, cur ++ [c], ps, rfl, hR2, hg, by rw [e2, cutC_go hcut, cutB, if_neg hc]; rfl, s2⟩
      · rename_i hc p5 hp5 h8 p9 hp9
        subst hc
        have hn := noteL_bad het hcut hg (lineR_full (w := cur) (by rw [List.length_map]; omega))
        have s5 := Same.trans s2 (upd_laid (o := .lst ((Txt.split (S cur) (S [32])).map V.str)) hp5)
        exact k1 _ hn p9 _ (none_back s5 hp9) (by rw [upd_same, hpm, List.length_map]; rfl) (Same.trans s5 (upd_laid hp9))
      · rename_i hc p5 hp5 h8 h4 p9 hp9
        subst hc
        rw [split_C (.inr rfl), List.length_map, List.length_map] at h4
        have hn := noteL_bad het hcut hg (lineR_parts (sg := sg) (rs := ps.map (·.2)) (w := cur) (by omega))
        have s5 := Same.trans s2 (upd_laid (o := .lst ((Txt.split (S cur) (S [32])).map V.str)) hp5)
        exact k1 _ hn p9 _ (none_back s5 hp9) (by rw [upd_same, hpm, List.length_map]; rfl) (Same.trans s5 (upd_laid hp9))
      · rename_i hc p5 hp5 h8 h4
        subst hc
        rw [split_C (.inr rfl), List.length_map, List.length_map] at h4
        obtain ⟨x1, x2, x3, x4, hx⟩ := four4 (by omega : (cutC 32 cur).length = 4)
        have hxm : ∀ x ∈ cutC 32 cur, Tx x := fun x hx => ⟨Nat.le_trans (cutC_mem hx).1 (by omega), fun c hc => hcw c ((cutC_mem hx).2 c hc)⟩
        rw [hx] at hxm
        have he : Row.ok ⟨x1, x3, x4, x2⟩ := ⟨hxm _ (by simp), hxm _ (by simp), hxm _ (by simp), hxm _ (by simp)⟩
        have hlr := lineR_row (sg := sg) (rs := ps.map (·.2)) (by rw [List.length_map]; omega) hx
        rw [split_C (.inr rfl), hx]
        have s5 := Same.trans s2 (upd_laid (o := .lst (([x1, x2, x3, x4].map S).map V.str)) hp5)
        have hR5 := hR2.same (upd_laid (o := .lst (([x1, x2, x3, x4].map S).map V.str)) hp5)
        have e5 : (upd H2 p5 (.lst (([x1, x2, x3, x4].map S).map V.str))) p5 = some (.lst [V.str (S x1), V.str (S x2), V.str (S x3), V.str (S x4)]) := upd_same
        generalize upd H2 p5 (.lst (([x1, x2, x3, x4].map S).map V.str)) = H5 at s5 hR5 e5
        walk_at "go"
        rename_i x6 hx6
        have s6 : Same H5 (upd H5 x6 (.tup [V.str (S x1), V.str (S x3), V.str (S x4), V.str (S x2)])) := upd_laid hx6
        have hR6 := hR5.same s6
        have e6 : (upd H5 x6 (.tup [V.str (S x1), V.str (S x3), V.str (S x4), V.str (S x2)])) x6 = some (.tup (Row.vs ⟨x1, x3, x4, x2⟩)) := upd_same
        have s06 := Same.trans s5 s6
        generalize upd H5 x6 (.tup [V.str (S x1), V.str (S x3), V.str (S x4), V.str (S x2)]) = H6 at s06 hR6 e6
        refine ⟨sg, x6, u, ⟨x1, x3, x4, x2⟩, ps, rfl, e6, he, hR6, by omega, fun p7 H7 hp7 h7 s7 => ?_⟩
        have hR7 := hR6.same s7
        have e7 := s7 _ _ e6
        have s07 := Same.trans s06 s7
        have hfw := fault_wide (sg := sg) (e := ⟨x1, x3, x4, x2⟩) (rs := ps.map (·.2)) he (fun r hr => by
          obtain ⟨q', hq', rfl⟩ := List.mem_map.mp hr
          exact (hR7.2 q' hq').2)
        generalize hfl : faultL sg ⟨x1, x3, x4, x2⟩ (ps.map (·.2)) = fl at h7 hlr hfw
        walk_at "go"
        rename_i p8 hp8
        have s8 : Same H7 (upd H7 p8 (.lst [])) := upd_laid hp8
        have h78 := s8 _ _ h7
        refine ⟨_, .list [], dp_strs (SqL.of (strs_map _ _ _ h78)), .lst (SqL.of upd_same) .nil, shaped_strs (fun y hy => by
          obtain ⟨t, ht, rfl⟩ := List.mem_map.mp hy
          exact wide_ok (hfw t ht)), shaped_nil, ?_⟩
        rw [eqv_nil]
        have hR8 := hR7.same s8
        have e8 := s8 _ _ e7
        have s08 := Same.trans s07 s8
        generalize upd H7 p8 (.lst []) = H8 at s08 hR8 e8
        have hu8 := hR8.1
        have hu0 : H u = none := hu
        refine ⟨_, rfl, ite2 (fun h => ?_) (fun h => ?_)⟩
        · have hne : fl ≠ [] := fun z => by
            subst z
            cases h
          rw [if_neg hne] at hlr
          have hn := noteL_bad het hcut hg hlr
          walk_at "go"
          rename_i p9 hp9
          exact k1 _ hn p9 _ (none_back s08 hp9) (by rw [upd_same, hpm, List.length_map]; rfl) (Same.trans s08 (upd_laid hp9))
        · have hfl0 : fl = [] := by
            cases fl with
            | nil => rfl
            | cons z r => exact absurd rfl h
          rw [if_pos hfl0] at hlr
          walk_at "go"
          have hz8 : (ps.map fun q => V.ref q.1).length < sizeLine := by rw [hpm, sizeLine_eq]; omega
          trace_state
          refine ⟨_, _, _, ls ++ [cur], [], ps ++ [(x6, ⟨x1, x3, x4, x2⟩)], rfl, rows_app hR8 e8 he, ?_, ?_, same_upd s08 hu0⟩
          · rw [List.map_append]
            exact goL_more hg hlr
          · rw [e2, cutC_go hcut, cutB, if_pos rfl, List.append_assoc]
            rfl
    · rintro σ H2 ⟨v4, v5, v6, ls, cur, ps, rfl, hR2, hg, hcut, s2⟩
      rw [List.take_length] at hcut
      have hn := noteL_end hcut hg
      have hu2 := hR2.1
      have hpm : (ps.map fun q => V.ref q.1).length = ps.length := List.length_map _
      walk_at "go"
      · rename_i hc p9 hp9
        rw [if_neg hc] at hn
        exact k1 _ hn p9 _ (none_back s2 hp9) (by rw [upd_same, hpm, List.length_map]; rfl) (Same.trans s2 (upd_laid hp9))
      · rename_i hc p9 hp9
        rw [if_pos hc] at hn
        exact k2 _ hn p9 u ps _ (none_back s2 hp9) upd_same (hR2.same (upd_laid hp9)) rfl (Same.trans s2 (upd_laid hp9))
end
end
section
set_option Elab.async false
set_option linter.all false
set_option maxRecDepth 100000
set_option maxHeartbeats 8000000
open PySem PySem.Spec PyProof.Rows L2
section
variable {P : Program} {w : World} {K : PySem.W.Frag} {mg : Str → Option Value} {base : Heap} {a : Ad} {d : Fd} {c : Er} {C fT : Addr} {fdT : FuncData}
def spCheckL (C : Addr) (c : Er) : Sp := fun vs H Q E => ∃ (al x y : Addr) (l v : List Nat) (e : Row) (ps : List (Addr × Row)), vs = [.ref al, .ref x, .ref y] ∧ IsAl C H al l v ∧ H x = some (.tup e.vs) ∧ e.ok ∧ RowsAt H y ps ∧ ps.length ≤ 20 ∧
  (faultL (45 :: srtL l) e (ps.map (·.2)) = [] → ∀ H', Same H H' → Q .non H') ∧
  (∀ B dd fs H', Raised c (faultL (45 :: srtL l) e (ps.map (·.2))) B fs → H dd = none → H' dd = some (.xd fs) → Same H H' → E (.ref B) (some dd) H')
theorem ok_checkN (T : Fns K mg a d) (A : AlF K C) (Wk : Bk K mg w c) (G : Gs P w K mg base c) (mT : Meth K C "is_text" fT) (GT : FnOk P w K mg base CX0 1 fT fdT ["self", "text"] (spIsText C)) (bT : Binds K fdT ["self", "text"] []) : FnOk P w K mg base (L2N.CX P w) 3 a.aCheck d.dCheck ["alphabet", "entry", "earlier"] (spCheckL C c) := by
  have GIsForm : FnOk P w K mg base CX0 2 a.aIsForm d.dIsForm ["alphabet", "form"] (spIsForm C) := ok_isForm T A Wk mT GT bT
  have GConf : FnOk P w K mg base CX0 2 a.aConf d.dConf ["entry", "other"] spConf := ok_conf T
  have GBN := G.BN
  have GBF := G.BF
  have GUP := G.UP
  have GDN := G.DN
  have GCF := G.CF
  refine okN T.FCheck scCheck (fun vs H Q E h => ?_) (fun cdv A0 outer s H vs Q E hr h => ?_)
  · obtain ⟨al, x, y, l, v, e, ps, rfl, _⟩ := h
    rfl
  · obtain ⟨al, x, y, l, v, e, ps, rfl, hA, hx, heok, hY, hps, kq, ke⟩ := h
    refine ⟨_, (pss_cons (ps_asg (pv 1) (pg_tup rfl (pgs_cons (pg_name (i := 3) scCheck.nd rfl (Or.inr rfl)) (pgs_cons (pg_name (i := 4) scCheck.nd rfl (Or.inl rfl)) (pgs_cons (pg_name (i := 5) scCheck.nd rfl (Or.inl rfl)) (pgs_cons (pg_name (i := 6) scCheck.nd rfl (Or.inl rfl)) pgs_nil))))))
      (pss_cons (ps_if (PW.pt (pw_or (pt_not (pt_chain op_le op_le pe_int (pe_callB call_len_str (by rfl) T.z_len (by decide +kernel) (pa_cons (pv 3) pa_nil)) (pe_glob (v := .int 8) (by rfl) Wk.gLN ⟨_, rfl⟩))) (pw_or1 (pt_not (pt_val (pe_callB (cr_all rfl) (by rfl) T.z_all (by decide +kernel) (pa_cons (pe_lc (own := [("letter", 7)]) (g := gName 7) (by rfl) scCheck.nd (pi_str (pv 3)) (blkOk_by (own := [("letter", 7)]) (N := ["alphabet", "entry", "earlier", "name", "long", "short", "place", "letter", "form", "other"]) (sc := defScope sCheck) (by decide +kernel)) (fun _ _ _ _ _ => pg_name (i := 7) scCheck.nd rfl (Or.inl rfl)) (fun _ _ _ _ _ => pts_nil) (fun _ _ _ _ _ => (pe_chain op_le_str op_le_str pe_str (pv 7) pe_str))) pa_nil))))))) (pss_one (L2N.ps_raise rfl (L2N.takes_of rfl rfl rfl rfl) (pmk_oexN Wk.BN.ox Wk.BN.iC Wk.BN.tI GBN (hr.mono (by decide)) Wk.BN.bB pass0 (by rfl) Wk.BN.gB (pa_cons (pv 3) pa_nil)))) pss_nil)
      (pss_cons (ps_for (passes_of rfl) rfl (pi_list (pe_lst (pa_cons (pv 4) (pa_cons (pv 5) pa_nil)))) (pg_name (i := 8) scCheck.nd rfl (Or.inl rfl)) (pss_one (ps_if (pt_not (pt_val (pe_call GIsForm (hr.mono (by decide)) (by rfl) T.gIsForm T.FIsForm.kp T.bIsForm .nil pass0 (pa_cons (pv 0) (pa_cons (pv 8) pa_nil))))) (pss_one (L2N.ps_raise rfl (L2N.takes_of rfl rfl rfl rfl) (pmk_oexN Wk.BF.ox Wk.BF.iC Wk.BF.tI GBF (hr.mono (by decide)) Wk.BF.bB pass0 (by rfl) Wk.BF.gB (pa_cons (pv 8) pa_nil)))) pss_nil)))
      (pss_cons (ps_if (pt_cmpR (op_notIn_kd Wk.kd) (pv 6) (pe_glob (v := .ref c.kinds) (by rfl) Wk.gK rfl) rfl) (pss_one (L2N.ps_raise rfl (L2N.takes_of rfl rfl rfl rfl) (pmk_oexN Wk.UP.ox Wk.UP.iC Wk.UP.tI GUP (hr.mono (by decide)) Wk.UP.bB pass0 (by rfl) Wk.UP.gB (pa_cons (pv 6) pa_nil)))) pss_nil)
      (pss_cons (ps_if (pt_val (pe_callB (cr_any rfl) (by rfl) T.z_any (by decide +kernel) (pa_cons (pe_lc (own := [("other", 9)]) (g := gName 9) (by rfl) scCheck.nd (pi_list (pv 2)) (blkOk_by (own := [("other", 9)]) (N := ["alphabet", "entry", "earlier", "name", "long", "short", "place", "letter", "form", "other"]) (sc := defScope sCheck) (by decide +kernel)) (fun _ _ _ _ _ => pg_name (i := 9) scCheck.nd rfl (Or.inl rfl)) (fun _ _ _ _ _ => pts_nil) (fun _ _ _ _ _ => (pe_cmpR op_eq (pv 3) (pe_ix (r := rIxT K) ix_tup (pv 9) pe_int (fun _ _ => rfl)) (nomark _)))) pa_nil))) (pss_one (L2N.ps_raise rfl (L2N.takes_of rfl rfl rfl rfl) (pmk_oexN Wk.DN.ox Wk.DN.iC Wk.DN.tI GDN (hr.mono (by decide)) Wk.DN.bB pass0 (by rfl) Wk.DN.gB (pa_cons (pv 3) pa_nil)))) pss_nil)
      (pss_one (ps_for (passes_of rfl) rfl (pi_list (pv 2)) (pg_name (i := 9) scCheck.nd rfl (Or.inl rfl)) (pss_one (ps_if (pt_val (pe_call GConf (hr.mono (by decide)) (by rfl) T.gConf T.FConf.kp T.bConf .nil pass0 (pa_cons (pv 1) (pa_cons (pv 9) pa_nil)))) (pss_one (L2N.ps_raise rfl (L2N.takes_of rfl rfl rfl rfl) (pmk_oexN Wk.CF.ox Wk.CF.iC Wk.CF.tI GCF (hr.mono (by decide)) Wk.CF.bB pass0 (by rfl) Wk.CF.gB (pa_cons (pv 3) (pa_cons (pe_ix (r := rIxT K) ix_tup (pv 9) pe_int (fun _ _ => rfl)) pa_nil))))) pss_nil))))))))), ?_⟩
    generalize hsg : (45 :: srtL l) = sg at kq ke
    obtain ⟨on, ol, os, op⟩ := id heok
    have honl := on.1
    have hnl : (S e.n).length ≤ sizeLine := sz4 (by rw [S_len]; omega)
    have rN : faultL sg e (ps.map (·.2)) = [Lt "BadName", e.n] → ∀ H1, Same H H1 → ([V.str (S e.n)] : List V).length ≤ 1000 ∧ ∀ b, H1 b = none → spEBadName c.bn [.ref b, .str (S e.n)] (upd H1 b (exo b c.bn none)) (PostE c.bn b E H1) (fun _ _ _ => False) :=
      fun hf H1 s => ⟨by show 1 ≤ 1000; decide, fun b hb => ⟨b, e.n, rfl, on, upd_same, raise1 hb s fun dd H' h1 h2 h3 => ke c.bn dd _ H' (.inl ⟨_, hf, rfl, rfl⟩) h1 h2 h3⟩⟩
    have rF : ∀ t, Tx t → faultL sg e (ps.map (·.2)) = [Lt "BadForm", t] → ∀ H1, Same H H1 → ([V.str (S t)] : List V).length ≤ 1000 ∧ ∀ b, H1 b = none → spEBadForm c.bf [.ref b, .str (S t)] (upd H1 b (exo b c.bf none)) (PostE c.bf b E H1) (fun _ _ _ => False) :=
      fun t ht hf H1 s => ⟨by show 1 ≤ 1000; decide, fun b hb => ⟨b, t, rfl, ht, upd_same, raise1 hb s fun dd H' h1 h2 h3 => ke c.bf dd _ H' (.inr (.inl ⟨_, hf, rfl, rfl⟩)) h1 h2 h3⟩⟩
    have rP : faultL sg e (ps.map (·.2)) = [Lt "UnknownPlace", e.p] → ∀ H1, Same H H1 → ([V.str (S e.p)] : List V).length ≤ 1000 ∧ ∀ b, H1 b = none → spEUnknownPlace c.up [.ref b, .str (S e.p)] (upd H1 b (exo b c.up none)) (PostE c.up b E H1) (fun _ _ _ => False) :=
      fun hf H1 s => ⟨by show 1 ≤ 1000; decide, fun b hb => ⟨b, e.p, rfl, op, upd_same, raise1 hb s fun dd H' h1 h2 h3 => ke c.up dd _ H' (.inr (.inr (.inl ⟨_, hf, rfl, rfl⟩))) h1 h2 h3⟩⟩
    have rD : faultL sg e (ps.map (·.2)) = [Lt "DuplicateName", e.n] → ∀ H1, Same H H1 → ([V.str (S e.n)] : List V).length ≤ 1000 ∧ ∀ b, H1 b = none → spEDuplicateName c.dn [.ref b, .str (S e.n)] (upd H1 b (exo b c.dn none)) (PostE c.dn b E H1) (fun _ _ _ => False) :=
      fun hf H1 s => ⟨by show 1 ≤ 1000; decide, fun b hb => ⟨b, e.n, rfl, on, upd_same, raise1 hb s fun dd H' h1 h2 h3 => ke c.dn dd _ H' (.inr (.inr (.inr (.inl ⟨_, hf, rfl, rfl⟩)))) h1 h2 h3⟩⟩
    have rC : ∀ u, Tx u → faultL sg e (ps.map (·.2)) = [Lt "Conflict", e.n, u] → ∀ H1, Same H H1 → ([V.str (S e.n), V.str (S u)] : List V).length ≤ 1000 ∧ ∀ b, H1 b = none → spEConflict c.cf [.ref b, .str (S e.n), .str (S u)] (upd H1 b (exo b c.cf none)) (PostE c.cf b E H1) (fun _ _ _ => False) :=
      fun u hu hf H1 s => ⟨by show 2 ≤ 1000; decide, fun b hb => ⟨b, e.n, u, rfl, on, hu, upd_same, raise2 hb s fun dd H' h1 h2 h3 => ke c.cf dd _ H' (.inr (.inr (.inr (.inr ⟨_, _, hf, rfl, rfl⟩)))) h1 h2 h3⟩⟩
    have bad : isW azL 8 e.n = false → faultL sg e (ps.map (·.2)) = [Lt "BadName", e.n] := fun h2 => by
      unfold faultL
      rw [if_pos h2]
    refine ⟨_, rfl, x, _, rfl, SqT.of hx, rfl, _, _, rfl, _, _, rfl, _, _, rfl, _, _, rfl, rfl, ?_⟩
    refine ⟨_, rfl, _, rfl, hnl, _, _, rfl, rfl, _, rfl, ite2 (fun h1 => ⟨_, _, rfl, rfl, _, rfl, ?_⟩) (fun h1 => ⟨_, rfl, iteT (iteT ⟨_, rfl, rN (bad ?_) H (Same.refl H)⟩)⟩)⟩
    rotate_left
    · have hn : ¬ 1 ≤ e.n.length := fun z => h1 (decide_eq_true (by rw [S_len]; omega))
      unfold isW
      rw [decide_eq_false hn, Bool.false_and]
    have g1 : 1 ≤ e.n.length := by
      have := of_decide_eq_true h1
      rw [S_len] at this
      omega
    refine ite2 (fun h2 => iteT ⟨_, rfl, rN (bad ?_) H (Same.refl H)⟩) (fun h2 => ?_)
    · have hn : ¬ e.n.length ≤ 8 := fun z => by
        have h3 : decide (((S e.n).length : Int) ≤ 8) = true := decide_eq_true (by rw [S_len]; omega)
        have h4 : (!decide (((S e.n).length : Int) ≤ 8)) = true := h2
        rw [h3] at h4
        cases h4
      unfold isW
      rw [decide_eq_false hn, Bool.false_and, Bool.and_false]
    have g2 : e.n.length ≤ 8 := by
      have h3 : decide (((S e.n).length : Int) ≤ 8) = true := by
        cases ee : decide (((S e.n).length : Int) ≤ 8) with
        | true => rfl
        | false => exact absurd (show (!decide (((S e.n).length : Int) ≤ 8)) = true by rw [ee]; rfl) h2
      have := of_decide_eq_true h3
      rw [S_len] at this
      omega
    refine ⟨_, rfl, _, rfl, fun D hD => lc_text (fun _ => true) (fun c => V.bl (decide (c ∈ azL))) (by omega) (fun _ => rfl) (fun _ _ _ _ _ q => q) (fun c hc _ H2 Q2 off q => (by
      refine ⟨_, rfl, _, _, rfl, rfl, _, rfl, ?_⟩
      rw [lea]
      refine ite2 (fun h3 => ⟨_, _, rfl, rfl, ?_⟩) (fun h3 => ?_)
      · rw [lez]
        rw [decide_eq_decide.mpr (az_iff.trans ⟨fun z => z.2, fun z => ⟨of_decide_eq_true h3, z⟩⟩)] at q
        exact q
      · rw [decide_eq_false (fun z => h3 (decide_eq_true (az_iff.mp z).1))] at q
        exact q)) ?_⟩
    refine ⟨D, e.n.map (fun c => decide (c ∈ azL)), rfl, ?_, ?_⟩
    · rw [List.map_map]
      refine SqL.of ?_
      rw [upd_same, List.filter_eq_self.mpr (fun _ _ => rfl)]
      rfl
    have e3 : (e.n.map fun c => decide (c ∈ azL)).all id = decide (∀ c ∈ e.n, c ∈ azL) := by
      rw [Bool.eq_iff_iff]
      simp
    rw [e3]
    have s1 : Same H (upd H D (.lst ((e.n.filter fun _ => true).map fun c => V.bl (decide (c ∈ azL))))) := upd_laid hD
    generalize upd H D (.lst ((e.n.filter fun _ => true).map fun c => V.bl (decide (c ∈ azL)))) = H1 at s1
    have hw : isW azL 8 e.n = decide (∀ c ∈ e.n, c ∈ azL) := by
      unfold isW
      rw [decide_eq_true g1, decide_eq_true g2, Bool.true_and, Bool.true_and]
    rw [← hw]
    refine ⟨_, rfl, ite2 (fun h3 => ⟨_, rfl, rN (bad (by simpa using h3)) H1 s1⟩) (fun h3 => ?_)⟩
    have w1 : ¬ isW azL 8 e.n = false := by simpa using h3
    have hA1 := hA.same s1
    refine ⟨_, rfl, _, rfl, (by show 2 ≤ sizeLine; decide), fun p1 hp1 => ?_⟩
    have s2 := Same.trans s1 (upd_laid (o := .lst [.str (S e.l), .str (S e.s)]) hp1)
    have hp2 : (upd H1 p1 (.lst [.str (S e.l), .str (S e.s)])) p1 = some (.lst [.str (S e.l), .str (S e.s)]) := upd_same
    generalize upd H1 p1 (.lst [.str (S e.l), .str (S e.s)]) = H2 at s2 hp2
    refine ⟨p1, rfl, ⟨_, SqL.of hp2⟩, for_list (K := K) (a := p1) (xs := [.str (S e.l), .str (S e.s)]) (fun i σ H' => (∃ v8 : Option V, σ = [some (.ref al), some (.ref x), some (.ref y), some (.str (S e.n)), some (.str (S e.l)), some (.str (S e.s)), some (.str (S e.p)), none, v8, none]) ∧ Same H2 H' ∧ (1 ≤ i → isW sg 6 e.l = true) ∧ (2 ≤ i → isW sg 6 e.s = true))
      ⟨⟨none, rfl⟩, Same.refl _, by omega, by omega⟩ (fun i σ H' _ ⟨_, s, _⟩ => SqL.of (s _ _ hp2)) ?_ ?_⟩
    · rintro i z σ H3 hi ⟨⟨v8, rfl⟩, s3, c1, c2⟩
      have s23 := Same.trans s2 s3
      match i, hi with
      | 0, hi =>
        have hy : V.str (S e.l) = z := Option.some.inj hi
        subst hy
        refine ⟨_, rfl, _, rfl, al, l, v, e.l, rfl, hA.same s23, ol, fun H4 s4 => ?_⟩
        rw [hsg]
        refine ⟨_, rfl, ite2 (fun h2 => ?_) (fun h2 => ?_)⟩
        · have h3 : isW sg 6 e.l = false := by simpa using h2
          refine ⟨_, rfl, rF e.l ol ?_ H4 (Same.trans s23 s4)⟩
          unfold faultL
          rw [if_neg w1, if_pos h3]
        · have h3 : isW sg 6 e.l = true := by simpa using h2
          exact ⟨⟨_, rfl⟩, Same.trans s3 s4, fun _ => h3, by omega⟩
      | 1, hi =>
        have hy : V.str (S e.s) = z := Option.some.inj hi
        subst hy
        have d1 := c1 (Nat.le_refl _)
        refine ⟨_, rfl, _, rfl, al, l, v, e.s, rfl, hA.same s23, os, fun H4 s4 => ?_⟩
        rw [hsg]
        refine ⟨_, rfl, ite2 (fun h2 => ?_) (fun h2 => ?_)⟩
        · have h3 : isW sg 6 e.s = false := by simpa using h2
          refine ⟨_, rfl, rF e.s os ?_ H4 (Same.trans s23 s4)⟩
          unfold faultL
          rw [if_neg w1, if_neg (by rw [d1]; decide), if_pos h3]
        · have h3 : isW sg 6 e.s = true := by simpa using h2
          exact ⟨⟨_, rfl⟩, Same.trans s3 s4, fun _ => d1, fun _ => h3⟩
      | n + 2, hi => simp at hi
    · rintro σ H3 ⟨⟨v8, rfl⟩, s3, c1, c2⟩
      have d1 := c1 (by show 1 ≤ 2; decide)
      have d2 := c2 (by show 2 ≤ 2; decide)
      have s23 := Same.trans s2 s3
      obtain ⟨r, hr1, hr2⟩ := Wk.kI e.p
      refine ⟨_, rfl, S e.p, r, rfl, rfl, hr1, ?_⟩
      rw [hr2]
      refine ⟨_, rfl, ite2 (fun h2 => ?_) (fun h2 => ?_)⟩
      · have h3 : e.p ∉ kindsL := by simpa using h2
        refine ⟨_, rfl, rP ?_ H3 s23⟩
        unfold faultL
        rw [if_neg w1, if_neg (by rw [d1]; decide), if_neg (by rw [d2]; decide), if_pos h3]
      have h3 : ¬ e.p ∉ kindsL := by simpa using h2
      have hY3 := hY.same s23
      refine ⟨_, rfl, y, rfl, ⟨_, SqL.of hY3.1⟩, fun D2 hD2 => lc_lst (fun q : Addr × Row => V.ref q.1) (fun _ => true) (fun q => V.bl (decide (e.n = q.2.n))) (by omega) hY3.1 hD2 (fun _ => rfl) (fun _ _ _ _ _ q => q) (fun q hq _ H4 Q4 off k3 => ⟨_, rfl, _, rfl, q.1, _, 0, _, rfl, rfl, SqT.of ((off q.1 (ne_of_none (hY3.2 q hq).1 hD2)).trans (hY3.2 q hq).1), rfl, rfl, by rw [S_eq_iff]; exact k3⟩) ?_⟩
      rw [col_map]
      have s5 := Same.trans s23 (upd_laid (o := .lst (ps.map fun q => V.bl (decide (e.n = q.2.n)))) hD2)
      have hD5 : (upd H3 D2 (.lst (ps.map fun q => V.bl (decide (e.n = q.2.n))))) D2 = some (.lst ((ps.map fun q => decide (e.n = q.2.n)).map V.bl)) := by
        rw [upd_same, List.map_map]
        rfl
      generalize upd H3 D2 (.lst (ps.map fun q => V.bl (decide (e.n = q.2.n)))) = H5 at s5 hD5
      have eany : (ps.map fun q => decide (e.n = q.2.n)).any id = decide (e.n ∈ (ps.map (·.2)).map (·.n)) := by
        rw [Bool.eq_iff_iff]
        constructor
        · intro h
          obtain ⟨b, hb, ht⟩ := List.any_eq_true.mp h
          obtain ⟨q, hq, rfl⟩ := List.mem_map.mp hb
          exact decide_eq_true (List.mem_map.mpr ⟨q.2, List.mem_map.mpr ⟨q, hq, rfl⟩, (of_decide_eq_true ht).symm⟩)
        · intro h
          obtain ⟨r, hr, he⟩ := List.mem_map.mp (of_decide_eq_true h)
          obtain ⟨q, hq, rfl⟩ := List.mem_map.mp hr
          exact List.any_eq_true.mpr ⟨_, List.mem_map.mpr ⟨q, hq, rfl⟩, decide_eq_true he.symm⟩
      refine ⟨D2, _, rfl, SqL.of hD5, ?_⟩
      rw [eany]
      refine ⟨_, rfl, ite2 (fun h4 => ?_) (fun h4 => ?_)⟩
      · refine ⟨_, rfl, rD ?_ H5 s5⟩
        unfold faultL
        rw [if_neg w1, if_neg (by rw [d1]; decide), if_neg (by rw [d2]; decide), if_neg h3, if_pos (of_decide_eq_true h4)]
      have h5 : ¬ e.n ∈ (ps.map (·.2)).map (·.n) := fun z => h4 (decide_eq_true z)
      have hY5 := hY.same s5
      refine ⟨_, rfl, y, rfl, ⟨_, SqL.of hY5.1⟩, for_list (K := K) (a := y) (xs := ps.map fun q => V.ref q.1) (fun i σ H' => H' = H5 ∧ (∃ v8 v9 : Option V, σ = [some (.ref al), some (.ref x), some (.ref y), some (.str (S e.n)), some (.str (S e.l)), some (.str (S e.s)), some (.str (S e.p)), none, v8, v9]) ∧ ∀ r ∈ (ps.map (·.2)).take i, confB r e = false)
        ⟨rfl, ⟨_, _, rfl⟩, by simp⟩ (fun i σ H' _ ⟨e, _⟩ => SqL.of (by rw [e]; exact hY5.1)) ?_ ?_⟩
      · rintro i z σ H6 hi ⟨rfl, ⟨v8, v9, rfl⟩, hno⟩
        obtain ⟨q, hq, rfl⟩ : ∃ q, ps[i]? = some q ∧ z = V.ref q.1 := by
          rw [List.getElem?_map] at hi
          cases ee : ps[i]? with
          | none => rw [ee] at hi; cases hi
          | some z => rw [ee] at hi; exact ⟨z, rfl, (Option.some.inj hi).symm⟩
        have hqm := List.mem_of_getElem? hq
        obtain ⟨hqt, hqok⟩ := hY5.2 q hqm
        have hq2 : (ps.map (·.2))[i]? = some q.2 := by rw [List.getElem?_map, hq]; rfl
        refine ⟨_, rfl, _, rfl, x, q.1, e, q.2, rfl, s5 _ _ hx, hqt, _, rfl, ite2 (fun h6 => ?_) (fun h6 => ⟨rfl, ⟨_, _, rfl⟩, fun r hr => ?_⟩)⟩
        · refine ⟨_, rfl, _, rfl, q.1, _, 0, _, rfl, rfl, SqT.of hqt, rfl, rC q.2.n hqok.1 ?_ H6 s5⟩
          have hfind : (ps.map (·.2)).find? (fun r => confB r e) = some q.2 := by
            rw [List.find?_eq_some_iff_append]
            refine ⟨h6, (ps.map (·.2)).take i, (ps.map (·.2)).drop (i + 1), ?_, fun r hr => ?_⟩
            · have hil : i < (ps.map (·.2)).length := (List.getElem?_eq_some_iff.mp hq2).1
              have hg := (List.getElem?_eq_some_iff.mp hq2).2
              rw [← hg, ← List.drop_eq_getElem_cons hil, List.take_append_drop]
            · rw [hno r hr]
              rfl
          unfold faultL
          rw [if_neg w1, if_neg (by rw [d1]; decide), if_neg (by rw [d2]; decide), if_neg h3, if_neg h5, hfind]
        · rw [List.take_add_one, hq2] at hr
          rcases List.mem_append.mp hr with h | h
          · exact hno r h
          · have : r = q.2 := by simpa using h
            rw [this]
            exact Bool.eq_false_iff.mpr h6
      · rintro σ H6 ⟨rfl, ⟨v8, v9, rfl⟩, hno⟩
        refine kq ?_ H6 s5
        have hl : (ps.map fun q => V.ref q.1).length = (ps.map (·.2)).length := by rw [List.length_map, List.length_map]
        rw [hl, List.take_length] at hno
        have hfind : (ps.map (·.2)).find? (fun r => confB r e) = none := by
          rw [List.find?_eq_none]
          intro r hr
          rw [hno r hr]
          decide
        unfold faultL
        rw [if_neg w1, if_neg (by rw [d1]; decide), if_neg (by rw [d2]; decide), if_neg h3, if_neg h5, hfind]
end
end
section
set_option Elab.async false
set_option linter.all false
set_option maxRecDepth 100000
set_option maxHeartbeats 8000000
open PySem PySem.Spec PyProof.Rows L2 L2H
section
variable {P : Program} {w : World} {K : PySem.W.Frag} {mg : Str → Option Value} {base : Heap}
abbrev sBadLine : Stmt := inClass (top 11) 0
def spELine (C : Addr) : Sp := fun vs H Q _ => ∃ (a : Addr) (k : Nat), vs = [.ref a, .int (k : Int)] ∧ k ≤ 9 ∧ H a = some (exo a C none) ∧
  ∀ dx, H dx = none → dx ≠ a → Q .non (upd (upd H dx (exd dx [("line", .int (k : Int))])) a (exo a C (some dx)))
theorem scBadLine : SScope ["self", "line"] (defScope sBadLine) := ⟨rfl, rfl, rfl, by decide +kernel, by decide +kernel, by decide +kernel, fun x h => (show ∀ y ∈ (defScope sBadLine).names, y.2 = .free → y.1 = "__class__" by decide +kernel) _ (PySem.mem_of_lookup h) rfl, by decide +kernel, by decide +kernel⟩
theorem ok_eBadLine {f C cc cda : Addr} {dV kV doc pm ct oc : Value} {an od : Option Addr} {osl : Array (Option Value)} (T : SupC P K mg C cc cda) (hp : PySem.W.findIn K (.ref C) "line" = some none)
    (lk : K.lookup f = some ⟨oc, od, .func (PySem.W.ksFn "__init__" "BadLine.__init__" (defArgs sBadLine) (defBody sBadLine) (defScope sBadLine) dV kV doc pm an (.ref cda) ct cc), osl⟩) (hcd : PySem.W.codeIn K (.ref cda) "BadLine.__init__" = true) :
    FnOk P w K mg base CX0 1 f (PySem.W.ksFn "__init__" "BadLine.__init__" (defArgs sBadLine) (defBody sBadLine) (defScope sBadLine) dV kV doc pm an (.ref cda) ct cc) ["self", "line"] (spELine C) := by
  refine fn_super (self := "self") (N' := ["line"]) T lk hcd scBadLine rfl rfl rfl rfl (fun _ => rfl) (fun _ => rfl) (fun vs H Q E h => ?_) (fun A outer s H vs Q E hr h => ?_)
  · obtain ⟨a, n, rfl, _⟩ := h
    rfl
  · obtain ⟨a, n, rfl, hn, ha, k⟩ := h
    refine ⟨_, _, pe_joined (.cons pe_str (.cons (pe_fmt (pv 1)) .nil)), pss_one (ps_ost (pv 0) (pv 1)), ⟨a, rfl, ha⟩, ?_⟩
    have f1 : ∀ i : Fin 10, ((i.val : Nat) : Int).natAbs.log2 < 1920 := by decide +kernel
    have f2 : ∀ i : Fin 10, (Str.empty ++ PySem.Str.ofString "wrong book, in line " ++ PySem.Str.ofString (toString ((i.val : Nat) : Int))).length ≤ 400000 := by decide +kernel
    refine ⟨_, rfl, sl4 ?_, _, rfl, .inr ⟨n, rfl, f1 ⟨n, by omega⟩, _, rfl, sl4 (f2 ⟨n, by omega⟩), ⟨a, rfl, ha⟩, ?_⟩⟩
    · decide +kernel
    · exact ⟨_, rfl, _, rfl, a, C, rfl, T.oex, hp, .inl ⟨ha, fun dx hd hn => k dx hd hn⟩⟩
theorem ok_hBadLine {f C cc cda : Addr} {dV kV doc pm ct oc : Value} {an od : Option Addr} {osl : Array (Option Value)} (T : SupC P K mg C cc cda) (hp : PySem.W.findIn K (.ref C) "line" = some none)
    (lk : K.lookup f = some ⟨oc, od, .func (PySem.W.ksFn "__init__" "BadLine.__init__" (defArgs sBadLine) (defBody sBadLine) (defScope sBadLine) dV kV doc pm an (.ref cda) ct cc), osl⟩) (hcd : PySem.W.codeIn K (.ref cda) "BadLine.__init__" = true) :
    FnH P w K mg base CX0 1 f (PySem.W.ksFn "__init__" "BadLine.__init__" (defArgs sBadLine) (defBody sBadLine) (defScope sBadLine) dV kV doc pm an (.ref cda) ct cc) ["self", "line"] (spELine C) := by
  refine fn_superH (self := "self") (N' := ["line"]) T lk hcd scBadLine rfl rfl rfl rfl (fun _ => rfl) (fun _ => rfl) (fun vs H Q E h => ?_) (fun A outer s H vs Q E p hot hr h => ?_)
  · obtain ⟨a, n, rfl, _⟩ := h
    rfl
  · obtain ⟨a, n, rfl, hn, ha, k⟩ := h
    refine ⟨_, _, pe_joined (.cons pe_str (.cons (pe_fmt (pv 1)) .nil)), pss_one (ps_ost (pv 0) (pv 1)), ⟨a, rfl, ha⟩, ?_⟩
    have f1 : ∀ i : Fin 10, ((i.val : Nat) : Int).natAbs.log2 < 1920 := by decide +kernel
    have f2 : ∀ i : Fin 10, (Str.empty ++ PySem.Str.ofString "wrong book, in line " ++ PySem.Str.ofString (toString ((i.val : Nat) : Int))).length ≤ 400000 := by decide +kernel
    refine ⟨_, rfl, sl4 ?_, _, rfl, .inr ⟨n, rfl, f1 ⟨n, by omega⟩, _, rfl, sl4 (f2 ⟨n, by omega⟩), ⟨a, rfl, ha⟩, ?_⟩⟩
    · decide +kernel
    · exact ⟨_, rfl, _, rfl, a, C, rfl, T.oex, hp, .inl ⟨ha, fun dx hd hn => k dx hd hn⟩⟩
end
end
section
set_option Elab.async false
set_option linter.all false
set_option maxRecDepth 100000
set_option maxHeartbeats 8000000
open PySem PySem.Spec PyProof.Rows L2


theorem join_sumB {us : List (List Nat)} (h : us.flatten.length ≤ 16000000) : ((us.map S).map (·.length)).sum + (us.map S).length * (S []).length ≤ 16777216 := by
  have h3 : ((us.map S).map (·.length)).sum = us.flatten.length := by
    clear h
    induction us with
    | nil => rfl
    | cons z us ih =>
      simp only [List.map_cons, List.sum_cons, S_len, List.flatten_cons, List.length_append]
      rw [← ih]
  rw [h3, S_len]
  simp only [List.length_nil]
  omega
theorem emp_S : (Str.empty : Str) = S [] := by decide +kernel
def noteT (rs : List Row) : List Nat := (rs.map lineL).flatten
theorem noteT_len : ∀ rs : List Row, (∀ r ∈ rs, r.ok) → (noteT rs).length ≤ 12004 * rs.length
  | [], _ => Nat.zero_le _
  | r :: rs, h => by
    have ih := noteT_len rs fun x hx => h x (List.mem_cons_of_mem _ hx)
    obtain ⟨⟨h1, _⟩, ⟨h2, _⟩, ⟨h3, _⟩, ⟨h4, _⟩⟩ := h r List.mem_cons_self
    have hl := lineL_len r
    show ((lineL r :: rs.map lineL).flatten).length ≤ _
    rw [List.flatten_cons, List.length_append]
    have ih2 : ((rs.map lineL).flatten).length ≤ 12004 * rs.length := ih
    rw [List.length_cons]
    omega
section
variable {P : Program} {w : World} {K : PySem.W.Frag} {mg : Str → Option Value} {base : Heap} {a : Ad} {d : Fd} {CB fE : Addr} {fdE : FuncData} {mcB : Value} {tmB : Tok}
def spFormat (CB : Addr) : Sp := fun vs H Q _ => ∃ (bk al : Addr) (qs : List (Addr × Row)), vs = [.ref bk] ∧ IsBook CB bk al H qs ∧ (qs.map fun q => q.2.n).Nodup ∧ qs.length ≤ 20 ∧ ∀ H', Same H H' → Q (.str (S (noteT (qs.map (·.2))))) H'
theorem scFormat : FnScope ["book", "name", "long", "short", "place"] ["book"] (defScope sFormat) := ⟨rfl, rfl, rfl, by decide +kernel, rfl, by decide +kernel, by decide +kernel⟩
theorem ok_format (T : Fns K mg a d) (BV : BkV K mg CB mcB tmB) (mE : Meth K CB "entries" fE) (GE : FnOk P w K mg base CX0 1 fE fdE ["self"] (spEntries CB)) (bE : Binds K fdE ["self"] []) :
    FnOk P w K mg base CX0 2 a.aFormat d.dFormat ["book"] (spFormat CB) := by
  refine T.FFormat.ok scFormat (fun vs H Q E h => ?_) (fun cdv A outer s H vs Q E hr h => ?_)
  · obtain ⟨bk, al, qs, rfl, _⟩ := h
    rfl
  · obtain ⟨bk, al, qs, rfl, hB, hnd, hl, k⟩ := h
    refine ⟨_, ((pss_one (ps_ret (pe_join (pe_strS (l := []) (by decide +kernel)) (pe_lc (own := [("name", 1), ("long", 2), ("short", 3), ("place", 4)]) (g := gTup K 4 (gCons (gName 1) (gCons (gName 2) (gCons (gName 3) (gCons (gName 4) gNil))))) (by rfl) scFormat.nd (pi_list (pe_meth0 (pv 0) BV.cl mE GE (hr.mono (by decide)) bE .nil pass0)) (blkOk_by (own := [("name", 1), ("long", 2), ("short", 3), ("place", 4)]) (N := ["book", "name", "long", "short", "place"]) (sc := defScope sFormat) (by decide +kernel)) (fun _ _ _ _ _ => pg_tup rfl (pgs_cons (pg_name (i := 1) scFormat.nd rfl (Or.inl rfl)) (pgs_cons (pg_name (i := 2) scFormat.nd rfl (Or.inl rfl)) (pgs_cons (pg_name (i := 3) scFormat.nd rfl (Or.inl rfl)) (pgs_cons (pg_name (i := 4) scFormat.nd rfl (Or.inl rfl)) pgs_nil))))) (fun _ _ _ _ _ => pts_nil) (fun _ _ _ _ _ => (pe_joined (.cons (pe_fmt (pv 1)) (.cons (pe_strS (l := [32]) (by decide +kernel)) (.cons (pe_fmt (pv 4)) (.cons (pe_strS (l := [32]) (by decide +kernel)) (.cons (pe_fmt (pv 2)) (.cons (pe_strS (l := [32]) (by decide +kernel)) (.cons (pe_fmt (pv 3)) (.cons (pe_strS (l := [10]) (by decide +kernel)) .nil))))))))))))))), ?_⟩
    obtain ⟨dx, DD, hb0, hb1, hb2⟩ := id hB
    walk_at "go"
    refine ⟨bk, al, qs, rfl, hB, hnd, hl, fun p H1 hp hp1 s1 => ?_⟩
    walk_at "go"
    rename_i D hD
    have hq1 : ∀ q ∈ qs, H1 q.1 = some (.tup q.2.vs) ∧ q.2.ok := fun q hq => ⟨s1 _ _ (hb2 q hq).1, (hb2 q hq).2⟩
    refine lc_it (g := gTup K 4 (gCons (gName 1) (gCons (gName 2) (gCons (gName 3) (gCons (gName 4) gNil))))) (tt := tYes) (te := fun σ H Q => tJs [tFmt (tVar 1), tC (V.str (S [32])), tFmt (tVar 4), tC (V.str (S [32])), tFmt (tVar 2), tC (V.str (S [32])), tFmt (tVar 3), tC (V.str (S [10]))] Str.empty σ H fun out H1 => Q (V.str out) H1) (walk_list (K := K) (a := p) (xs := qs.map fun q => V.ref q.1)) (fun i H => H = upd H1 D (.lst ((qs.take i).map fun q => V.str (S (lineL q.2))))) rfl (fun i H hi e => ?_) ?_ ?_
    · subst e
      exact SqL.off (SqL.of hp1) hD fun b hb => upd_ne hb
    · rintro i x H2 H3 hi hP ⟨rfl, hc⟩
      subst hP
      rw [List.getElem?_map] at hc
      obtain ⟨q, hqi, rfl⟩ := Option.map_eq_some_iff.mp hc
      have hqm := List.mem_of_getElem? hqi
      obtain ⟨ht, hok⟩ := hq1 q hqm
      have hqD : q.1 ≠ D := ne_of_none ht hD
      obtain ⟨⟨h1, _⟩, ⟨h2, _⟩, ⟨h3, _⟩, ⟨h4, _⟩⟩ := id hok
      have hil : i < qs.length := (List.getElem?_eq_some_iff.mp hqi).1
      refine ⟨q.1, _, rfl, SqT.of (by rw [upd_ne hqD]; exact ht), rfl, _, _, rfl, _, _, rfl, _, _, rfl, _, _, rfl, rfl, rfl, ?_⟩
      refine iYes ?_
      rw [if_pos rfl]
      refine ⟨_, rfl, .inl ⟨S q.2.n, rfl, sl4 (by rw [S_len]; omega), _, rfl, sl4 (by simp only [al2, e0l, S_len, List.length_cons, List.length_nil]; omega), _, rfl, sl4 (by simp only [al2, e0l, S_len, List.length_cons, List.length_nil]; omega), _, rfl, .inl ⟨S q.2.p, rfl, sl4 (by rw [S_len]; omega), _, rfl, sl4 (by simp only [al2, e0l, S_len, List.length_cons, List.length_nil]; omega), _, rfl, sl4 (by simp only [al2, e0l, S_len, List.length_cons, List.length_nil]; omega), _, rfl, .inl ⟨S q.2.l, rfl, sl4 (by rw [S_len]; omega), _, rfl, sl4 (by simp only [al2, e0l, S_len, List.length_cons, List.length_nil]; omega), _, rfl, sl4 (by simp only [al2, e0l, S_len, List.length_cons, List.length_nil]; omega), _, rfl, .inl ⟨S q.2.s, rfl, sl4 (by rw [S_len]; omega), _, rfl, sl4 (by simp only [al2, e0l, S_len, List.length_cons, List.length_nil]; omega), _, rfl, sl4 (by simp only [al2, e0l, S_len, List.length_cons, List.length_nil]; omega), ?_⟩⟩⟩⟩⟩
      refine ⟨_, upd_same, by rw [List.length_map, List.length_take, sizeLine_eq]; omega, ?_⟩
      rw [upd_upd, List.take_add_one, hqi, List.map_append]
      rw [emp_S, S_app, S_app, S_app, S_app, S_app, S_app, S_app, S_app, List.nil_append]
      rfl
    · rintro H2 rfl
      rw [List.length_map, List.take_length]
      have s2 : Same H (upd H1 D (.lst (qs.map fun q => V.str (S (lineL q.2))))) := Same.trans s1 (upd_laid hD)
      have hD2 : (upd H1 D (.lst (qs.map fun q => V.str (S (lineL q.2))))) D = some (.lst ((qs.map fun q : Addr × Row => lineL q.2).map fun t => V.str (S t))) := by
        rw [upd_same, List.map_map]
        rfl
      have hnl := noteT_len (qs.map (·.2)) (fun r hr => by
        obtain ⟨q', hq', rfl⟩ := List.mem_map.mp hr
        exact (hb2 q' hq').2)
      have e3 : noteT (qs.map (·.2)) = (qs.map fun q : Addr × Row => lineL q.2).flatten := by
        unfold noteT
        rw [List.map_map]
        rfl
      rw [List.length_map, e3] at hnl
      refine ⟨_, D, (qs.map fun q : Addr × Row => lineL q.2).map S, rfl, rfl, .inl (SqL.of (strs_map _ _ _ hD2)), join_sumB (by omega), ?_⟩
      rw [join_flat]
      have k2 := k _ s2
      rw [e3] at k2
      walk_at "go"
      exact k2
end
end
section
set_option Elab.async false
set_option linter.all false
set_option maxRecDepth 100000
set_option maxHeartbeats 8000000
open PySem PySem.Spec PyProof.Rows L2 L2N L2H


def Told (C CB : Addr) (c : Er) (al : Addr) (sg : List Nat) (ps : List (Addr × Row)) (H : Hp) (Q : VK) (E : XK) : Prop :=
  (ps.length ≤ 8 → firstF sg [] (ps.map (·.2)) = [] → ∀ bk qs H', H bk = none → qs.Perm ps → sortedR qs → (ps.map fun q => q.2.n).Nodup → IsBook CB bk al H' qs → Same H H' → Q (.ref bk) H') ∧
  (8 < ps.length → ∀ dd H', H dd = none → H' dd = some (.xd [("most", .int 8)]) → Same H H' → E (.ref c.tm) (some dd) H') ∧
  (ps.length ≤ 8 → ∀ B dd fs H', Raised c (firstF sg [] (ps.map (·.2))) B fs → H dd = none → H' dd = some (.xd fs) → Same H H' → E (.ref B) (some dd) H')
theorem Told.same {C CB : Addr} {c : Er} {al : Addr} {sg : List Nat} {ps : List (Addr × Row)} {H H1 : Hp} {Q : VK} {E : XK} (t : Told C CB c al sg ps H Q E) (s : Same H H1) : Told C CB c al sg ps H1 Q E :=
  ⟨fun h8 hf bk qs H' z1 z2 z3 z4 z5 z6 => t.1 h8 hf bk qs H' (Same.none s z1) z2 z3 z4 z5 (Same.trans s z6), fun h8 dd H' z1 z2 z3 => t.2.1 h8 dd H' (Same.none s z1) z2 (Same.trans s z3), fun h8 B dd fs H' r z1 z2 z3 => t.2.2 h8 B dd fs H' r (Same.none s z1) z2 (Same.trans s z3)⟩
theorem told_fin {C CB : Addr} {c : Er} {al : Addr} {l v : List Nat} {ps : List (Addr × Row)} {H : Hp} {Q : VK} {E : XK} (hA : IsAl C H al l v) (hR : ∀ q ∈ ps, H q.1 = some (.tup q.2.vs) ∧ q.2.ok) (hps : ps.length ≤ 20) (t : Told C CB c al (45 :: srtL l) ps H Q E) :
    ∀ x dx, H x = none → H dx = none → dx ≠ x → spBIr C CB c (V.ref x :: (V.ref al :: ps.map fun q => V.ref q.1)) (upd (upd H dx (.own x)) x (.ins CB dx [])) (fun v H2 => v = .non ∧ Q (.ref x) H2) E := by
  intro x dx hx hdx hne
  refine ⟨[V.ref x, V.ref al], ps.map fun q => V.ref q.1, rfl, rfl, by rw [List.length_map, sizeLine_eq]; omega, fun p hp => ?_⟩
  have s1 : Same H (upd (upd H dx (.own x)) x (.ins CB dx [])) := Same.trans (upd_laid hdx) (upd_laid (by rw [upd_ne hne.symm]; exact hx))
  have hx1 : (upd (upd H dx (.own x)) x (.ins CB dx [])) x = some (.ins CB dx []) := upd_same
  generalize upd (upd H dx (.own x)) x (.ins CB dx []) = H1 at s1 hx1 hp
  have s2 : Same H1 (upd H1 p (.tup (ps.map fun q => V.ref q.1))) := upd_laid hp
  have hp2 : (upd H1 p (.tup (ps.map fun q => V.ref q.1))) p = some (.tup (ps.map fun q => V.ref q.1)) := upd_same
  have s12 := Same.trans s1 s2
  have hx2 := s2 _ _ hx1
  generalize upd H1 p (.tup (ps.map fun q => V.ref q.1)) = H2 at s2 hp2 s12 hx2
  obtain ⟨kq, km, ke⟩ := t
  exact ⟨x, al, p, dx, l, v, ps, rfl, hx2, hA.same s12, ⟨hp2, fun q hq => ⟨s12 _ _ (hR q hq).1, (hR q hq).2⟩⟩, by omega, fun h8 hf qs H' hperm hsort hnd hB hk => ⟨rfl, kq h8 hf x qs H' hx hperm hsort hnd hB fun b o hb => hk b o (ne_of_none hb hx) (s12 b o hb)⟩, fun h8 dd H' z1 z2 z3 => km h8 dd H' (Same.none s12 z1) z2 (Same.trans s12 z3), fun h8 B dd fs H' hr5 z1 z2 z3 => ke h8 B dd fs H' hr5 (Same.none s12 z1) z2 (Same.trans s12 z3)⟩
section
variable {P : Program} {w : World} {K : PySem.W.Frag} {mg : Str → Option Value} {base : Heap} {a : Ad} {d : Fd} {c : Er} {C CB fT fI bl blF TE : Addr} {fdT blD : FuncData} {mcB : Value} {tmB : Tok}
def stP (al : Addr) (t : List Nat) (pl : Addr) (rest : List Nat) (u : Addr) (v5 v6 v7 v8 v9 v10 v11 : Option V) : L2.St := [some (.ref al), some (.str (S t)), some (.ref pl), some (.str (S rest)), some (.ref u), v5, v6, v7, v8, v9, v10, v11]
def spParse (C CB bl : Addr) : Sp := fun vs H Q E => ∃ (al : Addr) (l v t : List Nat), vs = [.ref al, .str (S t)] ∧ IsAl C H al l v ∧ t.length ≤ 2900 ∧ WideOk t ∧
  (∀ k, noteL (45 :: srtL l) t = .inl k → ∀ dd H', H dd = none → H' dd = some (.xd [("line", .int (k : Int))]) → Same H H' → E (.ref bl) (some dd) H') ∧
  (∀ rs, noteL (45 :: srtL l) t = .inr rs → ∀ bk (ps qs : List (Addr × Row)) H', ps.map (·.2) = rs → qs.Perm ps → sortedR qs → (ps.map fun q => q.2.n).Nodup → IsBook CB bk al H' qs → Same H H' → Q (.ref bk) H')
theorem scParse : FnScope ["alphabet", "text", "lines", "rest", "entries", "at", "line", "parts", "name", "place", "long", "short"] ["alphabet", "text"] (defScope sParse) := ⟨rfl, rfl, rfl, by decide +kernel, rfl, by decide +kernel, by decide +kernel⟩
theorem ok_parse (T : Fns K mg a d) (A : AlF K C) (BV : BkV K mg CB mcB tmB) (M : Mk K CB fI) (GBI : FnR P w K mg base (L2.CX P w) 4 fI (spBIr C CB c)) (XL : EF K mg "BadLine" bl blF blD ["self", "line"]) (GBL : FnOk P w K mg base CX0 1 blF blD ["self", "line"] (spELine bl)) (HBL : L2H.FnH P w K mg base CX0 1 blF blD ["self", "line"] (spELine bl))
    (gTE : mg "TaleError" = some (.ref TE)) (hTE : ∀ B, (B = c.bn ∨ B = c.bf ∨ B = c.up ∨ B = c.dn ∨ B = c.cf) → PySem.W.exmOne K (.ref B) (.ref TE) = some true)
    (GCheck : FnOk P w K mg base (L2N.CX P w) 3 a.aCheck d.dCheck ["alphabet", "entry", "earlier"] (spCheckL C c)) :
    FnOk P w K mg base (L2.CX P w) 6 a.aParse d.dParse ["alphabet", "text"] (spParse C CB bl) := by
  refine T.FParse.okX scParse (fun vs H Q E h => ?_) (fun cdv A0 outer s H vs Q E hr h => ?_)
  · obtain ⟨al, l, v, t, rfl, _⟩ := h
    rfl
  · obtain ⟨al, l, v, t, rfl, hA, htl, htw, k1, k2⟩ := h
    refine ⟨_, pss_cons (ps_asg (pe_split (pv 1) (pe_strS (l := [10]) (by decide +kernel))) (pg_starL rfl (pgs_star (pg_name (i := 2) scParse.nd rfl (Or.inl rfl)) (pgs_cons (pg_name (i := 3) scParse.nd rfl (Or.inl rfl)) pgs_nil))))
      (pss_cons (ps_set (i := 4) scParse.nd rfl (Or.inl rfl) (pe_lst pa_nil))
      (pss_cons (ps_for (passes_of rfl) rfl (pi_enum (by rfl) T.z_enum (pa_cons (pv 2) pa_nil)) (pg_tup rfl (pgs_cons (pg_name (i := 5) scParse.nd rfl (Or.inl rfl)) (pgs_cons (pg_name (i := 6) scParse.nd rfl (Or.inl rfl)) pgs_nil)))
        (pss_cons (ps_set (i := 7) scParse.nd rfl (Or.inl rfl) (pe_split (pv 6) (pe_strS (l := [32]) (by decide +kernel))))
        (pss_cons (ps_if (PW.pt (pw_or (pt_cmpR op_ne (pe_callB call_len_seq (by rfl) T.z_len (by decide +kernel) (pa_cons (pv 7) pa_nil)) pe_int (nomark _)) (pw_or1 (pt_cmpR op_eq (pe_callB call_len_seq (by rfl) T.z_len (by decide +kernel) (pa_cons (pv 4) pa_nil)) (ClX.pe_cval (pe_glob (v := .ref CB) (by rfl) BV.gB rfl)) (nomark _)))))
          (pss_one (ps_raise rfl (takes_of rfl rfl rfl rfl) (pmk_oex XL.ox XL.iC XL.tI GBL (hr.mono (by decide)) XL.bB .nil pass0 (by rfl) XL.gB (pa_cons (pe_op op_add (pv 5) pe_int) pa_nil)))) pss_nil)
        (pss_cons (ps_asg (pv 7) (pg_lst rfl (pgs_cons (pg_name (i := 8) scParse.nd rfl (Or.inl rfl)) (pgs_cons (pg_name (i := 9) scParse.nd rfl (Or.inl rfl)) (pgs_cons (pg_name (i := 10) scParse.nd rfl (Or.inl rfl)) (pgs_cons (pg_name (i := 11) scParse.nd rfl (Or.inl rfl)) pgs_nil))))))
        (pss_cons (ps_try_onlyX (tb := fun W => tDrop (tCallS (spCheckL C c) (WE W) (tCons (tVar 0) (tCons (tTup (tCons (tVar 8) (tCons (tVar 10) (tCons (tVar 11) (tCons (tVar 9) tNil))))) (tCons (tVar 4) tNil))))) (ts := fun _ _ _ _ σ H => tMkO bl (spELine bl) [] (tCons (tOp (rI0 fun i j => .int (i + j)) (tVar 5) (tC (.int 1))) tNil) σ H fun cls d H' => E cls d H') (Wout := fun cls d _ H => E cls d H)
          rfl rfl ⟨rfl, by decide, Or.inl gTE⟩ (passesAt_of rfl) (takes_of rfl rfl rfl rfl)
          (fun W pn xe tk _ _ => pss_one (ps_expr (pe_callS GCheck (hr.mono (by decide)) (by rfl) T.gCheck T.FCheck.kp T.bCheck (fun σ => L2N.passAt tk σ) (pa_cons (pv 0) (pa_cons (pe_tup (pa_cons (pv 8) (pa_cons (pv 10) (pa_cons (pv 11) (pa_cons (pv 9) pa_nil))))) (pa_cons (pv 4) pa_nil))))))
          (fun ab oe cls db pn hz hf tk hot => pss_one (ps_raiseHN hot tk (pmk5_oexH XL.ox XL.iC XL.tI HBL (roomH_mark (hr.mono (by decide)) _) hot XL.bB pass0 (by rfl) XL.gB (pa_cons (pe_op op_add (pv 5) pe_int) pa_nil)))))
        (pss_one (ps_expr (pe_bm PySem.F.plainAttrs_list PySem.F.slot_list_append PySem.F.type_list_append mt_append (pv 4) (pa_cons (pe_tup (pa_cons (pv 8) (pa_cons (pv 10) (pa_cons (pv 11) (pa_cons (pv 9) pa_nil))))) pa_nil)))))))))
      (pss_cons (ps_if (pt_cmpR op_ne (pv 3) (pe_strS (l := []) (by decide +kernel)) (nomark _)) (pss_one (ps_raise rfl (takes_of rfl rfl rfl rfl) (pmk_oex XL.ox XL.iC XL.tI GBL (hr.mono (by decide)) XL.bB .nil pass0 (by rfl) XL.gB (pa_cons (pe_op op_add (pe_callB call_len_seq (by rfl) T.z_len (by decide +kernel) (pa_cons (pv 2) pa_nil)) pe_int) pa_nil)))) pss_nil)
      (pss_one (ps_ret (pe_makeRS M GBI (hr.mono (by decide)) (by rfl) BV.gB (passes_call (E := E) (takes_of rfl rfl rfl rfl) (fun _ _ _ _ h => h)) (pa_cons (pv 0) (StX.pa_star (pv 4) pa_nil)) rfl)))))), ?_⟩
    have hgl := fun rs h => noteL_good (sg := 45 :: srtL l) (t := t) (rs := rs) h
    obtain ⟨L, rest, hcut⟩ := cutC_split 10 t
    have hLl : L.length ≤ 2900 := by
      have h1 := cutC_len 10 t
      rw [hcut, List.length_append] at h1
      simp only [List.length_cons, List.length_nil] at h1
      omega
    walk_at "go"
    rename_i p hp
    rw [split_C (.inl rfl), hcut]
    have s1 : Same H (upd H p (.lst (((L ++ [rest]).map S).map V.str))) := upd_laid hp
    have hp1 : (upd H p (.lst (((L ++ [rest]).map S).map V.str))) p = some (.lst ((L.map fun t => V.str (S t)) ++ [V.str (S rest)])) := by
      rw [upd_same, List.map_append, List.map_append, List.map_map]
      rfl
    generalize upd H p (.lst (((L ++ [rest]).map S).map V.str)) = H1 at s1 hp1
    refine ⟨p, L.map fun t => V.str (S t), [V.str (S rest)], rfl, SqL.of hp1, rfl, by rw [List.length_map]; simp only [List.length_cons, List.length_nil]; omega, fun pl hpl => ?_⟩
    refine ⟨_, _, rfl, _, _, rfl, rfl, ?_⟩
    have s2 : Same H (upd H1 pl (.lst (L.map fun t => V.str (S t)))) := Same.trans s1 (upd_laid hpl)
    have hpl2 : (upd H1 pl (.lst (L.map fun t => V.str (S t)))) pl = some (.lst (L.map fun t => V.str (S t))) := upd_same
    generalize upd H1 pl (.lst (L.map fun t => V.str (S t))) = H2 at s2 hpl2
    walk_at "go"
    rename_i u hu
    have hu0 : H u = none := none_back s2 hu
    have s3 : Same H (upd H2 u (.lst [])) := Same.trans s2 (upd_laid hu)
    have hpl3 : (upd H2 u (.lst [])) pl = some (.lst (L.map fun t => V.str (S t))) := upd_laid hu _ _ hpl2
    have npl : pl ≠ u := ne_of_none hpl2 hu
    have hR3 : RowsAt (upd H2 u (.lst [])) u [] := ⟨upd_same, fun q hq => nomatch hq⟩
    generalize upd H2 u (.lst []) = H3 at s3 hpl3 hR3
    have hlm : (L.map fun t => V.str (S t)).length = L.length := List.length_map _
    refine ⟨_, rfl, pl, _, rfl, SqL.of hpl3, for_it (walk_enum (K := K) (a := pl) (xs := L.map fun t => V.str (S t))) (fun i σ H' => Stop (∃ (v5 v6 v7 v8 v9 v10 v11 : Option V) (ps : List (Addr × Row)), σ = stP al t pl rest u v5 v6 v7 v8 v9 v10 v11 ∧ RowsAt H' u ps ∧ goL (45 :: srtL l) [] (L.take i) = .inr (ps.map (·.2)) ∧ H' pl = some (.lst (L.map fun t => V.str (S t))) ∧ Same H H'))
      ⟨none, none, none, none, none, none, none, [], rfl, hR3, rfl, hpl3, s3⟩ (fun i σ H' _ hP => ?_) ?_ ?_⟩
    · obtain ⟨v5, v6, v7, v8, v9, v10, v11, ps, rfl, hR, hg, hpl4, s4⟩ := hP
      exact SqL.of hpl4
    · rintro i x σ H4 H5 hi ⟨v5, v6, v7, v8, v9, v10, v11, ps, rfl, hR4, hg, hpl4, s4⟩ ⟨Tp, x1, y1, rfl, hTp, rfl, hx1, hy1⟩
      cases hx1
      have hy1 : (L.map fun t => V.str (S t))[i]? = some y1 := hy1
      rw [List.getElem?_map] at hy1
      obtain ⟨ln, hln, rfl⟩ := Option.map_eq_some_iff.mp hy1
      have hlm2 : ln ∈ cutC 10 t := by rw [hcut]; exact List.mem_append_left _ (List.mem_of_getElem? hln)
      have hlnl : ln.length ≤ 2900 := Nat.le_trans (cutC_mem hlm2).1 htl
      have hlnw : WideOk ln := fun x hx => htw x ((cutC_mem hlm2).2 x hx)
      have hil : i < L.length := (List.getElem?_eq_some_iff.mp hln).1
      have hps : ps.length ≤ 8 := by
        have := (goL_good _ [] _ hg GoodRs.nil (Nat.zero_le _)).2
        rwa [List.length_map] at this
      have hpi : ps.length = i := by
        have := goL_len _ _ _ hg
        rw [List.length_map, List.length_take] at this
        simp only [List.length_nil] at this
        omega
      have s5 : Same H4 (upd H4 Tp (.tup [.int (i : Nat), .str (S ln)])) := upd_laid hTp
      have hT5 : (upd H4 Tp (.tup [.int (i : Nat), .str (S ln)])) Tp = some (.tup [.int (i : Nat), .str (S ln)]) := upd_same
      have hR5 := hR4.same s5
      have hpl5 := s5 _ _ hpl4
      have s05 := Same.trans s4 s5
      generalize upd H4 Tp (.tup [.int (i : Nat), .str (S ln)]) = H5 at s5 hT5 hR5 hpl5 s05
      have hLsplit : L = L.take i ++ ln :: L.drop (i + 1) := by
        conv => lhs; rw [← List.take_append_drop i L]
        rw [List.drop_eq_getElem_cons hil, (List.getElem?_eq_some_iff.mp hln).2]
      have hbad : lineR (45 :: srtL l) (ps.map (·.2)) ln = none → noteL (45 :: srtL l) t = .inl (i + 1) := fun hw => by
        unfold noteL
        rw [hcut, List.dropLast_concat, hLsplit, goL_bad hg hw, List.length_map, hpi]
      refine ⟨Tp, _, rfl, SqT.of hT5, rfl, _, _, rfl, _, _, rfl, rfl, ?_⟩
      have hu5 := hR5.1
      have hpm : (ps.map fun q => V.ref q.1).length = ps.length := List.length_map _
      walk_at "go"
      · rename_i p6 hp6 h4
        rw [split_C (.inr rfl), List.length_map, List.length_map] at h4
        have hn := hbad (lineR_parts (by omega))
        have s6 : Same H (upd H5 p6 (.lst ((Txt.split (S ln) (S [32])).map V.str))) := Same.trans s05 (upd_laid hp6)
        unfold tMkO
        walk_at "go"
        rename_i b hb
        exact ⟨b, i + 1, rfl, by omega, upd_same, raise1 hb s6 fun dd H' z1 z2 z3 => k1 _ hn dd H' z1 z2 z3⟩
      rename_i p6 hp6 h4
      rw [split_C (.inr rfl), List.length_map, List.length_map] at h4
      obtain ⟨x1, x2, x3, x4, hx⟩ := four4 (by omega : (cutC 32 ln).length = 4)
      have hxm : ∀ x ∈ cutC 32 ln, Tx x := fun x hx => ⟨Nat.le_trans (cutC_mem hx).1 (by omega), fun c hc => hlnw c ((cutC_mem hx).2 c hc)⟩
      rw [hx] at hxm
      have he : Row.ok ⟨x1, x3, x4, x2⟩ := ⟨hxm _ (by simp), hxm _ (by simp), hxm _ (by simp), hxm _ (by simp)⟩
      rw [split_C (.inr rfl), hx]
      have s6 : Same H5 (upd H5 p6 (.lst (([x1, x2, x3, x4].map S).map V.str))) := upd_laid hp6
      have e6 : (upd H5 p6 (.lst (([x1, x2, x3, x4].map S).map V.str))) p6 = some (.lst [V.str (S x1), V.str (S x2), V.str (S x3), V.str (S x4)]) := upd_same
      have hR6 := hR5.same s6
      have hpl6 := s6 _ _ hpl5
      have s06 := Same.trans s05 s6
      generalize upd H5 p6 (.lst (([x1, x2, x3, x4].map S).map V.str)) = H6 at s6 e6 hR6 hpl6 s06
      have hu6 := hR6.1
      refine ⟨CB, mcB, _, _, rfl, BV.rd, BV.most, ?_⟩
      walk_at "go"
      · rename_i h8
        have hn := hbad (lineR_full (by rw [List.length_map]; omega))
        unfold tMkO
        walk_at "go"
        rename_i b hb
        exact ⟨b, i + 1, rfl, by omega, upd_same, raise1 hb s06 fun dd H' z1 z2 z3 => k1 _ hn dd H' z1 z2 z3⟩
      rename_i h8
      have hlr := lineR_row (sg := 45 :: srtL l) (rs := ps.map (·.2)) (by rw [List.length_map]; omega) hx
      refine ⟨p6, _, rfl, SqL.of e6, rfl, ?_⟩
      refine ⟨_, _, rfl, _, _, rfl, _, _, rfl, _, _, rfl, rfl, ?_⟩
      walk_at "go"
      unfold tCallS
      walk_at "go"
      rename_i x7 hx7
      have s7 : Same H6 (upd H6 x7 (.tup [V.str (S x1), V.str (S x3), V.str (S x4), V.str (S x2)])) := upd_laid hx7
      have e7 : (upd H6 x7 (.tup [V.str (S x1), V.str (S x3), V.str (S x4), V.str (S x2)])) x7 = some (.tup (Row.vs ⟨x1, x3, x4, x2⟩)) := upd_same
      have hR7 := hR6.same s7
      have hpl7 := s7 _ _ hpl6
      have s07 := Same.trans s06 s7
      generalize upd H6 x7 (.tup [V.str (S x1), V.str (S x3), V.str (S x4), V.str (S x2)]) = H7 at s7 e7 hR7 hpl7 s07
      refine ⟨al, x7, u, l, v, ⟨x1, x3, x4, x2⟩, ps, rfl, hA.same s07, e7, he, hR7, by omega, fun hf0 H8 s8 => ?_, fun B dd fs H8 hr5 z1 z2 z3 => ?_⟩
      · rw [if_pos hf0] at hlr
        have hR8 := hR7.same s8
        have hpl8 := s8 _ _ hpl7
        have s08 := Same.trans s07 s8
        have hu8 := hR8.1
        walk_at "go"
        rename_i x9 hx9
        have s9 : Same H8 (upd H8 x9 (.tup [V.str (S x1), V.str (S x3), V.str (S x4), V.str (S x2)])) := upd_laid hx9
        have e9 : (upd H8 x9 (.tup [V.str (S x1), V.str (S x3), V.str (S x4), V.str (S x2)])) x9 = some (.tup (Row.vs ⟨x1, x3, x4, x2⟩)) := upd_same
        have hR9 := hR8.same s9
        have hpl9 := s9 _ _ hpl8
        have s09 := Same.trans s08 s9
        generalize upd H8 x9 (.tup [V.str (S x1), V.str (S x3), V.str (S x4), V.str (S x2)]) = H9 at s9 e9 hR9 hpl9 s09
        refine ⟨_, _, _, _, _, _, _, ps ++ [(x9, ⟨x1, x3, x4, x2⟩)], rfl, rows_app hR9 e9 he, ?_, ?_, same_upd s09 hu0⟩
        · rw [List.map_append, List.take_add_one, hln]
          exact goL_more hg hlr
        · rw [upd_ne npl]
          exact hpl9
      · rw [if_neg (raised_ne hr5)] at hlr
        have hn := hbad hlr
        have hB : B = c.bn ∨ B = c.bf ∨ B = c.up ∨ B = c.dn ∨ B = c.cf := by
          rcases hr5 with ⟨_, _, h, _⟩ | ⟨_, _, h, _⟩ | ⟨_, _, h, _⟩ | ⟨_, _, h, _⟩ | ⟨_, _, _, h, _⟩
          · exact .inl h
          · exact .inr (.inl h)
          · exact .inr (.inr (.inl h))
          · exact .inr (.inr (.inr (.inl h)))
          · exact .inr (.inr (.inr (.inr h)))
        refine ⟨true, hTE B hB, fun _ ab hab => ?_, fun q => nomatch q⟩
        unfold tMkO
        walk_at "go"
        rename_i b hb
        exact ⟨b, i + 1, rfl, by omega, upd_same, raise1 hb (Same.trans s07 z3) fun dd H' z1 z2 z3 => k1 _ hn dd H' z1 z2 z3⟩
    · rintro σ H4 ⟨v5, v6, v7, v8, v9, v10, v11, ps, rfl, hR4, hg, hpl4, s4⟩
      rw [hlm, List.take_length] at hg
      have hu4 := hR4.1
      have hne := noteL_end hcut hg
      have hps : ps.length ≤ 8 := by
        have := (goL_good _ [] _ hg GoodRs.nil (Nat.zero_le _)).2
        rwa [List.length_map] at this
      have hpi : ps.length = L.length := by
        have := goL_len _ _ _ hg
        rw [List.length_map] at this
        simp only [List.length_nil] at this
        omega
      walk_at "go"
      · rename_i hr
        rw [if_neg hr, List.length_map, hpi] at hne
        unfold tMkO
        walk_at "go"
        rename_i b hb
        rw [hlm]
        exact ⟨b, L.length + 1, rfl, by omega, upd_same, raise1 hb s4 fun dd H' z1 z2 z3 => k1 _ hne dd H' z1 z2 z3⟩
      · rename_i hr
        rw [if_pos hr] at hne
        have hgd := hgl _ hne
        have fin := told_fin (CB := CB) (c := c) (hA.same s4) hR4.2 (by omega) (show Told C CB c al (45 :: srtL l) ps H4 Q E from
          ⟨fun _ _ bk qs H' z1 z2 z3 z4 z5 z6 => k2 _ hne bk ps qs H' rfl z2 z3 z4 z5 (Same.trans s4 z6), fun z => by omega, fun _ B dd fs H' r => absurd hgd.1.first (raised_ne r)⟩)
        refine ⟨_, rfl, _, rfl, u, _, rfl, .inr (SqL.of hu4), ?_⟩
        simp only [tNil, List.append_nil]
        exact fin
end
end
section
set_option Elab.async false
set_option linter.all false
set_option maxRecDepth 100000
set_option maxHeartbeats 8000000
open PySem PySem.Spec PyProof.Rows L2


structure XfB (K : PySem.W.Frag) (bl : Addr) : Prop where
  x : XfC K bl
  n : PySem.W.findIn K (.ref bl) "line" = some none
  e : PySem.W.exmOne K (.ref bl) (.ref bl) = some true
section
variable {P : Program} {w : World} {K : PySem.W.Frag} {mg : Str → Option Value} {base : Heap} {a : Ad} {d : Fd} {c : Er} {C CB bl blF : Addr} {blD : FuncData}
def BookOut (CB al : Addr) (sg t : List Nat) (H : Hp) (Q : VK) : Prop :=
  (∀ k, noteL sg t = .inl k → ∀ p H', H p = none → H' p = some (.lst [.str (S kBad), .int (k : Int)]) → Same H H' → Q (.ref p) H') ∧
  (∀ rs, noteL sg t = .inr rs → ∀ p bk (ps qs : List (Addr × Row)) H', H p = none → H' p = some (.lst [.str (S kBook), .ref bk]) → ps.map (·.2) = rs → qs.Perm ps → sortedR qs → (ps.map fun q => q.2.n).Nodup → IsBook CB bk al H' qs → Same H H' → Q (.ref p) H')
def spParsed (C CB : Addr) : Sp := fun vs H Q _ => ∃ (al : Addr) (l v t : List Nat), vs = [.ref al, .str (S t)] ∧ IsAl C H al l v ∧ t.length ≤ 2900 ∧ WideOk t ∧ BookOut CB al (45 :: srtL l) t H Q
theorem scParsed : FnScope ["_law_alphabet", "_law_text", "e"] ["_law_alphabet", "_law_text"] (defScope sParsed) := ⟨rfl, rfl, rfl, by decide +kernel, rfl, by decide +kernel, by decide +kernel⟩
theorem ok_parsed (T : Fns K mg a d) (XL : EF K mg "BadLine" bl blF blD ["self", "line"]) (Xf : XfB K bl) (GParse : FnOk P w K mg base (L2.CX P w) 6 a.aParse d.dParse ["alphabet", "text"] (spParse C CB bl)) :
    FnOk P w K mg base CX0 7 a.aParsed d.dParsed ["_law_alphabet", "_law_text"] (spParsed C CB) := by
  refine T.FParsed.ok scParsed (fun vs H Q E h => ?_) (fun cdv A0 outer s H vs Q E hr h => ?_)
  · obtain ⟨al, l, v, t, rfl, _⟩ := h
    rfl
  · obtain ⟨al, l, v, t, rfl, hA, htl, htw, k1, k2⟩ := h
    refine ⟨_, pss_one (ps_try_asN (tb := fun W => tRet (tLst (tCons (tC (.str (S kBook))) (tCons (tCallS (spParse C CB bl) (WE W) (tCons (tVar 0) (tCons (tVar 1) tNil))) tNil)))) (Wout := fun _ _ _ _ => False) rfl rfl scParsed.nd takes0
      (fun W pn xe tk _ => pss_one (ps_ret (pe_lst (pa_cons (pe_strS (l := kBook) (by decide +kernel)) (pa_cons (pe_callS GParse (hr.mono (by decide)) (by rfl) T.gParse T.FParse.kp T.bParse (fun σ => passAt tk σ) (pa_cons (pv 0) (pa_cons (pv 1) pa_nil))) pa_nil)))))
      (AsOk.cons (q := ⟨.ref bl, 2, _⟩) rfl rfl ⟨rfl, by decide, Or.inl XL.gB⟩ (fun a oe cls d pn hz hf => pss_one (ps_ret (pe_lst (pa_cons (pe_strS (l := kBad) (by decide +kernel)) (pa_cons (pe_xf Xf.x Xf.n hz hf (pv 2)) pa_nil))))) AsOk.nil)), ?_⟩
    refine ⟨_, rfl, _, rfl, al, l, v, t, rfl, hA, htl, htw, fun k hk dd H' z1 z2 z3 => ?_, fun rs hrs bk ps qs H' z1 z2 z3 z4 z5 s1 => ?_⟩
    · refine ⟨true, Xf.e, fun _ a ha => ?_, fun q => Bool.noConfusion q⟩
      exact ⟨_, rfl, rfl, rfl, dd, _, _, rfl, z2, rfl, (by show 2 ≤ sizeLine; decide), fun p hp => k1 k hk p _ (Same.none z3 hp) upd_same (Same.trans z3 (upd_laid hp))⟩
    · refine ⟨(by show 2 ≤ sizeLine; decide), fun p hp => ?_⟩
      have s2 : Same H' (upd H' p (.lst [.str (S kBook), .ref bk])) := upd_laid hp
      exact k2 rs hrs p bk ps qs _ (Same.none s1 hp) upd_same z1 z2 z3 z4 (z5.same s2) (Same.trans s1 s2)
end
end
section
set_option Elab.async false
set_option linter.all false
set_option maxRecDepth 100000
set_option maxHeartbeats 8000000
open PySem PySem.Spec PyProof.Rows L2
def spLaw (K : PySem.W.Frag) : Sp := fun vs H Q _ => ∃ (a : Addr) (ns : List Int), vs = [.ref a] ∧ SqL K H a (ns.map V.int) ∧ ns.length ≤ 63 ∧ ∀ H', Q (.bl true) H'
theorem passE {X : Cx} {P : Program} {w : World} : Passes (L2.CX P w) X (fun _ _ _ => False) := fun _ _ _ _ _ _ _ h => by
  obtain ⟨_, _, _, _, _, _, _, _, _, _, _, _, z⟩ := h
  exact z.elim
theorem ins_box {H : Hp} {b g x C dx : Addr} {fs : List (Str × V)} (hB : BoxB H b g) (h : H x = some (.ins C dx fs)) : x ≠ b ∧ x ≠ g := by
  obtain ⟨_, _, _, _, h1, h2, _⟩ := hB
  exact ⟨fun z => (by rw [z, h1] at h; cases h), fun z => (by rw [z, h2] at h; cases h)⟩
theorem IsAl.kp {C al b g : Addr} {H H' : Hp} {l v : List Nat} (h : IsAl C H al l v) (hB : BoxB H b g) (k : Kp2 b g H H') : IsAl C H' al l v := by
  obtain ⟨dx, h⟩ := h
  obtain ⟨n1, n2⟩ := ins_box hB h
  exact ⟨dx, k _ _ n1 n2 h⟩
theorem kp_newB {H H' : Hp} {x dx C : Addr} {o : HO} (hx : H x = none) (hd : H dx = none) (k : Kp x (upd (upd H dx o) x (.ins C dx [])) H') : Same H H' := fun c u e => by
  have h1 : c ≠ x := ne_of_none e hx
  have h2 : c ≠ dx := ne_of_none e hd
  exact k c u h1 (by rw [upd_ne h1, upd_ne h2]; exact e)
abbrev rLenS (K : PySem.W.Frag) : List V → Hp → VK → Prop := fun xs H Q => ∃ p ys, xs = [V.ref p] ∧ (SqL K H p ys ∨ SqT K H p ys) ∧ Q (.int ys.length) H
/-- the rows drawn are good -/
theorem good_drawn {sg : List Nat} {m : Nat} {ps : List (Addr × Row)} (hm : m ≤ 6) (h1 : ∀ q ∈ ps, RowW sg m q.2) (h2 : (ps.map (·.2)).Pairwise Apart) : GoodRs sg (ps.map (·.2)) := by
  refine ⟨fun r hr => ?_, h2⟩
  obtain ⟨q, hq, rfl⟩ := List.mem_map.mp hr
  obtain ⟨a1, a2, a3, a4⟩ := h1 q hq
  exact ⟨a1, ⟨a2.1, Nat.le_trans a2.2.1 hm, a2.2.2⟩, ⟨a3.1, Nat.le_trans a3.2.1 hm, a3.2.2⟩, a4⟩
theorem top_eight {s m : Nat} (hs : 2 ≤ s) (hm : 3 ≤ m) : 8 ≤ Fw.top s m := by
  refine Nat.le_trans ?_ (Fw.top_mono s hm)
  show 8 ≤ ((0 * s + s) * s + s) * s + s
  have h1 : 4 ≤ (0 * s + s) * s := by
    rw [Nat.zero_mul, Nat.zero_add]
    exact Nat.mul_le_mul hs hs
  have h2 : 2 ≤ s := hs
  have h3 : (4 + 2) * 2 ≤ ((0 * s + s) * s + s) * s := Nat.mul_le_mul (Nat.add_le_add h1 h2) hs
  omega
/-- the strange vowels are others -/
theorem al_strange {l t : List Nat} (hl : 1 ≤ l.length) : AlEq l t l (l.filter fun c => !decide (c ∈ t)) = false := by
  unfold AlEq
  rw [Bool.and_eq_false_iff]
  refine .inr (decide_eq_false fun e => ?_)
  obtain ⟨c, r, rfl⟩ : ∃ c r, l = c :: r := by
    cases l with
    | nil => cases hl
    | cons c r => exact ⟨c, r, rfl⟩
  have h : c ∈ srtL t ↔ c ∈ srtL ((c :: r).filter fun c => !decide (c ∈ t)) := by rw [e]
  rw [srtL_mem, srtL_mem, List.mem_filter] at h
  by_cases hc : c ∈ t
  · have := (h.mp hc).2
    simp [hc] at this
  · exact hc (h.mpr ⟨List.mem_cons_self, by simp [hc]⟩)
theorem al_same (l t : List Nat) : AlEq l t l t = true := by
  unfold AlEq
  rw [decide_eq_true rfl, decide_eq_true rfl]
  rfl
theorem due_al {l t : List Nat} (h1 : 1 ≤ l.length) (h4 : l.length ≤ 4) (hd : Differ l azL) (hts : t.Sublist l) : dueT l t = "" := by
  unfold dueT
  rw [if_neg (by
    rintro (h | h | h)
    · omega
    · omega
    · exact h hd), if_neg (fun h => h ⟨hd.1.sublist hts, fun c hc => hts.subset hc⟩)]
/-- what may be said of the signs -/
theorem signs_ok {l : List Nat} (h1 : 1 ≤ l.length) (h4 : l.length ≤ 4) (hd : Differ l azL) : 2 ≤ (45 :: srtL l).length ∧ (45 :: srtL l).length ≤ 5 ∧ WideOk (45 :: srtL l) ∧ 32 ∉ 45 :: srtL l ∧ (45 :: srtL l).Nodup := by
  have hin : ∀ c ∈ 45 :: srtL l, c = 45 ∨ c ∈ azL := fun c hc => by
    rcases List.mem_cons.mp hc with h | h
    · exact .inl h
    · exact .inr (hd.2 c ((srtL_perm l).mem_iff.mp h))
  refine ⟨by rw [List.length_cons, srtL_len]; omega, by rw [List.length_cons, srtL_len]; omega, fun c hc => ?_, fun h => ?_, ?_⟩
  · rcases hin c hc with rfl | h
    · decide
    · exact az_ok c h
  · rcases hin 32 h with h | h
    · cases h
    · exact az32 h
  · refine List.nodup_cons.mpr ⟨fun h => ?_, srtL_nodup.mpr hd.1⟩
    have := hd.2 45 (srtL_mem.mp h)
    revert this
    decide +kernel
def shortL (l : List Nat) : List Nat := (l.drop (HT.sIx l.length 0 none)).take (HT.sIx l.length l.length (some (-1)) - HT.sIx l.length 0 none)
theorem shortL_sub (l : List Nat) : (shortL l).Sublist l := (List.take_sublist _ _).trans (List.drop_sublist _ _)
theorem tx_sub {t u : List Nat} (h : Tx t) (hs : u.Sublist t) : Tx u := ⟨Nat.le_trans hs.length_le h.1, fun c hc => h.2 c (hs.subset hc)⟩
end
section
set_option Elab.async false
set_option linter.all false
set_option maxRecDepth 100000
set_option maxHeartbeats 8000000
open PySem PySem.Spec PyProof.Rows L2

def kStrG13_0 : List Nat := [66, 97, 100, 76, 105, 110, 101]
theorem kStrG13_0_eq : PySem.Str.ofString "BadLine" = S kStrG13_0 := by decide +kernel
theorem rows_eq2 {qs rs ps ps' : List (Addr × Row)} (hq : sortedR qs) (hr : sortedR rs) (pq : qs.Perm ps) (pr : rs.Perm ps') (he : ps.map (·.2) = ps'.map (·.2)) (hnd : (ps.map fun q => q.2.n).Nodup) : qs.map (·.2) = rs.map (·.2) := by
  have hm : ∀ xs : List (Addr × Row), sortedR xs → sortedR (xs.map fun q => ((0 : Addr), q.2)) := fun xs h => List.pairwise_map.mpr h
  have h1 : ps.map (fun q => ((0 : Addr), q.2)) = ps'.map (fun q => ((0 : Addr), q.2)) := by
    have := congrArg (List.map fun r : Row => ((0 : Addr), r)) he
    rwa [List.map_map, List.map_map] at this
  have h2 := rows_eq (hm _ hq) (hm _ hr) (pq.map fun q : Addr × Row => ((0 : Addr), q.2)) (h1 ▸ pr.map fun q : Addr × Row => ((0 : Addr), q.2)) (by rw [List.map_map]; exact hnd)
  have h3 := congrArg (List.map Prod.snd) h2
  rwa [List.map_map, List.map_map] at h3
theorem rowL_map {ps qs : List (Addr × Row)} (h : ps.map (·.2) = qs.map (·.2)) : (ps.map fun q => rowL q.2) = qs.map fun q => rowL q.2 := by
  have := congrArg (List.map rowL) h
  rwa [List.map_map, List.map_map] at this
section
variable {P : Program} {w : World} {K : PySem.W.Frag} {mg : Str → Option Value} {base : Heap} {a : Ad} {d : Fd} {c : Er} {C CB fI fE fBq : Addr} {fdE fdBq : FuncData} {mcB : Value} {tmB : Tok}
def spJudged (C CB : Addr) : Sp := fun vs H Q _ => ∃ (al : Addr) (l v t : List Nat), vs = [.ref al, .str (S (45 :: srtL l)), .str (S t)] ∧ IsAl C H al l v ∧ t.length ≤ 2900 ∧ WideOk t ∧ ∀ H', Same H H' → Q (.bl true) H'
theorem scJudged : FnScope ["_law_alphabet", "_law_signs", "_law_text", "_law_due", "_law_told", "_law_rows_here", "_law_book_here", "_law_row"] ["_law_alphabet", "_law_signs", "_law_text"] (defScope sJudged) := ⟨rfl, rfl, rfl, by decide +kernel, rfl, by decide +kernel, by decide +kernel⟩
theorem ok_judged (T : Fns K mg a d) (BV : BkV K mg CB mcB tmB) (mE : Meth K CB "entries" fE) (GE : FnOk P w K mg base CX0 1 fE fdE ["self"] (spEntries CB)) (bE : Binds K fdE ["self"] [])
    (hsB : PySem.W.findIn K (.ref CB) "__eq__" = some (some (.ref fBq))) (hfB : PySem.W.isFn K (.ref fBq) = true) (GBq : FnOk P w K mg base CX0 2 fBq fdBq ["self", "other"] (spBEq C CB)) (bBq : Binds K fdBq ["self", "other"] []) (nB : PySem.W.notFirst K CB (.ref CB) = true)
    (GBookL : FnOk P w K mg base (L2.CX P w) 6 a.aBookL d.dBookL ["_law_alphabet", "_law_rows_here"] (spBookL C CB c))
    (GParsed : FnOk P w K mg base CX0 7 a.aParsed d.dParsed ["_law_alphabet", "_law_text"] (spParsed C CB)) (GFormat : FnOk P w K mg base CX0 2 a.aFormat d.dFormat ["book"] (spFormat CB)) :
    FnOk P w K mg base CX0 8 a.aJudged d.dJudged ["_law_alphabet", "_law_signs", "_law_text"] (spJudged C CB) := by
  have GReadL : FnOk P w K mg base CX0 3 a.aReadL d.dReadL ["_law_signs", "_law_text"] spReadL := ok_readL T
  have GLine : FnOk P w K mg base CX0 1 a.aLine d.dLine ["_law_row"] spLine := ok_line T
  refine T.FJudged.ok scJudged (fun vs H Q E h => ?_) (fun cdv A0 outer s H vs Q E hr h => ?_)
  · obtain ⟨al, l, v, t, rfl, _⟩ := h
    rfl
  · obtain ⟨al, l, v, t, rfl, hA, htl, htw, k⟩ := h
    refine ⟨_, ((pss_cons (ps_set (i := 3) scJudged.nd rfl (Or.inl rfl) (pe_call GReadL (hr.mono (by decide)) (by rfl) T.gReadL T.FReadL.kp T.bReadL .nil pass0 (pa_cons (pv 1) (pa_cons (pv 2) pa_nil))))
      (pss_cons (ps_set (i := 4) scJudged.nd rfl (Or.inl rfl) (pe_call GParsed (hr.mono (by decide)) (by rfl) T.gParsed T.FParsed.kp T.bParsed .nil pass0 (pa_cons (pv 0) (pa_cons (pv 2) pa_nil))))
      (pss_cons (ps_if (pt_cmpR op_ne (pe_ix (r := rIxL K) ix_list (pv 4) pe_int (fun _ _ => rfl)) (pe_ix (r := rIxL K) ix_list (pv 3) pe_int (fun _ _ => rfl)) (nomark _)) (pss_one (ps_ret pe_bl)) pss_nil)
      (pss_cons (ps_if (pt_cmpR op_eq (pe_ix (r := rIxL K) ix_list (pv 3) pe_int (fun _ _ => rfl)) (pe_strS (l := kStrG13_0) kStrG13_0_eq) (nomark _)) (pss_one (ps_ret (pe_and (pe_callB call_isi (by rfl) T.z_isinstance (by decide +kernel) (pa_cons (pe_ix (r := rIxL K) ix_list (pv 4) pe_int (fun _ _ => rfl)) (pa_cons (pe_bltn (v := .ty "int") (by rfl) T.z_int (by decide +kernel) rfl) pa_nil))) (pe_and (pe_not (pe_callB call_isi (by rfl) T.z_isinstance (by decide +kernel) (pa_cons (pe_ix (r := rIxL K) ix_list (pv 4) pe_int (fun _ _ => rfl)) (pa_cons (pe_bltn (v := .ty "bool") (by rfl) T.z_bool (by decide +kernel) rfl) pa_nil)))) (pe_one (pe_cmpR op_eq (pe_ix (r := rIxL K) ix_list (pv 4) pe_int (fun _ _ => rfl)) (pe_ix (r := rIxL K) ix_list (pv 3) pe_int (fun _ _ => rfl)) (nomark _))))))) pss_nil)
      (pss_cons (ps_set (i := 5) scJudged.nd rfl (Or.inl rfl) (pe_callB cr_sort4 (by rfl) T.z_sorted (by decide +kernel) (pa_cons (pe_ix (r := rIxL K) ix_list (pv 3) pe_int (fun _ _ => rfl)) pa_nil)))
      (pss_cons (ps_set (i := 6) scJudged.nd rfl (Or.inl rfl) (pe_ix (r := rIxL K) ix_list (pv 4) pe_int (fun _ _ => rfl)))
      (pss_cons (ps_if (PW.pt (pw_or (pt_cmpR (op_neD hr.units) (pe_meth0 (pv 6) BV.cl mE GE (hr.mono (by decide)) bE .nil pass0) (pv 5) (nomark _)) (pw_or1 (pt_not (pt_cmpR (op_ownI (fun _ _ => rfl) hsB hfB GBq (hr.mono (by decide)) bBq pass0) (pv 6) (pe_call GBookL (hr.mono (by decide)) (by rfl) T.gBookL T.FBookL.kp T.bBookL .nil passE (pa_cons (pv 0) (pa_cons (pe_ix (r := rIxL K) ix_list (pv 3) pe_int (fun _ _ => rfl)) pa_nil))) (nomark _)))))) (pss_one (ps_ret pe_bl)) pss_nil)
      (pss_one (ps_ret (pe_cmpR op_eq (pe_call GFormat (hr.mono (by decide)) (by rfl) T.gFormat T.FFormat.kp T.bFormat .nil pass0 (pa_cons (pv 6) pa_nil)) (pe_join (pe_strS (l := []) (by decide +kernel)) (pe_lc (own := [("_law_row", 7)]) (g := gName 7) (by rfl) scJudged.nd (pi_list (pv 5)) (blkOk_by (own := [("_law_row", 7)]) (N := ["_law_alphabet", "_law_signs", "_law_text", "_law_due", "_law_told", "_law_rows_here", "_law_book_here", "_law_row"]) (sc := defScope sJudged) (by decide +kernel)) (fun _ _ _ _ _ => pg_name (i := 7) scJudged.nd rfl (Or.inl rfl)) (fun _ _ _ _ _ => pts_nil) (fun _ _ _ _ _ => (pe_call GLine (hr.mono (by decide)) (by rfl) T.gLine T.FLine.kp T.bLine .nil pass0 (pa_cons (pv 7) pa_nil))))) (nomark _)))))))))))), ?_⟩
    walk_at "go"
    refine ⟨45 :: srtL l, t, rfl, htl, htw, fun n hn p H1 hp hp1 s1 => ?_, fun rs hrs p u ps H1 hp hp1 hR1 hps s1 => ?_⟩
    · walk_at "go"
      refine ⟨al, l, v, t, rfl, hA.same s1, htl, htw, fun n2 hn2 p2 H2 hp2 hq2 s2 => ?_, fun rs hrs => (by rw [hn] at hrs; cases hrs)⟩
      rw [hn] at hn2
      cases hn2
      have hp12 := s2 _ _ hp1
      have s02 := Same.trans s1 s2
      walk_at "go"
      rw [decide_eq_true rfl]
      exact k _ s02
    · walk_at "go"
      refine ⟨al, l, v, t, rfl, hA.same s1, htl, htw, fun n2 hn2 => (by rw [hrs] at hn2; cases hn2), fun rs2 hrs2 p2 bk ps2 qs2 H2 hp2 hq2 hps2 hperm hsort hnd hB s2 => ?_⟩
      rw [hrs] at hrs2
      cases hrs2
      have hp12 := s2 _ _ hp1
      have s02 := Same.trans s1 s2
      have hR2 := hR1.same s2
      obtain ⟨hgd, hl8⟩ := noteL_good hrs
      walk_at "go"
      have hpsl : ps.length = rs.length := by rw [← hps, List.length_map]
      have hps2l : ps2.length = rs.length := by rw [← hps2, List.length_map]
      have hnd1 : (ps.map fun q => q.2.n).Nodup := by
        rw [← names_map, hps]
        exact hgd.nodup
      refine ⟨u, ps, rfl, SqL.of hR2.1, fun q hq => (hR2.2 q hq).1, fun rs3 p3 hpr hsr hn3 => ?_⟩
      have hq3 := rows_eq2 hsort hsr hperm hpr (hps2.trans hps.symm) hnd
      have s3 : Same H2 (upd H2 p3 (.lst (rs3.map fun q => V.ref q.1))) := upd_laid hn3
      have e3 : (upd H2 p3 (.lst (rs3.map fun q => V.ref q.1))) p3 = some (.lst (rs3.map fun q => V.ref q.1)) := upd_same
      have s03 := Same.trans s02 s3
      have s23 := Same.trans s2 s3
      have hR3 := hR2.same s3
      have hp13 := s3 _ _ hp12
      have hp23 := s3 _ _ hq2
      have hB3 := hB.same s3
      generalize upd H2 p3 (.lst (rs3.map fun q => V.ref q.1)) = H3 at s3 e3 s03 s23 hR3 hp13 hp23 hB3
      obtain ⟨dx, D, hb3, hb3', hb3''⟩ := id hB3
      have hqn : (qs2.map fun q => q.2.n).Nodup := (hperm.map fun q : Addr × Row => q.2.n).nodup_iff.mpr hnd
      have hql : qs2.length ≤ 8 := by rw [hperm.length_eq, hps2l]; exact hl8
      have hrl : rs3.length ≤ 8 := by rw [hpr.length_eq, hpsl]; exact hl8
      have okq : ∀ q ∈ qs2, q.2.ok := fun q hq => (hb3'' q hq).2
      have okr : ∀ q ∈ rs3, q.2.ok := fun q hq => (hR3.2 q (hpr.mem_iff.mp hq)).2
      walk_at "go"
      refine ⟨bk, al, qs2, rfl, hB3, hqn, by omega, fun p4 H4 hp4 hq4 s4 => ?_⟩
      have s04 := Same.trans s03 s4
      have hB4 := hB3.same s4
      have hR4 := hR3.same s4
      have e4 := s4 _ _ e3
      have hp14 := s4 _ _ hp13
      obtain ⟨dx4, D4', hb4, hb4', hb4''⟩ := id hB4
      walk_at "go"
      refine ⟨.list (qs2.map fun q => q.2.py), .list (rs3.map fun q => q.2.py), .lst (SqL.of hq4) (dp_rows qs2 fun q hq => (hb4'' q hq).1), .lst (SqL.of e4) (dp_rows rs3 fun q hq => (hR4.2 q (hpr.mem_iff.mp hq)).1), shaped_rows okq, shaped_rows okr, ?_⟩
      rw [eqv_rows, decide_eq_true (rowL_map hq3)]
      refine ⟨_, rfl, iteF ?_⟩
      walk_at "go"
      refine ⟨al, u, l, v, ps, rfl, hA.same s04, hR4, by omega, fun _ _ bk5 qs5 H5 hn5 hperm5 hsort5 hnd5 hB5 s5 => ?_, fun h => absurd h (by omega), fun _ B0 dd fs H' hr5 _ _ _ => absurd (by rw [hps]; exact hgd.first) (raised_ne hr5)⟩
      have h25 := rows_eq2 hsort hsort5 hperm hperm5 (hps2.trans hps.symm) hnd
      have s05 := Same.trans s04 s5
      have hB45 := hB4.same s5
      have e5 := s5 _ _ e4
      have hR5 := hR4.same s5
      obtain ⟨dx5, D5', hb5, hb5', hb5''⟩ := id hB5
      have hqn5 : (qs5.map fun q => q.2.n).Nodup := (hperm5.map fun q : Addr × Row => q.2.n).nodup_iff.mpr hnd5
      have hql5 : qs5.length ≤ 8 := by rw [hperm5.length_eq, hpsl]; exact hl8
      walk_at "go"
      refine ⟨bk, dx4, _, bk5, CB, dx5, _, rfl, rfl, s5 _ _ hb4, hb5, nB, bk, bk5, al, al, l, v, l, v, qs2, qs5, rfl, hB45, hB5, hA.same s05, hA.same s05, hqn, hqn5, by omega, by omega, fun H6 s6 => ?_⟩
      rw [al_same, decide_eq_true (rowL_map h25)]
      have s06 := Same.trans s05 s6
      have e6 := s6 _ _ e5
      have hR6 := hR5.same s6
      have hB6 := hB45.same s6
      walk_at "go"
      refine ⟨bk, al, qs2, rfl, hB6, hqn, by omega, fun H7 s7 => ?_⟩
      have s07 := Same.trans s06 s7
      have e7 := s7 _ _ e6
      have hR7 := hR6.same s7
      have tup7 : ∀ q ∈ rs3, H7 q.1 = some (.tup q.2.vs) := fun q hq => (hR7.2 q (hpr.mem_iff.mp hq)).1
      walk_at "go"
      rename_i D8 hD8
      refine lc_lst (fun q : Addr × Row => V.ref q.1) (fun _ => true) (fun q => V.str (S (lineL q.2))) (by omega) e7 hD8 (fun _ => rfl) (fun _ _ _ _ _ q => q) (fun q hq _ H3 Q3 off k3 => ⟨_, rfl, q.1, q.2, rfl, (off q.1 (ne_of_none (tup7 q hq) hD8)).trans (tup7 q hq), okr q hq, k3⟩) ?_
      rw [col_map]
      have s8 : Same H (upd H7 D8 (.lst (rs3.map fun q => V.str (S (lineL q.2))))) := Same.trans s07 (upd_laid hD8)
      have hD82 : (upd H7 D8 (.lst (rs3.map fun q => V.str (S (lineL q.2))))) D8 = some (.lst ((rs3.map fun q : Addr × Row => lineL q.2).map fun t => V.str (S t))) := by
        rw [upd_same, List.map_map]
        rfl
      have hnl := noteT_len (rs3.map (·.2)) (fun r hr => by
        obtain ⟨q', hq', rfl⟩ := List.mem_map.mp hr
        exact okr q' hq')
      have e3 : noteT (qs2.map (·.2)) = (rs3.map fun q : Addr × Row => lineL q.2).flatten := by
        rw [hq3]
        unfold noteT
        rw [List.map_map]
        rfl
      rw [← hq3, List.length_map, e3] at hnl
      generalize upd H7 D8 (.lst (rs3.map fun q => V.str (S (lineL q.2)))) = H8 at s8 hD82
      refine ⟨_, D8, (rs3.map fun q : Addr × Row => lineL q.2).map S, rfl, rfl, .inl (SqL.of (strs_map _ _ _ hD82)), join_sumB (by omega), ?_⟩
      rw [join_flat, e3]
      walk_at "go"
      rw [decide_eq_true rfl]
      exact k _ s8
end
end
section
set_option Elab.async false
set_option linter.all false
set_option maxRecDepth 100000
set_option maxHeartbeats 8000000
open PySem PySem.Spec PyProof.Rows L2

def kStrG14_0 : List Nat := [97, 98, 99, 100, 101, 102, 103, 104, 105, 106, 107, 108, 109, 110, 111, 112, 113, 114, 115, 116, 117, 118, 119, 120, 121, 122]
theorem kStrG14_0_eq : PySem.Str.ofString "abcdefghijklmnopqrstuvwxyz" = S kStrG14_0 := by decide +kernel
def stL (x b : Addr) (l : List Nat) (al u : Addr) (v6 v8 v9 v10 v11 v13 v14 : Option V) : L2.St := [some (.ref x), some (.ref b), some (.str (S l)), some (.str (S (45 :: srtL l))), some (.ref al), some (.ref u), v6, none, v8, v9, v10, v11, none, v13, v14]
structure LwJ (C b g al u : Addr) (l : List Nat) (H : Hp) (ps : List (Addr × Row)) : Prop where
  hB : BoxB H b g
  hA : IsAl C H al l (l.take 1)
  hR : RowsAt H u ps
  nu : u ≠ b ∧ u ≠ g
theorem LwJ.same {C b g al u : Addr} {l : List Nat} {H H' : Hp} {ps : List (Addr × Row)} (h : LwJ C b g al u l H ps) (s : Same H H') : LwJ C b g al u l H' ps := ⟨h.hB.same s, h.hA.same s, h.hR.same s, h.nu⟩
theorem LwJ.kp {C b g al u : Addr} {l : List Nat} {H H' : Hp} {ps : List (Addr × Row)} (h : LwJ C b g al u l H ps) (hB : BoxB H' b g) (k : Kp2 b g H H') : LwJ C b g al u l H' ps := ⟨hB, h.hA.kp h.hB k, h.hR.kp h.hB h.nu k, h.nu⟩
theorem rowW_short {sg : List Nat} {m : Nat} {r : Row} (hm : m ≤ 6) (h : RowW sg m r) : r.short := by
  obtain ⟨a1, a2, a3, a4⟩ := h
  have hp : ∀ p ∈ kindsL, p.length ≤ 8 := by decide +kernel
  exact ⟨a1.2.1, Nat.le_trans a2.2.1 (by omega), Nat.le_trans a3.2.1 (by omega), hp _ a4⟩
theorem lines_len : ∀ ps : List (Addr × Row), (∀ q ∈ ps, q.2.short) → (ps.map fun q => lineL q.2).flatten.length ≤ 36 * ps.length
  | [], _ => Nat.zero_le _
  | q :: ps, h => by
    have ih := lines_len ps fun q' hq' => h q' (List.mem_cons_of_mem _ hq')
    obtain ⟨a1, a2, a3, a4⟩ := h q List.mem_cons_self
    rw [List.map_cons, List.flatten_cons, List.length_append, lineL_len, List.length_cons]
    omega
theorem cut3 (t : List Nat) : ∃ u, cutS (S t) (some (-3)) none = S u ∧ u.Sublist t ∧ u.length ≤ 3 := by
  refine ⟨_, S_cut _ _ _, (List.take_sublist _ _).trans (List.drop_sublist _ _), ?_⟩
  rw [List.length_take, List.length_drop]
  have : HT.sIx t.length t.length none = t.length := rfl
  have e : HT.sIx t.length 0 (some (-3)) = ((-3 : Int) + (t.length : Int)).toNat := rfl
  rw [this, e]
  omega
theorem perm_flat {ts ts' : List (List Nat)} (h : ts'.Perm ts) : ts'.flatten.length = ts.flatten.length := by
  induction h with
  | nil => rfl
  | cons x _ ih => rw [List.flatten_cons, List.flatten_cons, List.length_append, List.length_append, ih]
  | swap x y l => simp only [List.flatten_cons, List.length_append]; omega
  | trans _ _ h1 h2 => rw [h1, h2]
def tLA (C : Addr) : TS := fun D σ H => ∃ (x b g al u lp : Addr) (l : List Nat) (ps : List (Addr × Row)) (ts : List (List Nat)) (v8 : Option V), σ = stL x b l al u (some (.ref lp)) v8 none none none none none ∧ LwJ C b g al u l H ps ∧ (∀ q ∈ ps, q.2.short) ∧ ps.length ≤ 20 ∧ (1 ≤ (45 :: srtL l).length ∧ (45 :: srtL l).length ≤ 100 ∧ WideOk (45 :: srtL l)) ∧
  H lp = some (.lst (ts.map fun t => V.str (S t))) ∧ (lp ≠ b ∧ lp ≠ g) ∧ ts.length ≤ 8 ∧ ts.flatten.length ≤ 288 ∧ (∀ t ∈ ts, WideOk t) ∧
  ∀ (lp' : Addr) (ts' : List (List Nat)) (v9 : Option V) (H' : Hp), LwJ C b g al u l H' ps → H' lp' = some (.lst (ts'.map fun t => V.str (S t))) → ts'.flatten.length ≤ 2700 → (∀ t ∈ ts', WideOk t) → D.nx (stL x b l al u (some (.ref lp')) v8 v9 none none none none) H'
def tLC : TS := fun D σ H => ∃ (x b al u : Addr) (l o1 : List Nat) (r : Nat) (v6 v8 v9 v10 v11 : Option V), σ = stL x b l al u v6 v8 v9 v10 v11 (some (.str (S o1))) (some (.int (r : Int))) ∧ (1 ≤ l.length ∧ l.length ≤ 4 ∧ Differ l azL) ∧ (1 ≤ o1.length ∧ o1.length ≤ 4 ∧ Differ o1 azL) ∧ r ≤ l.length ∧
  ∀ o : List Nat, 1 ≤ o.length → o.length ≤ 4 → Differ o azL → D.nx (stL x b l al u v6 v8 v9 v10 v11 (some (.str (S o))) (some (.int (r : Int)))) H
def tLB : TS := fun D σ H => ∃ (x b al u : Addr) (l : List Nat) (v6 v8 v9 v10 : Option V), σ = stL x b l al u v6 v8 v9 v10 none none none ∧ l.length ≤ 4 ∧
  ∀ (z : Addr) (H' : Hp), H z = none → Same H H' → H' z = some (.lst ((azL.filter fun c => !decide (c ∈ l)).map fun c => V.str (S [c]))) → D.nx (stL x b l al u v6 v8 v9 v10 (some (.ref z)) none none) H'
def tLO : TS := fun D σ H => ∃ (x b g al u z : Addr) (l : List Nat) (v6 v8 v9 v10 : Option V), σ = stL x b l al u v6 v8 v9 v10 (some (.ref z)) none none ∧ (1 ≤ l.length ∧ l.length ≤ 4 ∧ Differ l azL) ∧ BoxB H b g ∧ (z ≠ b ∧ z ≠ g) ∧
  H z = some (.lst ((azL.filter fun c => !decide (c ∈ l)).map fun c => V.str (S [c]))) ∧
  ∀ (o : List Nat) (H' : Hp), 1 ≤ o.length → o.length ≤ 4 → Differ o azL → BoxB H' b g → Kp2 b g H H' → D.nx (stL x b l al u v6 v8 v9 v10 (some (.ref z)) (some (.str (S o))) none) H'
theorem strange_some {l : List Nat} (h : l.length ≤ 4) : 1 ≤ (azL.filter fun c => !decide (c ∈ l)).length := by
  refine Nat.pos_of_ne_zero fun z => ?_
  have hz := List.eq_nil_of_length_eq_zero z
  have hs : ∀ c ∈ azL, c ∈ l := fun c hc => by
    by_cases hl : c ∈ l
    · exact hl
    · have : c ∈ azL.filter fun c => !decide (c ∈ l) := List.mem_filter.mpr ⟨hc, by simp [hl]⟩
      rw [hz] at this
      cases this
  have := len_of_sub az_nodup hs
  rw [az_len] at this
  omega
section
variable {P : Program} {w : World} {K : PySem.W.Frag} {mg : Str → Option Value} {base : Heap} {a : Ad} {d : Fd} {c : Er} {C B CB fA fE : Addr} {fdA fdE : FuncData} {ds1 : List Value} {mc mcB : Value} {tm tj tl tmB : Tok}
theorem scLaw : FnScope ["_law_script", "_law_box_here", "_law_letters_here", "_law_signs", "_law_alphabet", "_law_rows_here", "_law_lines", "_law_row", "_law_note", "_law_turn", "_law_text", "_law_strange", "_law_char_here", "_law_other", "_law_at"] ["_law_script"] (defScope sLaw) := ⟨rfl, rfl, rfl, by decide +kernel, rfl, by decide +kernel, by decide +kernel⟩
theorem ok_law (T : Fns K mg a d) (AV : AlV K mg C mc tm tj tl) (MA : Mk K C fA)
    (GA : FnOk P w K mg base (L2.CX P w) 3 fA fdA ["self", "letters", "vowels"] (spAl C B)) (bA : Binds K fdA ["self", "letters", "vowels"] []) (bA1 : Binds K fdA ["self", "letters", "vowels"] ds1) (hd1 : Vals [V.str (S [])] ds1) (GBoxB : FnOk P w K mg base CX0 1 a.aBoxB d.dBoxB ["_law_script"] (spBoxB K))
    (GBookL : FnOk P w K mg base (L2.CX P w) 6 a.aBookL d.dBookL ["_law_alphabet", "_law_rows_here"] (spBookL C CB c))
    (GFormat : FnOk P w K mg base CX0 2 a.aFormat d.dFormat ["book"] (spFormat CB))
    (GJudged : FnOk P w K mg base CX0 8 a.aJudged d.dJudged ["_law_alphabet", "_law_signs", "_law_text"] (spJudged C CB)) :
    FnOk P w K mg base CX0 9 a.aLaw d.dLaw ["_law_script"] (spLaw K) := by
  have GDraw : FnOk P w K mg base CX0 1 a.aDraw d.dDraw ["_law_box_here", "_law_many"] spDraw := gDraw T
  have GLetters := ok_letters (P := P) (w := w) (base := base) T
  have GRows := ok_rows (P := P) (w := w) (base := base) T
  have GLine : FnOk P w K mg base CX0 1 a.aLine d.dLine ["_law_row"] spLine := ok_line T
  have GMixed : FnOk P w K mg base CX0 2 a.aMixed d.dMixed ["_law_box_here", "_law_lines"] spMixed := ok_mixed T
  have GChanged : FnOk P w K mg base CX0 4 a.aChanged d.dChanged ["_law_box_here", "_law_signs", "_law_rows_here", "_law_lines"] spChanged := ok_changed T
  refine T.FLaw.ok scLaw (fun vs H Q E h => ?_) (fun cdv A0 outer s H vs Q E hr h => ?_)
  · obtain ⟨x, ns, rfl, _⟩ := h
    rfl
  · obtain ⟨x, ns, rfl, hS, hl63, k⟩ := h
    refine ⟨_, ((pss_cons (ps_set (i := 1) scLaw.nd rfl (Or.inl rfl) (pe_call GBoxB (hr.mono (by decide)) (by rfl) T.gBoxB T.FBoxB.kp T.bBoxB .nil pass0 (pa_cons (pv 0) pa_nil)))
      (pss_cons (ps_set (i := 2) scLaw.nd rfl (Or.inr rfl) (pe_call GLetters (hr.mono (by decide)) (by rfl) T.gLetters T.FLetters.kp T.bLetters .nil pass0 (pa_cons (pv 1) (pa_cons (pe_ix (r := rIxL K) ix_list (pe_lst (pa_cons pe_int (pa_cons pe_int (pa_cons pe_int (pa_cons pe_int pa_nil))))) (pe_call GDraw (hr.mono (by decide)) (by rfl) T.gDraw T.FDraw.kp T.bDraw .nil pass0 (pa_cons (pv 1) (pa_cons pe_int pa_nil))) (fun _ _ => rfl)) pa_nil))))
      (pss_cons (ps_set (i := 3) scLaw.nd rfl (Or.inl rfl) (pe_op op_addS (pe_strS (l := [45]) (by decide +kernel)) (pe_join (pe_strS (l := []) (by decide +kernel)) (pe_callB (cr_sortT rfl) (by rfl) T.z_sorted (by decide +kernel) (pa_cons (pv 2) pa_nil)))))
      (pss_cons (ps_set (i := 4) scLaw.nd rfl (Or.inl rfl) (pe_make MA GA (hr.mono (by decide)) (by rfl) AV.gC bA .nil passE (pa_cons (pv 2) (pa_cons (pe_slice sl_str (pv 2) po_none (po_some pe_int)) pa_nil))))
      (pss_cons (ps_set (i := 5) scLaw.nd rfl (Or.inl rfl) (pe_call GRows (hr.mono (by decide)) (by rfl) T.gRows T.FRows.kp T.bRows .nil pass0 (pa_cons (pv 1) (pa_cons (pv 3) (pa_cons (pe_ix (r := rIxL K) ix_list (pe_lst (pa_cons pe_int (pa_cons pe_int (pa_cons pe_int (pa_cons pe_int (pa_cons pe_int (pa_cons pe_int (pa_cons pe_int (pa_cons pe_int (pa_cons pe_int pa_nil)))))))))) (pe_call GDraw (hr.mono (by decide)) (by rfl) T.gDraw T.FDraw.kp T.bDraw .nil pass0 (pa_cons (pv 1) (pa_cons pe_int pa_nil))) (fun _ _ => rfl)) (pa_cons (pe_ix (r := rIxL K) ix_list (pe_lst (pa_cons pe_int (pa_cons pe_int pa_nil))) (pe_call GDraw (hr.mono (by decide)) (by rfl) T.gDraw T.FDraw.kp T.bDraw .nil pass0 (pa_cons (pv 1) (pa_cons pe_int pa_nil))) (fun _ _ => rfl)) pa_nil))))))
      (pss_cons (ps_setLc (i := 6) (own := [("_law_row", 7)]) (g := gName 7) (by rfl) scLaw.nd rfl rfl (by rfl) (pi_list (pe_callB cr_sort4 (by rfl) T.z_sorted (by decide +kernel) (pa_cons (pv 5) pa_nil))) (blkOk_by (own := [("_law_row", 7)]) (N := ["_law_script", "_law_box_here", "_law_letters_here", "_law_signs", "_law_alphabet", "_law_rows_here", "_law_lines", "_law_row", "_law_note", "_law_turn", "_law_text", "_law_strange", "_law_char_here", "_law_other", "_law_at"]) (sc := defScope sLaw) (by decide +kernel)) (fun _ _ _ _ _ => pg_name (i := 7) scLaw.nd rfl (Or.inl rfl)) (fun _ _ _ _ _ => pts_nil) (fun _ _ _ _ _ => (pe_call GLine (hr.mono (by decide)) (by rfl) T.gLine T.FLine.kp T.bLine .nil pass0 (pa_cons (pv 7) pa_nil))))
      (pss_cons (ps_set (i := 8) scLaw.nd rfl (Or.inl rfl) (pe_call GFormat (hr.mono (by decide)) (by rfl) T.gFormat T.FFormat.kp T.bFormat .nil pass0 (pa_cons (pe_call GBookL (hr.mono (by decide)) (by rfl) T.gBookL T.FBookL.kp T.bBookL .nil passE (pa_cons (pv 4) (pa_cons (pv 5) pa_nil))) pa_nil)))
      (pss_cons (ps_if (PW.pt (pw_or (pt_not (pt_val (pe_callB call_isi (by rfl) T.z_isinstance (by decide +kernel) (pa_cons (pv 8) (pa_cons (pe_bltn (v := .ty "str") (by rfl) T.z_str (by decide +kernel) rfl) pa_nil))))) (pw_or1 (pt_cmpR op_ne (pv 8) (pe_join (pe_strS (l := []) (by decide +kernel)) (pv 6)) (nomark _))))) (pss_one (ps_ret pe_bl)) pss_nil)
      (pss_cons (ps_set (i := 6) scLaw.nd rfl (Or.inl rfl) (pe_call GMixed (hr.mono (by decide)) (by rfl) T.gMixed T.FMixed.kp T.bMixed .nil pass0 (pa_cons (pv 1) (pa_cons (pv 6) pa_nil))))
      (pss_cons (ps_if (pt_not (pt_val (pe_call GJudged (hr.mono (by decide)) (by rfl) T.gJudged T.FJudged.kp T.bJudged .nil pass0 (pa_cons (pv 4) (pa_cons (pv 3) (pa_cons (pe_join (pe_strS (l := []) (by decide +kernel)) (pv 6)) pa_nil)))))) (pss_one (ps_ret pe_bl)) pss_nil)
      (pss_cons (PS.imp (t' := tLA C) (ps_for PassesOwn.never rfl (pi_range1 (by rfl) T.z_range (pa_cons (pe_ix (r := rIxL K) ix_list (pe_lst (pa_cons pe_int (pa_cons pe_int (pa_cons pe_int (pa_cons pe_int pa_nil))))) (pe_call GDraw (hr.mono (by decide)) (by rfl) T.gDraw T.FDraw.kp T.bDraw .nil pass0 (pa_cons (pv 1) (pa_cons pe_int pa_nil))) (fun _ _ => rfl)) pa_nil)) (pg_name (i := 9) scLaw.nd rfl (Or.inl rfl)) (pss_one (ps_set (i := 6) scLaw.nd rfl (Or.inl rfl) (pe_call GChanged (hr.mono (by decide)) (by rfl) T.gChanged T.FChanged.kp T.bChanged .nil pass0 (pa_cons (pv 1) (pa_cons (pv 3) (pa_cons (pv 5) (pa_cons (pv 6) pa_nil)))))))) ?hA)
      (pss_cons (ps_set (i := 10) scLaw.nd rfl (Or.inl rfl) (pe_join (pe_strS (l := []) (by decide +kernel)) (pv 6)))
      (pss_cons (PS.imp (t' := tLB) (ps_setLc (i := 11) (own := [("_law_char_here", 12)]) (g := gName 12) (by rfl) scLaw.nd rfl rfl (by rfl) (pi_str (pe_strS (l := kStrG14_0) kStrG14_0_eq)) (blkOk_by (own := [("_law_char_here", 12)]) (N := ["_law_script", "_law_box_here", "_law_letters_here", "_law_signs", "_law_alphabet", "_law_rows_here", "_law_lines", "_law_row", "_law_note", "_law_turn", "_law_text", "_law_strange", "_law_char_here", "_law_other", "_law_at"]) (sc := defScope sLaw) (by decide +kernel)) (fun _ _ _ _ _ => pg_name (i := 12) scLaw.nd rfl (Or.inl rfl)) (fun _ _ _ _ _ => (pts_one (pt_cmpR op_notInS (pv 12) (pv 2) rfl))) (fun _ _ _ _ _ => (pv 12))) ?hB)
      (pss_cons (PS.imp (t' := tLO) (ps_set (i := 13) scLaw.nd rfl (Or.inl rfl) (pe_op op_addS (pe_slice sl_str (pv 2) (po_some (pe_un un_neg pe_int)) po_none) (pe_ix (r := rIxL K) ix_list (pv 11) (pe_call GDraw (hr.mono (by decide)) (by rfl) T.gDraw T.FDraw.kp T.bDraw .nil pass0 (pa_cons (pv 1) (pa_cons (pe_callB call_len_seq (by rfl) T.z_len (by decide +kernel) (pa_cons (pv 11) pa_nil)) pa_nil))) (fun _ _ => rfl)))) ?hO)
      (pss_cons (ps_set (i := 14) scLaw.nd rfl (Or.inl rfl) (pe_call GDraw (hr.mono (by decide)) (by rfl) T.gDraw T.FDraw.kp T.bDraw .nil pass0 (pa_cons (pv 1) (pa_cons (pe_op op_add (pe_callB call_lenS (by rfl) T.z_len (by decide +kernel) (pa_cons (pv 2) pa_nil)) pe_int) pa_nil))))
      (pss_cons (PS.imp (t' := tLC) (ps_if (PW.pt (pw_and (pt_cmpR op_gt (pe_callB call_lenS (by rfl) T.z_len (by decide +kernel) (pa_cons (pv 2) pa_nil)) pe_int (nomark _)) (pw_and1 (pt_cmpR op_lt (pv 14) (pe_callB call_lenS (by rfl) T.z_len (by decide +kernel) (pa_cons (pv 2) pa_nil)) (nomark _))))) (pss_one (ps_set (i := 13) scLaw.nd rfl (Or.inl rfl) (pe_op op_addS (pe_slice sl_str (pv 2) po_none (po_some (pv 14))) (pe_slice sl_str (pv 2) (po_some (pe_op op_add (pv 14) pe_int)) po_none)))) pss_nil) ?hC)
      (pss_cons (ps_if (pt_not (pt_val (pe_call GJudged (hr.mono (by decide)) (by rfl) T.gJudged T.FJudged.kp T.bJudged .nil pass0 (pa_cons (pe_make MA GA (hr.mono (by decide)) (by rfl) AV.gC bA1 hd1 passE (pa_cons (pv 13) pa_nil)) (pa_cons (pe_op op_addS (pe_strS (l := [45]) (by decide +kernel)) (pe_join (pe_strS (l := []) (by decide +kernel)) (pe_callB (cr_sortT rfl) (by rfl) T.z_sorted (by decide +kernel) (pa_cons (pv 13) pa_nil)))) (pa_cons (pv 10) pa_nil)))))) (pss_one (ps_ret pe_bl)) pss_nil)
      (pss_one (ps_ret (pe_call GJudged (hr.mono (by decide)) (by rfl) T.gJudged T.FJudged.kp T.bJudged .nil pass0 (pa_cons (pv 4) (pa_cons (pv 3) (pa_cons (pv 10) pa_nil)))))))))))))))))))))))), ?_⟩
    case hA =>
      rintro ⟨D1, D2, D3, D4⟩ σ H ⟨x, b, g, al, u, lp, l, ps, ts, v8, rfl, I, hsh, hpl, hsg, hlp, nlp, htl, hfl, hw, kk⟩
      walk_at "go"
      rename_i L hL
      have I1 := I.same (upd_laid (o := .lst [V.int 1, V.int 0, V.int 2, V.int 3]) hL)
      have hL1 : (upd H L (.lst [V.int 1, V.int 0, V.int 2, V.int 3])) L = some (.lst [V.int 1, V.int 0, V.int 2, V.int 3]) := upd_same
      have hlp1 := (upd_laid (o := .lst [V.int 1, V.int 0, V.int 2, V.int 3]) hL) _ _ hlp
      have nL := off_box I.hB hL
      generalize upd H L (.lst [V.int 1, V.int 0, V.int 2, V.int 3]) = H1 at I1 hL1 hlp1
      refine ⟨b, g, _, rfl, I1.hB, by decide, fun r H2 hr2 hB2 hk2 => ?_⟩
      obtain ⟨n, hn, hn3⟩ : ∃ n : Nat, ([V.int 1, V.int 0, V.int 2, V.int 3] : List V)[r]? = some (.int (n : Int)) ∧ n ≤ 3 := by
        match r, (by omega : r < 4) with
        | 0, _ => exact ⟨1, rfl, by decide⟩
        | 1, _ => exact ⟨0, rfl, by decide⟩
        | 2, _ => exact ⟨2, rfl, by decide⟩
        | 3, _ => exact ⟨3, rfl, by decide⟩
      have hL2 := hk2 _ _ nL.1 nL.2 hL1
      have I2 := I1.kp hB2 hk2
      have hlp2 := hk2 _ _ nlp.1 nlp.2 hlp1
      walk_at "go"
      rw [Int.toNat_natCast]
      refine for_R (fun i σ H' => Stop (∃ (lp' : Addr) (ts' : List (List Nat)) (v9 : Option V), σ = stL x b l al u (some (.ref lp')) v8 v9 none none none none ∧ LwJ C b g al u l H' ps ∧ H' lp' = some (.lst (ts'.map fun t => V.str (S t))) ∧ (lp' ≠ b ∧ lp' ≠ g) ∧ ts'.length ≤ 8 + 2 * i ∧ ts'.flatten.length + 45 ≤ 333 * 2 ^ i ∧ ∀ t ∈ ts', WideOk t)) ⟨lp, ts, none, rfl, I2, hlp2, nlp, by omega, by omega, hw⟩ ?_ ?_
      · rintro i σ H' hi ⟨lp', ts', v9, rfl, I', hlp', nlp', h1, h2, h3⟩
        have hi2 : i ≤ 2 := by omega
        have hp2 : 2 ^ i ≤ 4 := Nat.pow_le_pow_right (by decide) hi2
        walk_at "go"
        refine ⟨b, g, _, u, lp', ps, ts', rfl, I'.hB, hsg.1, hsg.2.1, hsg.2.2, I'.hR, I'.nu, hpl, hsh, hlp', nlp', by omega, by omega, h3, fun q ts2 H2 hq hq2 b1 b2 b3 hB hk => ?_⟩
        walk_at "go"
        exact ⟨q, ts2, _, rfl, I'.kp hB hk, hq2, off_box I'.hB hq, by omega, by rw [Nat.pow_succ]; omega, b3⟩
      · rintro σ H' ⟨lp', ts', v9, rfl, I', hlp', nlp', h1, h2, h3⟩
        have hp2 : 2 ^ n ≤ 8 := Nat.pow_le_pow_right (by decide) hn3
        exact kk lp' ts' v9 H' I' hlp' (by omega) h3
    case hB =>
      rintro ⟨D1, D2, D3, D4⟩ σ H ⟨x, b, al, u, l, v6, v8, v9, v10, rfl, hl, kk⟩
      walk_at "go"
      rename_i D hD
      have h26 : azL.length ≤ 64 := by rw [az_len]; decide
      first
      | rw [show kStrG14_0 = azL by decide +kernel]
      | rw [show kStrG14c_0 = azL by decide +kernel]
      refine lc_text (fun c => !decide (c ∈ l)) (fun c => V.str (S [c])) (by omega) (fun _ => rfl) (fun cc hc H2 Q2 off q => ?tt) (fun cc hc hp H2 Q2 off q => ?ee) ?_
      case tt =>
        walk_at "go"
        exact q
      case ee =>
        walk_at "go"
        exact q
      exact kk D _ hD (upd_laid hD) upd_same
    case hO =>
      rintro ⟨D1, D2, D3, D4⟩ σ H ⟨x, b, g, al, u, z, l, v6, v8, v9, v10, rfl, ⟨l1, l4, hdl⟩, hB, nz, hz, kk⟩
      have h1 := strange_some l4
      have h26 : (azL.filter fun c => !decide (c ∈ l)).length ≤ 26 := by rw [← az_len]; exact List.length_filter_le _ _
      have hml : ((azL.filter fun c => !decide (c ∈ l)).map fun c => V.str (S [c])).length = (azL.filter fun c => !decide (c ∈ l)).length := List.length_map _
      obtain ⟨o3, e3, hsub, h3⟩ := cut3 l
      have hfm : ∀ c ∈ azL.filter (fun c => !decide (c ∈ l)), c ∈ azL ∧ c ∉ l := fun c hc => by
        have := List.mem_filter.mp hc
        exact ⟨this.1, by simpa using this.2⟩
      generalize azL.filter (fun c => !decide (c ∈ l)) = f at h1 h26 hml hz hfm kk
      walk_at "go"
      refine ⟨b, g, _, rfl, hB, by omega, fun r H2 hr2 hB2 hk2 => ?_⟩
      have hrf : r < f.length := by omega
      have hz2 := hk2 _ _ nz.1 nz.2 hz
      obtain ⟨c, hc⟩ : ∃ c, f[r]? = some c := ⟨_, List.getElem?_eq_getElem hrf⟩
      have hcm := hfm c (List.mem_of_getElem? hc)
      have hc2 : (f.map fun c => V.str (S [c]))[r]? = some (V.str (S [c])) := by rw [List.getElem?_map, hc]; rfl
      rw [e3]
      have lc1 : ([c] : List Nat).length = 1 := rfl
      walk_at "go"
      exact kk (o3 ++ [c]) H2 (by rw [List.length_append, lc1]; omega) (by rw [List.length_append, lc1]; omega) ⟨List.nodup_append.mpr ⟨hdl.1.sublist hsub, (by simp), fun a ha b hb => by
        rw [List.mem_singleton] at hb
        subst hb
        exact fun z => hcm.2 (z ▸ hsub.subset ha)⟩, fun x hx => by
        rcases List.mem_append.mp hx with m | m
        · exact hdl.2 x (hsub.subset m)
        · rw [List.mem_singleton] at m
          subst m
          exact hcm.1⟩ hB2 hk2
    case hC =>
      rintro ⟨D1, D2, D3, D4⟩ σ H ⟨x, b, al, u, l, o1, r, v6, v8, v9, v10, v11, rfl, hl, ho, hr, kk⟩
      obtain ⟨l1, l4, hdl⟩ := hl
      obtain ⟨o1', o4, hdo⟩ := ho
      walk_at "go"
      · rename_i h1 h2
        have hsub : (l.take r ++ l.drop (r + 1)).Sublist l := (List.eraseIdx_eq_take_drop_succ l r) ▸ List.eraseIdx_sublist l r
        exact kk (l.take r ++ l.drop (r + 1)) (by rw [List.length_append, List.length_take, List.length_drop]; omega) (by rw [List.length_append, List.length_take, List.length_drop]; omega) ⟨hdl.1.sublist hsub, fun c hc => hdl.2 c (hsub.subset hc)⟩
      · exact kk o1 o1' o4 hdo
      · exact kk o1 o1' o4 hdo
    --MAIN
    have e0 : PySem.Str.ofString "" = S [] := by decide +kernel
    walk_at "go"
    refine ⟨x, ns, rfl, hS, hl63, fun b g H1 hb hg hB1 s1 => ?_⟩
    walk_at "go"
    rename_i L1 hL1
    have n1 := off_box hB1 hL1
    have hB2 := hB1.same (upd_laid (o := .lst [V.int 2, V.int 1, V.int 3, V.int 4]) hL1)
    have hL2 : (upd H1 L1 (.lst [V.int 2, V.int 1, V.int 3, V.int 4])) L1 = some (.lst [V.int 2, V.int 1, V.int 3, V.int 4]) := upd_same
    generalize upd H1 L1 (.lst [V.int 2, V.int 1, V.int 3, V.int 4]) = H2 at hL2 hB2
    refine ⟨b, g, _, rfl, hB2, by decide, fun r H3 hr3 hB3 hk3 => ?_⟩
    obtain ⟨n, hn, hn1, hn4⟩ : ∃ n : Nat, ([V.int 2, V.int 1, V.int 3, V.int 4] : List V)[r]? = some (.int (n : Int)) ∧ 1 ≤ n ∧ n ≤ 4 := by
      match r, (by omega : r < 4) with
      | 0, _ => exact ⟨2, rfl, by decide, by decide⟩
      | 1, _ => exact ⟨1, rfl, by decide, by decide⟩
      | 2, _ => exact ⟨3, rfl, by decide, by decide⟩
      | 3, _ => exact ⟨4, rfl, by decide, by decide⟩
    have hL3 := hk3 _ _ n1.1 n1.2 hL2
    walk_at "go"
    refine ⟨b, g, n, rfl, hB3, by omega, fun l H4 hl hdl hB4 hk4 => ?_⟩
    have l1 : 1 ≤ l.length := by omega
    have l4 : l.length ≤ 4 := by omega
    clear hL3 hL2 hn hn1 hn4 hr3 hL1 n1 hk3 hB2 hk4
    walk_at "go"
    refine ⟨S l, rfl, (by rw [S_len]; omega), fun ys p1 hp hs n1 => ?_⟩
    obtain ⟨b1, e1⟩ := joined (by omega) hp hs
    rw [e0] at b1 e1
    have s5 : Same H4 (upd H4 p1 (.lst (ys.map V.str))) := upd_laid n1
    refine ⟨_, p1, ys, rfl, rfl, .inl (SqL.of upd_same), b1, ?_⟩
    rw [e1]
    have hB5 := hB4.same s5
    generalize upd H4 p1 (.lst (ys.map V.str)) = H5 at s5 hB5
    clear hp hs b1 e1 s5 n1
    have lsz : (srtL l).length = l.length := srtL_len l
    show rAddS (V.str (S [45])) (V.str (S (srtL l))) H5 _
    have lsz2 : ([45] : List Nat).length = 1 := rfl
    have hdue := due_al l1 l4 hdl (List.take_sublist 1 l)
    obtain ⟨sg1, sg2, sgw, sg32, sgn⟩ := signs_ok l1 l4 hdl
    walk_at "go"
    unfold tMake
    walk_at "go"
    refine fun al d8 hx8 hd8 _ => ⟨al, d8, l, l.take 1, rfl, upd_same, by omega, by rw [List.length_take]; omega, fun _ H7 hA7 hk7 => ⟨rfl, ?_⟩, fun hne => absurd hdue hne⟩
    have s7 := kp_newB hx8 hd8 hk7
    have hB7 := hB5.same s7
    clear hk7 hx8 hd8 s7 hB5
    walk_at "go"
    rename_i L1 hL1
    have n1 := off_box hB7 hL1
    have s8 : Same H7 (upd H7 L1 (.lst [V.int 3, V.int 8, V.int 0, V.int 1, V.int 2, V.int 4, V.int 5, V.int 6, V.int 7])) := upd_laid hL1
    have hL8 : (upd H7 L1 (.lst [V.int 3, V.int 8, V.int 0, V.int 1, V.int 2, V.int 4, V.int 5, V.int 6, V.int 7])) L1 = some (.lst [V.int 3, V.int 8, V.int 0, V.int 1, V.int 2, V.int 4, V.int 5, V.int 6, V.int 7]) := upd_same
    have hB8 := hB7.same s8
    have hA8 := hA7.same s8
    generalize upd H7 L1 (.lst [V.int 3, V.int 8, V.int 0, V.int 1, V.int 2, V.int 4, V.int 5, V.int 6, V.int 7]) = H8 at s8 hL8 hB8 hA8
    refine ⟨b, g, _, rfl, hB8, by decide, fun r9 H9 hr9 hB9 hk9 => ?_⟩
    obtain ⟨n, hn, hn8⟩ : ∃ n : Nat, ([V.int 3, V.int 8, V.int 0, V.int 1, V.int 2, V.int 4, V.int 5, V.int 6, V.int 7] : List V)[r9]? = some (.int (n : Int)) ∧ n ≤ 8 := by
      match r9, (by omega : r9 < 9) with
      | 0, _ => exact ⟨3, rfl, by decide⟩
      | 1, _ => exact ⟨8, rfl, by decide⟩
      | 2, _ => exact ⟨0, rfl, by decide⟩
      | 3, _ => exact ⟨1, rfl, by decide⟩
      | 4, _ => exact ⟨2, rfl, by decide⟩
      | 5, _ => exact ⟨4, rfl, by decide⟩
      | 6, _ => exact ⟨5, rfl, by decide⟩
      | 7, _ => exact ⟨6, rfl, by decide⟩
      | 8, _ => exact ⟨7, rfl, by decide⟩
    have hA9 := hA8.kp hB8 hk9
    have hL9 := hk9 _ _ n1.1 n1.2 hL8
    clear hL8 hA8 hk9 hB8 s8 hA7 hB7 hr9
    walk_at "go"
    rename_i Lm hLm
    have n2 := off_box hB9 hLm
    have s10 : Same H9 (upd H9 Lm (.lst [V.int 6, V.int 3])) := upd_laid hLm
    have hL10 : (upd H9 Lm (.lst [V.int 6, V.int 3])) Lm = some (.lst [V.int 6, V.int 3]) := upd_same
    have hB10 := hB9.same s10
    have hA10 := hA9.same s10
    generalize upd H9 Lm (.lst [V.int 6, V.int 3]) = H10 at s10 hL10 hB10 hA10
    refine ⟨b, g, _, rfl, hB10, by decide, fun r11 H11 hr11 hB11 hk11 => ?_⟩
    obtain ⟨m, hm, hm3, hm6⟩ : ∃ m : Nat, ([V.int 6, V.int 3] : List V)[r11]? = some (.int (m : Int)) ∧ 3 ≤ m ∧ m ≤ 6 := by
      match r11, (by omega : r11 < 2) with
      | 0, _ => exact ⟨6, rfl, by decide, by decide⟩
      | 1, _ => exact ⟨3, rfl, by decide, by decide⟩
    have hA11 := hA10.kp hB10 hk11
    have hL11 := hk11 _ _ n2.1 n2.2 hL10
    clear hL10 hA10 hk11 hB10 s10 hA9 hL9 hB9 hr11
    walk_at "go"
    refine ⟨b, g, 45 :: srtL l, n, m, rfl, hB11, by omega, by omega, sgw, by omega, by omega, by omega, fun u ps H12 hu hR hpl hRow hPw hB12 hk12 => ?_⟩
    have hgood := good_drawn hm6 hRow (hPw sgn (Nat.le_trans hn8 (top_eight sg1 hm3)))
    have hsh : ∀ q ∈ ps, q.2.short := fun q hq => rowW_short hm6 (hRow q hq)
    have nu := off_box hB11 hu
    have I12 : LwJ C b g al u l H12 ps := ⟨hB12, hA11.kp hB11 hk12, hR, nu⟩
    have hp8 : ps.length ≤ 8 := by omega
    clear hRow hPw hA11 hL11 hk12 hu hB11 hB12 hR
    walk_at "go"
    refine ⟨u, ps, rfl, SqL.of I12.hR.1, fun q hq => (I12.hR.2 q hq).1, fun rs p1 hpr hsr hn1 => ?_⟩
    have s13 : Same H12 (upd H12 p1 (.lst (rs.map fun q => V.ref q.1))) := upd_laid hn1
    have hp1 : (upd H12 p1 (.lst (rs.map fun q => V.ref q.1))) p1 = some (.lst (rs.map fun q => V.ref q.1)) := upd_same
    have I13 := I12.same s13
    generalize upd H12 p1 (.lst (rs.map fun q => V.ref q.1)) = H13 at s13 hp1 I13
    have hrl : rs.length ≤ 8 := by rw [hpr.length_eq]; exact hp8
    have tup13 : ∀ q ∈ rs, H13 q.1 = some (.tup q.2.vs) := fun q hq => (I13.hR.2 q (hpr.mem_iff.mp hq)).1
    have okr : ∀ q ∈ rs, q.2.ok := fun q hq => (I13.hR.2 q (hpr.mem_iff.mp hq)).2
    walk_at "go"
    rename_i D14 hD14
    refine lc_lst (fun q : Addr × Row => V.ref q.1) (fun _ => true) (fun q => V.str (S (lineL q.2))) (by omega) hp1 hD14 (fun _ => rfl) (fun _ _ _ _ _ q => q) (fun q hq _ H3 Q3 off k3 => ⟨_, rfl, q.1, q.2, rfl, (off q.1 (ne_of_none (tup13 q hq) hD14)).trans (tup13 q hq), okr q hq, k3⟩) ?_
    rw [col_map]
    have s14 : Same H13 (upd H13 D14 (.lst (rs.map fun q => V.str (S (lineL q.2))))) := upd_laid hD14
    have h14 : (upd H13 D14 (.lst (rs.map fun q => V.str (S (lineL q.2))))) D14 = some (.lst ((rs.map fun q : Addr × Row => lineL q.2).map fun t => V.str (S t))) := by
      rw [upd_same, List.map_map]
      rfl
    have I14 := I13.same s14
    have nD := off_box I13.hB hD14
    generalize upd H13 D14 (.lst (rs.map fun q => V.str (S (lineL q.2)))) = H14 at s14 h14 I14
    walk_at "go"
    refine ⟨al, u, l, l.take 1, ps, rfl, I14.hA, I14.hR, by omega, fun _ _ bk qs H15 hbk hperm hsort hnd hBk s15 => ?_, fun h => absurd h (by omega), fun _ B0 dd fs H' hr _ _ _ => absurd hgood.first (raised_ne hr)⟩
    have I15 := I14.same s15
    have h15 := s15 _ _ h14
    have hqr := rows_eq hsort hsr hperm hpr hnd
    subst hqr
    have hqn : (qs.map fun q => q.2.n).Nodup := (hperm.map fun q : Addr × Row => q.2.n).nodup_iff.mpr hnd
    walk_at "go"
    refine ⟨bk, al, qs, rfl, hBk, hqn, by omega, fun H16 s16 => ?_⟩
    have I16 := I15.same s16
    have h16 := s16 _ _ h15
    have e3 : noteT (qs.map (·.2)) = (qs.map fun q : Addr × Row => lineL q.2).flatten := by
      unfold noteT
      rw [List.map_map]
      rfl
    rw [e3]
    have hshq : ∀ q ∈ qs, q.2.short := fun q hq => hsh q (hpr.mem_iff.mp hq)
    have hfl := lines_len qs hshq
    have hwl : ∀ t ∈ qs.map (fun q : Addr × Row => lineL q.2), WideOk t := fun t ht => by
      obtain ⟨q, hq, rfl⟩ := List.mem_map.mp ht
      exact lineL_wide (okr q hq)
    have hll : (qs.map fun q : Addr × Row => lineL q.2).length = qs.length := List.length_map _
    generalize qs.map (fun q : Addr × Row => lineL q.2) = ts at h16 hfl hwl hll
    clear h15 h14 hperm hsort hnd hBk s15 s16 I14 I15 hqn hbk
    walk_at "go"
    refine ⟨.inl (SqL.of (strs_map _ _ _ h16)), join_sumB (by omega), ?_⟩
    rw [join_flat]
    walk_at "go"
    refine ⟨b, g, D14, ts, rfl, I16.hB, h16, nD, by omega, fun q17 ts' H17 hq17 e17 hpm hB17 hk17 => ?_⟩
    have I17 := I16.kp hB17 hk17
    have nq := off_box I16.hB hq17
    have hw' : ∀ t ∈ ts', WideOk t := fun t ht => hwl t (hpm.mem_iff.mp ht)
    have hf' := perm_flat hpm
    have hl' := hpm.length_eq
    clear tup13 hp1 hpr hsr nD h16 hwl hpm hk17 hq17 I16 hB17 s13 I12 I13 okr hshq hn1 e3 hn hm hgood hD14
    walk_at "go"
    refine ⟨.inl (SqL.of (strs_map _ _ _ e17)), join_sumB (by omega), ?_⟩
    rw [join_flat]
    walk_at "go"
    refine ⟨al, l, l.take 1, ts'.flatten, rfl, I17.hA, by omega, flat_wide hw', fun H18 s18 => ?_⟩
    have I18 := I17.same s18
    have e18 := s18 _ _ e17
    walk_at "go"
    refine ⟨x, b, g, al, u, q17, l, ps, ts', _, rfl, I18, hsh, by omega, ⟨by omega, by omega, sgw⟩, e18, nq, by omega, by omega, hw', fun lp2 ts2 v9 H19 I19 e19 hf2 hw2 => ?_⟩
    clear e18 I18 I17 hf' hl' hw' hfl hll hrl s18 e17 nq
    walk_at "go"
    refine ⟨.inl (SqL.of (strs_map _ _ _ e19)), join_sumB (by omega), ?_⟩
    rw [join_flat]
    walk_at "go"
    refine ⟨x, b, al, u, l, _, _, _, _, rfl, l4, fun z H20 hz s20 hz20 => ?_⟩
    have I20 := I19.same s20
    have nz := off_box I19.hB hz
    clear e19 I19 hz s20
    walk_at "go"
    refine ⟨x, b, g, al, u, z, l, _, _, _, _, rfl, ⟨l1, l4, hdl⟩, I20.hB, nz, hz20, fun o1 H21 o11 o14 hdo1 hB21 hk21 => ?_⟩
    have I21 := I20.kp hB21 hk21
    clear hk21 I20 hz20 nz
    walk_at "go"
    refine ⟨b, g, _, rfl, hB21, by omega, fun r H22 hr22 hB22 hk22 => ?_⟩
    have I22 := I21.kp hB22 hk22
    clear hk22 I21 hB21 hB22
    walk_at "go"
    refine ⟨x, b, al, u, l, o1, r, _, _, _, _, _, rfl, ⟨l1, l4, hdl⟩, ⟨o11, o14, hdo1⟩, by omega, fun o ho1 ho4 hdo => ?_⟩
    clear o11 o14 hdo1 hr22
    walk_at "go"
    refine fun al2 d8 hx8 hd8 _ => ⟨al2, d8, o, [], rfl, upd_same, by omega, by decide, fun _ H23 hA23 hk23 => ⟨rfl, ?_⟩, fun hne => absurd (due_al ho1 ho4 hdo (List.nil_sublist _)) hne⟩
    have s23 := kp_newB hx8 hd8 hk23
    have I23 := I22.same s23
    clear hk23 hx8 hd8 s23 I22 hdue
    walk_at "go"
    refine ⟨S o, rfl, (by rw [S_len]; omega), fun ys p1 hp hs n1 => ?_⟩
    obtain ⟨b1, e1⟩ := joined (by omega) hp hs
    rw [e0] at b1 e1
    have s24 : Same H23 (upd H23 p1 (.lst (ys.map V.str))) := upd_laid n1
    refine ⟨_, p1, ys, rfl, rfl, .inl (SqL.of upd_same), b1, ?_⟩
    rw [e1]
    have I24 := I23.same s24
    have hA24 := hA23.same s24
    generalize upd H23 p1 (.lst (ys.map V.str)) = H24 at s24 I24 hA24
    clear hp hs b1 e1 s24 n1 I23 hA23
    have lsz3 : (srtL o).length = o.length := srtL_len o
    show rAddS (V.str (S [45])) (V.str (S (srtL o))) H24 _
    walk_at "go"
    refine ⟨al2, o, [], ts2.flatten, rfl, hA24, by omega, flat_wide hw2, fun H25 s25 => ?_⟩
    have I25 := I24.same s25
    walk_at "go"
    refine ⟨al, l, l.take 1, ts2.flatten, rfl, I25.hA, by omega, flat_wide hw2, fun H26 s26 => ?_⟩
    walk_at "go"
    exact k _
end
end
section
set_option Elab.async false
set_option linter.all false
set_option maxRecDepth 100000
set_option maxHeartbeats 8000000
open PySem PySem.Spec PyProof.Rows L2
theorem kinds_ns {K : PySem.W.Frag} {KI : Addr} {h1 h2 h3 : Int} {ta to ti : Tok} {u1 u2 u3 : Value} {n : Nat} (l : K.lookup KI = some ⟨.type "dict", none, .dict #[⟨h1, .str "any" ta, u1⟩, ⟨h2, .str "opening" to, u2⟩, ⟨h3, .str "inner" ti, u3⟩] n, #[]⟩) (t : List Nat) :
    ∃ r, PySem.W.nsIn K KI (S t) = some r ∧ r.isSome = decide (t ∈ kindsL) := by
  have key : ∀ (x : Str) (y : List Nat) (tk : Tok), x = S y → (Value.isStr (.str x tk) (S t)) = decide (t = y) := fun x y tk e => by
    subst e
    rw [PySem.W.isStr_of]
    show (S y == S t) = _
    by_cases h : t = y
    · subst h
      simp
    · have h2 : S y ≠ S t := fun e => h (S_inj.mp e).symm
      rw [beq_eq_false_iff_ne.mpr h2, decide_eq_false h]
  have k1 := key "any" (Lt "any") ta (Lt_S _).symm
  have k2 := key "opening" (Lt "opening") to (Lt_S _).symm
  have k3 := key "inner" (Lt "inner") ti (Lt_S _).symm
  unfold PySem.W.nsIn
  rw [l]
  unfold kindsL
  by_cases e1 : t = Lt "any"
  · rw [decide_eq_true e1] at k1
    refine ⟨some u1, ?_, ?_⟩
    · simp [List.find?, k1]
    · simp [e1]
  rw [decide_eq_false e1] at k1
  by_cases e2 : t = Lt "opening"
  · rw [decide_eq_true e2] at k2
    refine ⟨some u2, ?_, ?_⟩
    · simp [List.find?, k1, k2]
    · simp [e2]
  rw [decide_eq_false e2] at k2
  by_cases e3 : t = Lt "inner"
  · rw [decide_eq_true e3] at k3
    refine ⟨some u3, ?_, ?_⟩
    · simp [List.find?, k1, k2, k3]
    · simp [e3]
  rw [decide_eq_false e3] at k3
  refine ⟨none, ?_, ?_⟩
  · simp [List.find?, k1, k2, k3]
    simp [DictEntry.refKey]
  · simp [e1, e2, e3]
theorem all_mk {l : PySem.W.OpenLaw} {w : World} {K : PySem.W.Frag} {h : Heap} {mg : Str → Option Value} {fa : Addr} (X : K.In h) (G : h.Ns mainGlobals mg) (hfa : mg "law" = some (.ref fa))
    {fDiff fBoxB fDraw fLetters fWord fSucc fFresh fOverL fKin fRows fIsWord fFault fBookL fLine fMixed fCharL fEdited fFurther fExch fChanged fReadL fParsed fJudged fCheck fIsForm fOver fConf fFormat fParse fLaw C fT fE TD fA CB fBI fEn fEq KI TE BA fBA ccBA cdaBA TM fTM ccTM cdaTM BN fBN ccBN cdaBN BF fBF ccBF cdaBF UP fUP ccUP cdaUP DN fDN ccDN cdaDN CF fCF ccCF cdaCF BL fBL ccBL cdaBL : Addr} {odDiff anDiff odBoxB anBoxB odDraw anDraw odLetters anLetters odWord anWord odSucc anSucc odFresh anFresh odOverL anOverL odKin anKin odRows anRows odIsWord anIsWord odFault anFault odBookL anBookL odLine anLine odMixed anMixed odCharL anCharL odEdited anEdited odFurther anFurther odExch anExch odChanged anChanged odReadL anReadL odParsed anParsed odJudged anJudged odCheck anCheck odIsForm anIsForm odOver anOver odConf anConf odFormat anFormat odParse anParse odLaw anLaw odT anT odE anE odA anA odBI anBI odEn anEn odEq anEq odBA anBA ddccBA ddcdBA odTM anTM ddccTM ddcdTM odBN anBN ddccBN ddcdBN odBF anBF ddccBF ddcdBF odUP anUP ddccUP ddcdUP odDN anDN ddccDN ddcdDN odCF anCF ddccCF ddcdCF odBL anBL ddccBL ddcdBL : Option Addr} {slDiff slBoxB slDraw slLetters slWord slSucc slFresh slOverL slKin slRows slIsWord slFault slBookL slLine slMixed slCharL slEdited slFurther slExch slChanged slReadL slParsed slJudged slCheck slIsForm slOver slConf slFormat slParse slLaw slT slE slA slBI slEn slEq slBA slccBA slcdBA slTM slccTM slcdTM slBN slccBN slcdBN slBF slccBF slcdBF slUP slccUP slcdUP slDN slccDN slcdDN slCF slccCF slcdCF slBL slccBL slcdBL : Array (Option Value)} {ocDiff kVDiff dcDiff pmDiff cdDiff ctDiff ocBoxB kVBoxB dcBoxB pmBoxB cdBoxB ctBoxB ocDraw kVDraw dcDraw pmDraw cdDraw ctDraw ocLetters kVLetters dcLetters pmLetters cdLetters ctLetters ocWord kVWord dcWord pmWord cdWord ctWord ocSucc kVSucc dcSucc pmSucc cdSucc ctSucc ocFresh kVFresh dcFresh pmFresh cdFresh ctFresh ocOverL kVOverL dcOverL pmOverL cdOverL ctOverL ocKin kVKin dcKin pmKin cdKin ctKin ocRows kVRows dcRows pmRows cdRows ctRows ocIsWord kVIsWord dcIsWord pmIsWord cdIsWord ctIsWord ocFault kVFault dcFault pmFault cdFault ctFault ocBookL kVBookL dcBookL pmBookL cdBookL ctBookL ocLine kVLine dcLine pmLine cdLine ctLine ocMixed kVMixed dcMixed pmMixed cdMixed ctMixed ocCharL kVCharL dcCharL pmCharL cdCharL ctCharL ocEdited kVEdited dcEdited pmEdited cdEdited ctEdited ocFurther kVFurther dcFurther pmFurther cdFurther ctFurther ocExch kVExch dcExch pmExch cdExch ctExch ocChanged kVChanged dcChanged pmChanged cdChanged ctChanged ocReadL kVReadL dcReadL pmReadL cdReadL ctReadL ocParsed kVParsed dcParsed pmParsed cdParsed ctParsed ocJudged kVJudged dcJudged pmJudged cdJudged ctJudged ocCheck kVCheck dcCheck pmCheck cdCheck ctCheck ocIsForm kVIsForm dcIsForm pmIsForm cdIsForm ctIsForm ocOver kVOver dcOver pmOver cdOver ctOver ocConf kVConf dcConf pmConf cdConf ctConf ocFormat kVFormat dcFormat pmFormat cdFormat ctFormat ocParse kVParse dcParse pmParse cdParse ctParse ocLaw kVLaw dcLaw pmLaw cdLaw ctLaw ocT kVT dcT pmT cdT ctT ocE kVE dcE pmE cdE ctE ocA kVA dcA pmA cdA ctA ocBI kVBI dcBI pmBI cdBI ctBI ocEn kVEn dcEn pmEn cdEn ctEn ocEq kVEq dcEq pmEq cdEq ctEq ocBA kVBA dcBA pmBA ctBA clccBA clcdBA ocTM kVTM dcTM pmTM ctTM clccTM clcdTM ocBN kVBN dcBN pmBN ctBN clccBN clcdBN ocBF kVBF dcBF pmBF ctBF clccBF clcdBF ocUP kVUP dcUP pmUP ctUP clccUP clcdUP ocDN kVDN dcDN pmDN ctDN clccDN clcdDN ocCF kVCF dcCF pmCF ctCF clccCF clcdCF ocBL kVBL dcBL pmBL ctBL clccBL clcdBL : Value} {tM tJ tl td t6 t8 ta to ti tMB : Tok} {nD : Nat} {odD : Option Addr} {slD : Array (Option Value)} {ocD : Value} {h1 h2 h3 : Int} {u1 u2 u3 : Value} {nKI : Nat} {vsCBA : Array Value} {flBA : Str} {tfBA : Tok} {vsCTM : Array Value} {flTM : Str} {tfTM : Tok} {vsCBN : Array Value} {flBN : Str} {tfBN : Tok} {vsCBF : Array Value} {flBF : Str} {tfBF : Tok} {vsCUP : Array Value} {flUP : Str} {tfUP : Tok} {vsCDN : Array Value} {flDN : Str} {tfDN : Tok} {vsCCF : Array Value} {flCF : Str} {tfCF : Tok} {vsCBL : Array Value} {flBL : Str} {tfBL : Tok}
    {nmTE qTE : Str} {NTE : Addr} {bsTE : List Value} {snTE : List Str} {subTE : List Value} {abTE : Bool} {colTE : Option Bool} {ddTE : Option Addr} {m0TE m1TE m2TE m3TE m5TE : Option Value}
    {nmBA qBA : Str} {NBA : Addr} {bsBA : List Value} {snBA : List Str} {subBA : List Value} {abBA : Bool} {colBA : Option Bool} {ddBA : Option Addr} {m0BA m1BA m2BA m3BA m5BA : Option Value}
    {nmTM qTM : Str} {NTM : Addr} {bsTM : List Value} {snTM : List Str} {subTM : List Value} {abTM : Bool} {colTM : Option Bool} {ddTM : Option Addr} {m0TM m1TM m2TM m3TM m5TM : Option Value}
    {nmBN qBN : Str} {NBN : Addr} {bsBN : List Value} {snBN : List Str} {subBN : List Value} {abBN : Bool} {colBN : Option Bool} {ddBN : Option Addr} {m0BN m1BN m2BN m3BN m5BN : Option Value}
    {nmBF qBF : Str} {NBF : Addr} {bsBF : List Value} {snBF : List Str} {subBF : List Value} {abBF : Bool} {colBF : Option Bool} {ddBF : Option Addr} {m0BF m1BF m2BF m3BF m5BF : Option Value}
    {nmUP qUP : Str} {NUP : Addr} {bsUP : List Value} {snUP : List Str} {subUP : List Value} {abUP : Bool} {colUP : Option Bool} {ddUP : Option Addr} {m0UP m1UP m2UP m3UP m5UP : Option Value}
    {nmDN qDN : Str} {NDN : Addr} {bsDN : List Value} {snDN : List Str} {subDN : List Value} {abDN : Bool} {colDN : Option Bool} {ddDN : Option Addr} {m0DN m1DN m2DN m3DN m5DN : Option Value}
    {nmCF qCF : Str} {NCF : Addr} {bsCF : List Value} {snCF : List Str} {subCF : List Value} {abCF : Bool} {colCF : Option Bool} {ddCF : Option Addr} {m0CF m1CF m2CF m3CF m5CF : Option Value}
    {nmBL qBL : Str} {NBL : Addr} {bsBL : List Value} {snBL : List Str} {subBL : List Value} {abBL : Bool} {colBL : Option Bool} {ddBL : Option Addr} {m0BL m1BL m2BL m3BL m5BL : Option Value}
    (lDiff : K.lookup fDiff = some ⟨ocDiff, odDiff, .func (PySem.W.fnOf "differ_within" "differ_within" (defArgs sDiff) (defBody sDiff) (defScope sDiff) .none kVDiff dcDiff pmDiff anDiff cdDiff ctDiff), slDiff⟩)
    (cDiff : PySem.W.codeIn K cdDiff "differ_within" = true)
    (aDiff : PySem.W.nsIn K mainGlobals "differ_within" = some (some (.ref fDiff)))
    (kDiff : PySem.W.keepIn K (.ref fDiff) = true)
    (lBoxB : K.lookup fBoxB = some ⟨ocBoxB, odBoxB, .func (PySem.W.fnOf "_law_box" "_law_box" (defArgs sBoxB) (defBody sBoxB) (defScope sBoxB) .none kVBoxB dcBoxB pmBoxB anBoxB cdBoxB ctBoxB), slBoxB⟩)
    (cBoxB : PySem.W.codeIn K cdBoxB "_law_box" = true)
    (aBoxB : PySem.W.nsIn K mainGlobals "_law_box" = some (some (.ref fBoxB)))
    (kBoxB : PySem.W.keepIn K (.ref fBoxB) = true)
    (lDraw : K.lookup fDraw = some ⟨ocDraw, odDraw, .func (PySem.W.fnOf "_law_draw" "_law_draw" (defArgs sDraw) (defBody sDraw) (defScope sDraw) .none kVDraw dcDraw pmDraw anDraw cdDraw ctDraw), slDraw⟩)
    (cDraw : PySem.W.codeIn K cdDraw "_law_draw" = true)
    (aDraw : PySem.W.nsIn K mainGlobals "_law_draw" = some (some (.ref fDraw)))
    (kDraw : PySem.W.keepIn K (.ref fDraw) = true)
    (lLetters : K.lookup fLetters = some ⟨ocLetters, odLetters, .func (PySem.W.fnOf "_law_letters" "_law_letters" (defArgs sLetters) (defBody sLetters) (defScope sLetters) .none kVLetters dcLetters pmLetters anLetters cdLetters ctLetters), slLetters⟩)
    (cLetters : PySem.W.codeIn K cdLetters "_law_letters" = true)
    (aLetters : PySem.W.nsIn K mainGlobals "_law_letters" = some (some (.ref fLetters)))
    (kLetters : PySem.W.keepIn K (.ref fLetters) = true)
    (lWord : K.lookup fWord = some ⟨ocWord, odWord, .func (PySem.W.fnOf "_law_word" "_law_word" (defArgs sWord) (defBody sWord) (defScope sWord) .none kVWord dcWord pmWord anWord cdWord ctWord), slWord⟩)
    (cWord : PySem.W.codeIn K cdWord "_law_word" = true)
    (aWord : PySem.W.nsIn K mainGlobals "_law_word" = some (some (.ref fWord)))
    (kWord : PySem.W.keepIn K (.ref fWord) = true)
    (lSucc : K.lookup fSucc = some ⟨ocSucc, odSucc, .func (PySem.W.fnOf "_law_successor" "_law_successor" (defArgs sSucc) (defBody sSucc) (defScope sSucc) .none kVSucc dcSucc pmSucc anSucc cdSucc ctSucc), slSucc⟩)
    (cSucc : PySem.W.codeIn K cdSucc "_law_successor" = true)
    (aSucc : PySem.W.nsIn K mainGlobals "_law_successor" = some (some (.ref fSucc)))
    (kSucc : PySem.W.keepIn K (.ref fSucc) = true)
    (lFresh : K.lookup fFresh = some ⟨ocFresh, odFresh, .func (PySem.W.fnOf "_law_fresh" "_law_fresh" (defArgs sFresh) (defBody sFresh) (defScope sFresh) .none kVFresh dcFresh pmFresh anFresh cdFresh ctFresh), slFresh⟩)
    (cFresh : PySem.W.codeIn K cdFresh "_law_fresh" = true)
    (aFresh : PySem.W.nsIn K mainGlobals "_law_fresh" = some (some (.ref fFresh)))
    (kFresh : PySem.W.keepIn K (.ref fFresh) = true)
    (lOverL : K.lookup fOverL = some ⟨ocOverL, odOverL, .func (PySem.W.fnOf "_law_overlap" "_law_overlap" (defArgs sOverL) (defBody sOverL) (defScope sOverL) .none kVOverL dcOverL pmOverL anOverL cdOverL ctOverL), slOverL⟩)
    (cOverL : PySem.W.codeIn K cdOverL "_law_overlap" = true)
    (aOverL : PySem.W.nsIn K mainGlobals "_law_overlap" = some (some (.ref fOverL)))
    (kOverL : PySem.W.keepIn K (.ref fOverL) = true)
    (lKin : K.lookup fKin = some ⟨ocKin, odKin, .func (PySem.W.fnOf "_law_kin" "_law_kin" (defArgs sKin) (defBody sKin) (defScope sKin) .none kVKin dcKin pmKin anKin cdKin ctKin), slKin⟩)
    (cKin : PySem.W.codeIn K cdKin "_law_kin" = true)
    (aKin : PySem.W.nsIn K mainGlobals "_law_kin" = some (some (.ref fKin)))
    (kKin : PySem.W.keepIn K (.ref fKin) = true)
    (lRows : K.lookup fRows = some ⟨ocRows, odRows, .func (PySem.W.fnOf "_law_rows" "_law_rows" (defArgs sRows) (defBody sRows) (defScope sRows) .none kVRows dcRows pmRows anRows cdRows ctRows), slRows⟩)
    (cRows : PySem.W.codeIn K cdRows "_law_rows" = true)
    (aRows : PySem.W.nsIn K mainGlobals "_law_rows" = some (some (.ref fRows)))
    (kRows : PySem.W.keepIn K (.ref fRows) = true)
    (lIsWord : K.lookup fIsWord = some ⟨ocIsWord, odIsWord, .func (PySem.W.fnOf "_law_is_word" "_law_is_word" (defArgs sIsWord) (defBody sIsWord) (defScope sIsWord) .none kVIsWord dcIsWord pmIsWord anIsWord cdIsWord ctIsWord), slIsWord⟩)
    (cIsWord : PySem.W.codeIn K cdIsWord "_law_is_word" = true)
    (aIsWord : PySem.W.nsIn K mainGlobals "_law_is_word" = some (some (.ref fIsWord)))
    (kIsWord : PySem.W.keepIn K (.ref fIsWord) = true)
    (lFault : K.lookup fFault = some ⟨ocFault, odFault, .func (PySem.W.fnOf "_law_fault" "_law_fault" (defArgs sFault) (defBody sFault) (defScope sFault) .none kVFault dcFault pmFault anFault cdFault ctFault), slFault⟩)
    (cFault : PySem.W.codeIn K cdFault "_law_fault" = true)
    (aFault : PySem.W.nsIn K mainGlobals "_law_fault" = some (some (.ref fFault)))
    (kFault : PySem.W.keepIn K (.ref fFault) = true)
    (lBookL : K.lookup fBookL = some ⟨ocBookL, odBookL, .func (PySem.W.fnOf "_law_book" "_law_book" (defArgs sBookL) (defBody sBookL) (defScope sBookL) .none kVBookL dcBookL pmBookL anBookL cdBookL ctBookL), slBookL⟩)
    (cBookL : PySem.W.codeIn K cdBookL "_law_book" = true)
    (aBookL : PySem.W.nsIn K mainGlobals "_law_book" = some (some (.ref fBookL)))
    (kBookL : PySem.W.keepIn K (.ref fBookL) = true)
    (lLine : K.lookup fLine = some ⟨ocLine, odLine, .func (PySem.W.fnOf "_law_line" "_law_line" (defArgs sLine) (defBody sLine) (defScope sLine) .none kVLine dcLine pmLine anLine cdLine ctLine), slLine⟩)
    (cLine : PySem.W.codeIn K cdLine "_law_line" = true)
    (aLine : PySem.W.nsIn K mainGlobals "_law_line" = some (some (.ref fLine)))
    (kLine : PySem.W.keepIn K (.ref fLine) = true)
    (lMixed : K.lookup fMixed = some ⟨ocMixed, odMixed, .func (PySem.W.fnOf "_law_mixed" "_law_mixed" (defArgs sMixed) (defBody sMixed) (defScope sMixed) .none kVMixed dcMixed pmMixed anMixed cdMixed ctMixed), slMixed⟩)
    (cMixed : PySem.W.codeIn K cdMixed "_law_mixed" = true)
    (aMixed : PySem.W.nsIn K mainGlobals "_law_mixed" = some (some (.ref fMixed)))
    (kMixed : PySem.W.keepIn K (.ref fMixed) = true)
    (lCharL : K.lookup fCharL = some ⟨ocCharL, odCharL, .func (PySem.W.fnOf "_law_char" "_law_char" (defArgs sCharL) (defBody sCharL) (defScope sCharL) .none kVCharL dcCharL pmCharL anCharL cdCharL ctCharL), slCharL⟩)
    (cCharL : PySem.W.codeIn K cdCharL "_law_char" = true)
    (aCharL : PySem.W.nsIn K mainGlobals "_law_char" = some (some (.ref fCharL)))
    (kCharL : PySem.W.keepIn K (.ref fCharL) = true)
    (lEdited : K.lookup fEdited = some ⟨ocEdited, odEdited, .func (PySem.W.fnOf "_law_edited" "_law_edited" (defArgs sEdited) (defBody sEdited) (defScope sEdited) .none kVEdited dcEdited pmEdited anEdited cdEdited ctEdited), slEdited⟩)
    (cEdited : PySem.W.codeIn K cdEdited "_law_edited" = true)
    (aEdited : PySem.W.nsIn K mainGlobals "_law_edited" = some (some (.ref fEdited)))
    (kEdited : PySem.W.keepIn K (.ref fEdited) = true)
    (lFurther : K.lookup fFurther = some ⟨ocFurther, odFurther, .func (PySem.W.fnOf "_law_further" "_law_further" (defArgs sFurther) (defBody sFurther) (defScope sFurther) .none kVFurther dcFurther pmFurther anFurther cdFurther ctFurther), slFurther⟩)
    (cFurther : PySem.W.codeIn K cdFurther "_law_further" = true)
    (aFurther : PySem.W.nsIn K mainGlobals "_law_further" = some (some (.ref fFurther)))
    (kFurther : PySem.W.keepIn K (.ref fFurther) = true)
    (lExch : K.lookup fExch = some ⟨ocExch, odExch, .func (PySem.W.fnOf "_law_exchanged" "_law_exchanged" (defArgs sExch) (defBody sExch) (defScope sExch) .none kVExch dcExch pmExch anExch cdExch ctExch), slExch⟩)
    (cExch : PySem.W.codeIn K cdExch "_law_exchanged" = true)
    (aExch : PySem.W.nsIn K mainGlobals "_law_exchanged" = some (some (.ref fExch)))
    (kExch : PySem.W.keepIn K (.ref fExch) = true)
    (lChanged : K.lookup fChanged = some ⟨ocChanged, odChanged, .func (PySem.W.fnOf "_law_changed" "_law_changed" (defArgs sChanged) (defBody sChanged) (defScope sChanged) .none kVChanged dcChanged pmChanged anChanged cdChanged ctChanged), slChanged⟩)
    (cChanged : PySem.W.codeIn K cdChanged "_law_changed" = true)
    (aChanged : PySem.W.nsIn K mainGlobals "_law_changed" = some (some (.ref fChanged)))
    (kChanged : PySem.W.keepIn K (.ref fChanged) = true)
    (lReadL : K.lookup fReadL = some ⟨ocReadL, odReadL, .func (PySem.W.fnOf "_law_read" "_law_read" (defArgs sReadL) (defBody sReadL) (defScope sReadL) .none kVReadL dcReadL pmReadL anReadL cdReadL ctReadL), slReadL⟩)
    (cReadL : PySem.W.codeIn K cdReadL "_law_read" = true)
    (aReadL : PySem.W.nsIn K mainGlobals "_law_read" = some (some (.ref fReadL)))
    (kReadL : PySem.W.keepIn K (.ref fReadL) = true)
    (lParsed : K.lookup fParsed = some ⟨ocParsed, odParsed, .func (PySem.W.fnOf "_law_parsed" "_law_parsed" (defArgs sParsed) (defBody sParsed) (defScope sParsed) .none kVParsed dcParsed pmParsed anParsed cdParsed ctParsed), slParsed⟩)
    (cParsed : PySem.W.codeIn K cdParsed "_law_parsed" = true)
    (aParsed : PySem.W.nsIn K mainGlobals "_law_parsed" = some (some (.ref fParsed)))
    (kParsed : PySem.W.keepIn K (.ref fParsed) = true)
    (lJudged : K.lookup fJudged = some ⟨ocJudged, odJudged, .func (PySem.W.fnOf "_law_judged" "_law_judged" (defArgs sJudged) (defBody sJudged) (defScope sJudged) .none kVJudged dcJudged pmJudged anJudged cdJudged ctJudged), slJudged⟩)
    (cJudged : PySem.W.codeIn K cdJudged "_law_judged" = true)
    (aJudged : PySem.W.nsIn K mainGlobals "_law_judged" = some (some (.ref fJudged)))
    (kJudged : PySem.W.keepIn K (.ref fJudged) = true)
    (lCheck : K.lookup fCheck = some ⟨ocCheck, odCheck, .func (PySem.W.fnOf "check_entry" "check_entry" (defArgs sCheck) (defBody sCheck) (defScope sCheck) .none kVCheck dcCheck pmCheck anCheck cdCheck ctCheck), slCheck⟩)
    (cCheck : PySem.W.codeIn K cdCheck "check_entry" = true)
    (aCheck : PySem.W.nsIn K mainGlobals "check_entry" = some (some (.ref fCheck)))
    (kCheck : PySem.W.keepIn K (.ref fCheck) = true)
    (lIsForm : K.lookup fIsForm = some ⟨ocIsForm, odIsForm, .func (PySem.W.fnOf "is_form" "is_form" (defArgs sIsForm) (defBody sIsForm) (defScope sIsForm) .none kVIsForm dcIsForm pmIsForm anIsForm cdIsForm ctIsForm), slIsForm⟩)
    (cIsForm : PySem.W.codeIn K cdIsForm "is_form" = true)
    (aIsForm : PySem.W.nsIn K mainGlobals "is_form" = some (some (.ref fIsForm)))
    (kIsForm : PySem.W.keepIn K (.ref fIsForm) = true)
    (lOver : K.lookup fOver = some ⟨ocOver, odOver, .func (PySem.W.fnOf "overlap" "overlap" (defArgs sOver) (defBody sOver) (defScope sOver) .none kVOver dcOver pmOver anOver cdOver ctOver), slOver⟩)
    (cOver : PySem.W.codeIn K cdOver "overlap" = true)
    (aOver : PySem.W.nsIn K mainGlobals "overlap" = some (some (.ref fOver)))
    (kOver : PySem.W.keepIn K (.ref fOver) = true)
    (lConf : K.lookup fConf = some ⟨ocConf, odConf, .func (PySem.W.fnOf "conflict" "conflict" (defArgs sConf) (defBody sConf) (defScope sConf) .none kVConf dcConf pmConf anConf cdConf ctConf), slConf⟩)
    (cConf : PySem.W.codeIn K cdConf "conflict" = true)
    (aConf : PySem.W.nsIn K mainGlobals "conflict" = some (some (.ref fConf)))
    (kConf : PySem.W.keepIn K (.ref fConf) = true)
    (lFormat : K.lookup fFormat = some ⟨ocFormat, odFormat, .func (PySem.W.fnOf "format_book" "format_book" (defArgs sFormat) (defBody sFormat) (defScope sFormat) .none kVFormat dcFormat pmFormat anFormat cdFormat ctFormat), slFormat⟩)
    (cFormat : PySem.W.codeIn K cdFormat "format_book" = true)
    (aFormat : PySem.W.nsIn K mainGlobals "format_book" = some (some (.ref fFormat)))
    (kFormat : PySem.W.keepIn K (.ref fFormat) = true)
    (lParse : K.lookup fParse = some ⟨ocParse, odParse, .func (PySem.W.fnOf "parse_book" "parse_book" (defArgs sParse) (defBody sParse) (defScope sParse) .none kVParse dcParse pmParse anParse cdParse ctParse), slParse⟩)
    (cParse : PySem.W.codeIn K cdParse "parse_book" = true)
    (aParse : PySem.W.nsIn K mainGlobals "parse_book" = some (some (.ref fParse)))
    (kParse : PySem.W.keepIn K (.ref fParse) = true)
    (lLaw : K.lookup fLaw = some ⟨ocLaw, odLaw, .func (PySem.W.fnOf "law" "law" (defArgs sLaw) (defBody sLaw) (defScope sLaw) .none kVLaw dcLaw pmLaw anLaw cdLaw ctLaw), slLaw⟩)
    (cLaw : PySem.W.codeIn K cdLaw "law" = true)
    (aLaw : PySem.W.nsIn K mainGlobals "law" = some (some (.ref fLaw)))
    (kLaw : PySem.W.keepIn K (.ref fLaw) = true)
    (z_len : PySem.W.nsIn K mainGlobals "len" = some none)
    (z_set : PySem.W.nsIn K mainGlobals "set" = some none)
    (z_all : PySem.W.nsIn K mainGlobals "all" = some none)
    (z_abs : PySem.W.nsIn K mainGlobals "abs" = some none)
    (z_int : PySem.W.nsIn K mainGlobals "int" = some none)
    (z_range : PySem.W.nsIn K mainGlobals "range" = some none)
    (z_sorted : PySem.W.nsIn K mainGlobals "sorted" = some none)
    (z_isinstance : PySem.W.nsIn K mainGlobals "isinstance" = some none)
    (z_str : PySem.W.nsIn K mainGlobals "str" = some none)
    (z_bool : PySem.W.nsIn K mainGlobals "bool" = some none)
    (z_list : PySem.W.nsIn K mainGlobals "list" = some none)
    (z_tuple : PySem.W.nsIn K mainGlobals "tuple" = some none)
    (z_any : PySem.W.nsIn K mainGlobals "any" = some none)
    (z_enumerate : PySem.W.nsIn K mainGlobals "enumerate" = some none)
    (z_min : PySem.W.nsIn K mainGlobals "min" = some none)
    (z_ValueError : PySem.W.nsIn K mainGlobals "ValueError" = some none)
    (aC : PySem.W.nsIn K mainGlobals "Alphabet" = some (some (.ref C)))
    (pgC : PySem.W.plainGet K C Str.empty = true)
    (hdC : PySem.W.hasDictIn K C = true)
    (poC : PySem.W.plainOver K C = true)
    (saC : PySem.W.findIn K (.ref C) "__setattr__" = some (some (.builtin "object.__setattr__")))
    (mkC : PySem.W.makesIn K C = true)
    (kC : PySem.W.keepIn K (.ref C) = true)
    (nC_letters : PySem.W.findIn K (.ref C) "letters" = some none)
    (nC_vowels : PySem.W.findIn K (.ref C) "vowels" = some none)
    (nC_consonants : PySem.W.findIn K (.ref C) "consonants" = some none)
    (nC_signs : PySem.W.findIn K (.ref C) "signs" = some none)
    (ig : PySem.W.specialIn K (.builtin "object.__class__") "__get__" = some (some (.builtin "getset_descriptor.__get__")))
    (it : PySem.W.takesIn K (.builtin "object.__class__") = some true)
    (icC : PySem.W.findIn K (.ref C) "__class__" = some (some (.builtin "object.__class__")))
    (imC : PySem.W.mroIn K C (.type "object") = some true)
    (rdC : PySem.W.readsIn K C (.type "type") = true)
    (gaC : PySem.W.specialIn K (.ref C) "__getattribute__" = some (some (.builtin "type.__getattribute__")))
    (vM : PySem.W.findCls K (.ref C) (.type "type") "MOST" = some (.val (.int 4 tM)))
    (vJ : PySem.W.findCls K (.ref C) (.type "type") "JOINT" = some (.val (.str "-" tJ)))
    (aSL : PySem.W.nsIn K mainGlobals "SMALL_LETTERS" = some (some (.str "abcdefghijklmnopqrstuvwxyz" tl)))
    (lT : K.lookup fT = some ⟨ocT, odT, .func (PySem.W.fnOf "is_text" "Alphabet.is_text" (defArgs sIsText) (defBody sIsText) (defScope sIsText) .none kVT dcT pmT anT cdT ctT), slT⟩)
    (cT : PySem.W.codeIn K cdT "Alphabet.is_text" = true)
    (aT : PySem.W.findIn K (.ref C) "is_text" = some (some (.ref fT)))
    (kT : PySem.W.keepIn K (.ref fT) = true)
    (iT : PySem.W.isFn K (.ref fT) = true)
    (lE : K.lookup fE = some ⟨ocE, odE, .func (PySem.W.fnOf "__eq__" "Alphabet.__eq__" (defArgs sEq) (defBody sEq) (defScope sEq) .none kVE dcE pmE anE cdE ctE), slE⟩)
    (cE : PySem.W.codeIn K cdE "Alphabet.__eq__" = true)
    (aE : PySem.W.findIn K (.ref C) "__eq__" = some (some (.ref fE)))
    (kE : PySem.W.keepIn K (.ref fE) = true)
    (iE : PySem.W.isFn K (.ref fE) = true)
    (nE : PySem.W.notFirst K C (.ref C) = true)
    (lA : K.lookup fA = some ⟨ocA, odA, .func (PySem.W.fnOf "__init__" "Alphabet.__init__" (defArgs sAI) (defBody sAI) (defScope sAI) (.ref TD) kVA dcA pmA anA cdA ctA), slA⟩)
    (cA : PySem.W.codeIn K cdA "Alphabet.__init__" = true)
    (aA : PySem.W.findIn K (.ref C) "__init__" = some (some (.ref fA)))
    (lD : K.lookup TD = some ⟨ocD, odD, .seq [Value.str "" td].toArray nD, slD⟩)
    (kA : PySem.W.keepIn K (.ref fA) = true)
    (iA : PySem.W.isFn K (.ref fA) = true)
    (aCB : PySem.W.nsIn K mainGlobals "Book" = some (some (.ref CB)))
    (pgCB : PySem.W.plainGet K CB Str.empty = true)
    (hdCB : PySem.W.hasDictIn K CB = true)
    (poCB : PySem.W.plainOver K CB = true)
    (saCB : PySem.W.findIn K (.ref CB) "__setattr__" = some (some (.builtin "object.__setattr__")))
    (mkCB : PySem.W.makesIn K CB = true)
    (kCB : PySem.W.keepIn K (.ref CB) = true)
    (rdCB : PySem.W.readsIn K CB (.type "type") = true)
    (gaCB : PySem.W.specialIn K (.ref CB) "__getattribute__" = some (some (.builtin "type.__getattribute__")))
    (vMB : PySem.W.findCls K (.ref CB) (.type "type") "MOST" = some (.val (.int 8 tMB)))
    (nCB_alphabet : PySem.W.findIn K (.ref CB) "alphabet" = some none)
    (nCB_entries : PySem.W.findIn K (.ref CB) "_entries" = some none)
    (lBI : K.lookup fBI = some ⟨ocBI, odBI, .func (PySem.W.fnOf "__init__" "Book.__init__" (defArgs sBI) (defBody sBI) (defScope sBI) .none kVBI dcBI pmBI anBI cdBI ctBI), slBI⟩)
    (cBI : PySem.W.codeIn K cdBI "Book.__init__" = true)
    (aBI : PySem.W.findIn K (.ref CB) "__init__" = some (some (.ref fBI)))
    (kBI : PySem.W.keepIn K (.ref fBI) = true)
    (iBI : PySem.W.isFn K (.ref fBI) = true)
    (lEn : K.lookup fEn = some ⟨ocEn, odEn, .func (PySem.W.fnOf "entries" "Book.entries" (defArgs sEntries) (defBody sEntries) (defScope sEntries) .none kVEn dcEn pmEn anEn cdEn ctEn), slEn⟩)
    (cEn : PySem.W.codeIn K cdEn "Book.entries" = true)
    (aEn : PySem.W.findIn K (.ref CB) "entries" = some (some (.ref fEn)))
    (kEn : PySem.W.keepIn K (.ref fEn) = true)
    (iEn : PySem.W.isFn K (.ref fEn) = true)
    (a6 : PySem.W.nsIn K mainGlobals "LONGEST_FORM" = some (some (.int 6 t6)))
    (a8 : PySem.W.nsIn K mainGlobals "LONGEST_NAME" = some (some (.int 8 t8)))
    (nB : PySem.W.notFirst K CB (.ref CB) = true)
    (icCB : PySem.W.findIn K (.ref CB) "__class__" = some (some (.builtin "object.__class__")))
    (imCB : PySem.W.mroIn K CB (.type "object") = some true)
    (lEq : K.lookup fEq = some ⟨ocEq, odEq, .func (PySem.W.fnOf "__eq__" "Book.__eq__" (defArgs sBEq) (defBody sBEq) (defScope sBEq) .none kVEq dcEq pmEq anEq cdEq ctEq), slEq⟩)
    (cEq : PySem.W.codeIn K cdEq "Book.__eq__" = true)
    (aEq : PySem.W.findIn K (.ref CB) "__eq__" = some (some (.ref fEq)))
    (kEq : PySem.W.keepIn K (.ref fEq) = true)
    (iEq : PySem.W.isFn K (.ref fEq) = true)
    (aKI : PySem.W.nsIn K mainGlobals "KINDS" = some (some (.ref KI)))
    (lKI : K.lookup KI = some ⟨.type "dict", none, .dict #[⟨h1, .str "any" ta, u1⟩, ⟨h2, .str "opening" to, u2⟩, ⟨h3, .str "inner" ti, u3⟩] nKI, #[]⟩)
    (q1 : h1 = PyData.keyHash w.params "any")
    (q2 : h2 = PyData.keyHash w.params "opening")
    (q3 : h3 = PyData.keyHash w.params "inner")
    (low : (KI == sysModules) = false)
    (xTE : K.lookup TE = some (excClassObj nmTE qTE TE NTE bsTE [.type "ValueError", .type "Exception", .type "BaseException", .type "object"] true snTE subTE abTE colTE ddTE m0TE m1TE m2TE m3TE m5TE "ValueError.__new__"))
    (aTE : PySem.W.nsIn K mainGlobals "TaleError" = some (some (.ref TE)))
    (eTE : PySem.W.subIn K (.ref TE) (.type "BaseException") = some true)
    (tTE : PySem.W.typeIn K (.ref TE) = some (.type "type"))
    (hTE : PySem.W.hasDictIn K TE = true)
    (iTE : PySem.W.findIn K (.ref TE) "__init__" = some (some (.builtin "ValueError.__init__")))
    (noT : (l.prog.main.scope.names.lookup ("super" : Str)).isSome = false)
    (noM : PySem.W.nsIn K mainGlobals "super" = some none)
    (anyS : PySem.W.nsIn K cStatics "thirdparty.any" = some none)
    (xBA : K.lookup BA = some (excClassObj nmBA qBA BA NBA bsBA [.ref TE, .type "ValueError", .type "Exception", .type "BaseException", .type "object"] true snBA subBA abBA colBA ddBA m0BA m1BA m2BA m3BA m5BA "ValueError.__new__"))
    (aBA : PySem.W.nsIn K mainGlobals "BadAlphabet" = some (some (.ref BA)))
    (eBA : PySem.W.subIn K (.ref BA) (.type "BaseException") = some true)
    (tBA : PySem.W.typeIn K (.ref BA) = some (.type "type"))
    (hBA : PySem.W.hasDictIn K BA = true)
    (nBA_part : PySem.W.findIn K (.ref BA) "part" = some none)
    (saBA : PySem.W.findIn K (.ref BA) "__setattr__" = some (some (.builtin "object.__setattr__")))
    (gaBA : PySem.W.findIn K (.ref BA) "__getattribute__" = some (some (.builtin "BaseException.__getattribute__")))
    (ggBA : PySem.W.findIn K (.ref BA) "__getattr__" = some none)
    (aFBA : PySem.W.findIn K (.ref BA) "__init__" = some (some (.ref fBA)))
    (tFBA : PySem.W.typeIn K (.ref fBA) = some (.type "function"))
    (lBA : K.lookup fBA = some ⟨ocBA, odBA, .func (PySem.W.ksFn "__init__" "BadAlphabet.__init__" (defArgs sBA) (defBody sBA) (defScope sBA) .none kVBA dcBA pmBA anBA (.ref cdaBA) ctBA ccBA), slBA⟩)
    (cBA : PySem.W.codeIn K (.ref cdaBA) "BadAlphabet.__init__" = true)
    (kBA : PySem.W.keepIn K (.ref BA) = true)
    (lccBA : K.lookup ccBA = some ⟨clccBA, ddccBA, .cell (some (.ref BA)), slccBA⟩)
    (lcdBA : K.lookup cdaBA = some ⟨clcdBA, ddcdBA, .fields vsCBA, slcdBA⟩)
    (hvBA : vsCBA[2]? = some (.str flBA tfBA))
    (hflBA : ((l.prog.main.file : Str) == flBA) = true)
    (mmBA : PySem.W.mroIn K BA (.ref BA) = some true)
    (vBA : PySem.W.subIn K (.ref BA) (.type "ValueError") = some true)
    (xTM : K.lookup TM = some (excClassObj nmTM qTM TM NTM bsTM [.ref TE, .type "ValueError", .type "Exception", .type "BaseException", .type "object"] true snTM subTM abTM colTM ddTM m0TM m1TM m2TM m3TM m5TM "ValueError.__new__"))
    (aTM : PySem.W.nsIn K mainGlobals "TooMany" = some (some (.ref TM)))
    (eTM : PySem.W.subIn K (.ref TM) (.type "BaseException") = some true)
    (tTM : PySem.W.typeIn K (.ref TM) = some (.type "type"))
    (hTM : PySem.W.hasDictIn K TM = true)
    (nTM_most : PySem.W.findIn K (.ref TM) "most" = some none)
    (saTM : PySem.W.findIn K (.ref TM) "__setattr__" = some (some (.builtin "object.__setattr__")))
    (gaTM : PySem.W.findIn K (.ref TM) "__getattribute__" = some (some (.builtin "BaseException.__getattribute__")))
    (ggTM : PySem.W.findIn K (.ref TM) "__getattr__" = some none)
    (aFTM : PySem.W.findIn K (.ref TM) "__init__" = some (some (.ref fTM)))
    (tFTM : PySem.W.typeIn K (.ref fTM) = some (.type "function"))
    (lTM : K.lookup fTM = some ⟨ocTM, odTM, .func (PySem.W.ksFn "__init__" "TooMany.__init__" (defArgs sTooMany) (defBody sTooMany) (defScope sTooMany) .none kVTM dcTM pmTM anTM (.ref cdaTM) ctTM ccTM), slTM⟩)
    (cTM : PySem.W.codeIn K (.ref cdaTM) "TooMany.__init__" = true)
    (kTM : PySem.W.keepIn K (.ref TM) = true)
    (lccTM : K.lookup ccTM = some ⟨clccTM, ddccTM, .cell (some (.ref TM)), slccTM⟩)
    (lcdTM : K.lookup cdaTM = some ⟨clcdTM, ddcdTM, .fields vsCTM, slcdTM⟩)
    (hvTM : vsCTM[2]? = some (.str flTM tfTM))
    (hflTM : ((l.prog.main.file : Str) == flTM) = true)
    (mmTM : PySem.W.mroIn K TM (.ref TM) = some true)
    (vTM : PySem.W.subIn K (.ref TM) (.type "ValueError") = some true)
    (xBN : K.lookup BN = some (excClassObj nmBN qBN BN NBN bsBN [.ref TE, .type "ValueError", .type "Exception", .type "BaseException", .type "object"] true snBN subBN abBN colBN ddBN m0BN m1BN m2BN m3BN m5BN "ValueError.__new__"))
    (aBN : PySem.W.nsIn K mainGlobals "BadName" = some (some (.ref BN)))
    (eBN : PySem.W.subIn K (.ref BN) (.type "BaseException") = some true)
    (tBN : PySem.W.typeIn K (.ref BN) = some (.type "type"))
    (hBN : PySem.W.hasDictIn K BN = true)
    (nBN_name : PySem.W.findIn K (.ref BN) "name" = some none)
    (saBN : PySem.W.findIn K (.ref BN) "__setattr__" = some (some (.builtin "object.__setattr__")))
    (gaBN : PySem.W.findIn K (.ref BN) "__getattribute__" = some (some (.builtin "BaseException.__getattribute__")))
    (ggBN : PySem.W.findIn K (.ref BN) "__getattr__" = some none)
    (aFBN : PySem.W.findIn K (.ref BN) "__init__" = some (some (.ref fBN)))
    (tFBN : PySem.W.typeIn K (.ref fBN) = some (.type "function"))
    (lBN : K.lookup fBN = some ⟨ocBN, odBN, .func (PySem.W.ksFn "__init__" "BadName.__init__" (defArgs sBadName) (defBody sBadName) (defScope sBadName) .none kVBN dcBN pmBN anBN (.ref cdaBN) ctBN ccBN), slBN⟩)
    (cBN : PySem.W.codeIn K (.ref cdaBN) "BadName.__init__" = true)
    (kBN : PySem.W.keepIn K (.ref BN) = true)
    (lccBN : K.lookup ccBN = some ⟨clccBN, ddccBN, .cell (some (.ref BN)), slccBN⟩)
    (lcdBN : K.lookup cdaBN = some ⟨clcdBN, ddcdBN, .fields vsCBN, slcdBN⟩)
    (hvBN : vsCBN[2]? = some (.str flBN tfBN))
    (hflBN : ((l.prog.main.file : Str) == flBN) = true)
    (mmBN : PySem.W.mroIn K BN (.ref BN) = some true)
    (vBN : PySem.W.subIn K (.ref BN) (.type "ValueError") = some true)
    (xBF : K.lookup BF = some (excClassObj nmBF qBF BF NBF bsBF [.ref TE, .type "ValueError", .type "Exception", .type "BaseException", .type "object"] true snBF subBF abBF colBF ddBF m0BF m1BF m2BF m3BF m5BF "ValueError.__new__"))
    (aBF : PySem.W.nsIn K mainGlobals "BadForm" = some (some (.ref BF)))
    (eBF : PySem.W.subIn K (.ref BF) (.type "BaseException") = some true)
    (tBF : PySem.W.typeIn K (.ref BF) = some (.type "type"))
    (hBF : PySem.W.hasDictIn K BF = true)
    (nBF_form : PySem.W.findIn K (.ref BF) "form" = some none)
    (saBF : PySem.W.findIn K (.ref BF) "__setattr__" = some (some (.builtin "object.__setattr__")))
    (gaBF : PySem.W.findIn K (.ref BF) "__getattribute__" = some (some (.builtin "BaseException.__getattribute__")))
    (ggBF : PySem.W.findIn K (.ref BF) "__getattr__" = some none)
    (aFBF : PySem.W.findIn K (.ref BF) "__init__" = some (some (.ref fBF)))
    (tFBF : PySem.W.typeIn K (.ref fBF) = some (.type "function"))
    (lBF : K.lookup fBF = some ⟨ocBF, odBF, .func (PySem.W.ksFn "__init__" "BadForm.__init__" (defArgs sBadForm) (defBody sBadForm) (defScope sBadForm) .none kVBF dcBF pmBF anBF (.ref cdaBF) ctBF ccBF), slBF⟩)
    (cBF : PySem.W.codeIn K (.ref cdaBF) "BadForm.__init__" = true)
    (kBF : PySem.W.keepIn K (.ref BF) = true)
    (lccBF : K.lookup ccBF = some ⟨clccBF, ddccBF, .cell (some (.ref BF)), slccBF⟩)
    (lcdBF : K.lookup cdaBF = some ⟨clcdBF, ddcdBF, .fields vsCBF, slcdBF⟩)
    (hvBF : vsCBF[2]? = some (.str flBF tfBF))
    (hflBF : ((l.prog.main.file : Str) == flBF) = true)
    (mmBF : PySem.W.mroIn K BF (.ref BF) = some true)
    (vBF : PySem.W.subIn K (.ref BF) (.type "ValueError") = some true)
    (xUP : K.lookup UP = some (excClassObj nmUP qUP UP NUP bsUP [.ref TE, .type "ValueError", .type "Exception", .type "BaseException", .type "object"] true snUP subUP abUP colUP ddUP m0UP m1UP m2UP m3UP m5UP "ValueError.__new__"))
    (aUP : PySem.W.nsIn K mainGlobals "UnknownPlace" = some (some (.ref UP)))
    (eUP : PySem.W.subIn K (.ref UP) (.type "BaseException") = some true)
    (tUP : PySem.W.typeIn K (.ref UP) = some (.type "type"))
    (hUP : PySem.W.hasDictIn K UP = true)
    (nUP_place : PySem.W.findIn K (.ref UP) "place" = some none)
    (saUP : PySem.W.findIn K (.ref UP) "__setattr__" = some (some (.builtin "object.__setattr__")))
    (gaUP : PySem.W.findIn K (.ref UP) "__getattribute__" = some (some (.builtin "BaseException.__getattribute__")))
    (ggUP : PySem.W.findIn K (.ref UP) "__getattr__" = some none)
    (aFUP : PySem.W.findIn K (.ref UP) "__init__" = some (some (.ref fUP)))
    (tFUP : PySem.W.typeIn K (.ref fUP) = some (.type "function"))
    (lUP : K.lookup fUP = some ⟨ocUP, odUP, .func (PySem.W.ksFn "__init__" "UnknownPlace.__init__" (defArgs sUnknownPlace) (defBody sUnknownPlace) (defScope sUnknownPlace) .none kVUP dcUP pmUP anUP (.ref cdaUP) ctUP ccUP), slUP⟩)
    (cUP : PySem.W.codeIn K (.ref cdaUP) "UnknownPlace.__init__" = true)
    (kUP : PySem.W.keepIn K (.ref UP) = true)
    (lccUP : K.lookup ccUP = some ⟨clccUP, ddccUP, .cell (some (.ref UP)), slccUP⟩)
    (lcdUP : K.lookup cdaUP = some ⟨clcdUP, ddcdUP, .fields vsCUP, slcdUP⟩)
    (hvUP : vsCUP[2]? = some (.str flUP tfUP))
    (hflUP : ((l.prog.main.file : Str) == flUP) = true)
    (mmUP : PySem.W.mroIn K UP (.ref UP) = some true)
    (vUP : PySem.W.subIn K (.ref UP) (.type "ValueError") = some true)
    (xDN : K.lookup DN = some (excClassObj nmDN qDN DN NDN bsDN [.ref TE, .type "ValueError", .type "Exception", .type "BaseException", .type "object"] true snDN subDN abDN colDN ddDN m0DN m1DN m2DN m3DN m5DN "ValueError.__new__"))
    (aDN : PySem.W.nsIn K mainGlobals "DuplicateName" = some (some (.ref DN)))
    (eDN : PySem.W.subIn K (.ref DN) (.type "BaseException") = some true)
    (tDN : PySem.W.typeIn K (.ref DN) = some (.type "type"))
    (hDN : PySem.W.hasDictIn K DN = true)
    (nDN_name : PySem.W.findIn K (.ref DN) "name" = some none)
    (saDN : PySem.W.findIn K (.ref DN) "__setattr__" = some (some (.builtin "object.__setattr__")))
    (gaDN : PySem.W.findIn K (.ref DN) "__getattribute__" = some (some (.builtin "BaseException.__getattribute__")))
    (ggDN : PySem.W.findIn K (.ref DN) "__getattr__" = some none)
    (aFDN : PySem.W.findIn K (.ref DN) "__init__" = some (some (.ref fDN)))
    (tFDN : PySem.W.typeIn K (.ref fDN) = some (.type "function"))
    (lDN : K.lookup fDN = some ⟨ocDN, odDN, .func (PySem.W.ksFn "__init__" "DuplicateName.__init__" (defArgs sDuplicateName) (defBody sDuplicateName) (defScope sDuplicateName) .none kVDN dcDN pmDN anDN (.ref cdaDN) ctDN ccDN), slDN⟩)
    (cDN : PySem.W.codeIn K (.ref cdaDN) "DuplicateName.__init__" = true)
    (kDN : PySem.W.keepIn K (.ref DN) = true)
    (lccDN : K.lookup ccDN = some ⟨clccDN, ddccDN, .cell (some (.ref DN)), slccDN⟩)
    (lcdDN : K.lookup cdaDN = some ⟨clcdDN, ddcdDN, .fields vsCDN, slcdDN⟩)
    (hvDN : vsCDN[2]? = some (.str flDN tfDN))
    (hflDN : ((l.prog.main.file : Str) == flDN) = true)
    (mmDN : PySem.W.mroIn K DN (.ref DN) = some true)
    (vDN : PySem.W.subIn K (.ref DN) (.type "ValueError") = some true)
    (xCF : K.lookup CF = some (excClassObj nmCF qCF CF NCF bsCF [.ref TE, .type "ValueError", .type "Exception", .type "BaseException", .type "object"] true snCF subCF abCF colCF ddCF m0CF m1CF m2CF m3CF m5CF "ValueError.__new__"))
    (aCF : PySem.W.nsIn K mainGlobals "Conflict" = some (some (.ref CF)))
    (eCF : PySem.W.subIn K (.ref CF) (.type "BaseException") = some true)
    (tCF : PySem.W.typeIn K (.ref CF) = some (.type "type"))
    (hCF : PySem.W.hasDictIn K CF = true)
    (nCF_name : PySem.W.findIn K (.ref CF) "name" = some none)
    (nCF_other : PySem.W.findIn K (.ref CF) "other" = some none)
    (saCF : PySem.W.findIn K (.ref CF) "__setattr__" = some (some (.builtin "object.__setattr__")))
    (gaCF : PySem.W.findIn K (.ref CF) "__getattribute__" = some (some (.builtin "BaseException.__getattribute__")))
    (ggCF : PySem.W.findIn K (.ref CF) "__getattr__" = some none)
    (aFCF : PySem.W.findIn K (.ref CF) "__init__" = some (some (.ref fCF)))
    (tFCF : PySem.W.typeIn K (.ref fCF) = some (.type "function"))
    (lCF : K.lookup fCF = some ⟨ocCF, odCF, .func (PySem.W.ksFn "__init__" "Conflict.__init__" (defArgs sConflict) (defBody sConflict) (defScope sConflict) .none kVCF dcCF pmCF anCF (.ref cdaCF) ctCF ccCF), slCF⟩)
    (cCF : PySem.W.codeIn K (.ref cdaCF) "Conflict.__init__" = true)
    (kCF : PySem.W.keepIn K (.ref CF) = true)
    (lccCF : K.lookup ccCF = some ⟨clccCF, ddccCF, .cell (some (.ref CF)), slccCF⟩)
    (lcdCF : K.lookup cdaCF = some ⟨clcdCF, ddcdCF, .fields vsCCF, slcdCF⟩)
    (hvCF : vsCCF[2]? = some (.str flCF tfCF))
    (hflCF : ((l.prog.main.file : Str) == flCF) = true)
    (mmCF : PySem.W.mroIn K CF (.ref CF) = some true)
    (vCF : PySem.W.subIn K (.ref CF) (.type "ValueError") = some true)
    (xBL : K.lookup BL = some (excClassObj nmBL qBL BL NBL bsBL [.ref TE, .type "ValueError", .type "Exception", .type "BaseException", .type "object"] true snBL subBL abBL colBL ddBL m0BL m1BL m2BL m3BL m5BL "ValueError.__new__"))
    (aBL : PySem.W.nsIn K mainGlobals "BadLine" = some (some (.ref BL)))
    (eBL : PySem.W.subIn K (.ref BL) (.type "BaseException") = some true)
    (tBL : PySem.W.typeIn K (.ref BL) = some (.type "type"))
    (hBL : PySem.W.hasDictIn K BL = true)
    (nBL_line : PySem.W.findIn K (.ref BL) "line" = some none)
    (saBL : PySem.W.findIn K (.ref BL) "__setattr__" = some (some (.builtin "object.__setattr__")))
    (gaBL : PySem.W.findIn K (.ref BL) "__getattribute__" = some (some (.builtin "BaseException.__getattribute__")))
    (ggBL : PySem.W.findIn K (.ref BL) "__getattr__" = some none)
    (aFBL : PySem.W.findIn K (.ref BL) "__init__" = some (some (.ref fBL)))
    (tFBL : PySem.W.typeIn K (.ref fBL) = some (.type "function"))
    (lBL : K.lookup fBL = some ⟨ocBL, odBL, .func (PySem.W.ksFn "__init__" "BadLine.__init__" (defArgs sBadLine) (defBody sBadLine) (defScope sBadLine) .none kVBL dcBL pmBL anBL (.ref cdaBL) ctBL ccBL), slBL⟩)
    (cBL : PySem.W.codeIn K (.ref cdaBL) "BadLine.__init__" = true)
    (kBL : PySem.W.keepIn K (.ref BL) = true)
    (lccBL : K.lookup ccBL = some ⟨clccBL, ddccBL, .cell (some (.ref BL)), slccBL⟩)
    (lcdBL : K.lookup cdaBL = some ⟨clcdBL, ddcdBL, .fields vsCBL, slcdBL⟩)
    (hvBL : vsCBL[2]? = some (.str flBL tfBL))
    (hflBL : ((l.prog.main.file : Str) == flBL) = true)
    (mmBL : PySem.W.mroIn K BL (.ref BL) = some true)
    (vBL : PySem.W.subIn K (.ref BL) (.type "ValueError") = some true)
    (sTM_TE : PySem.W.subIn K (.ref TM) (.ref TE) = some true)
    (sBN_TE : PySem.W.subIn K (.ref BN) (.ref TE) = some true)
    (sBF_TE : PySem.W.subIn K (.ref BF) (.ref TE) = some true)
    (sUP_TE : PySem.W.subIn K (.ref UP) (.ref TE) = some true)
    (sDN_TE : PySem.W.subIn K (.ref DN) (.ref TE) = some true)
    (sCF_TE : PySem.W.subIn K (.ref CF) (.ref TE) = some true)
    (sBL_BL : PySem.W.subIn K (.ref BL) (.ref BL) = some true) :
    ∃ fd : FuncData, (∀ (s : Shared) (v : Value), BindsTo s fd ⟨[v], []⟩ [("_law_script", v)]) ∧ ∀ base : Heap, K.In base → base.Ns mainGlobals mg → FnOk l.prog w K mg base CX0 9 fa fd ["_law_script"] (spLaw K) := by
  have e := hfa.symm.trans (PySem.W.mg_of X G aLaw)
  cases e
  have gm : ∀ {n : Str} {v : Value}, PySem.W.nsIn K mainGlobals n = some (some v) → mg n = some v := fun e => PySem.W.mg_of X G e
  have gn : ∀ {n : Str}, PySem.W.nsIn K mainGlobals n = some none → mg n = none := fun e => PySem.W.mg_none_of X G e
  have FDiff := fun_mk (st := sDiff) lDiff cDiff kDiff
  have bDiff := FDiff.binds (ps := ["text", "allowed"]) fun _ _ _ _ _ _ us hl => match us, hl with | [_, _], _ => rfl
  have FBoxB := fun_mk (st := sBoxB) lBoxB cBoxB kBoxB
  have bBoxB := FBoxB.binds (ps := ["_law_script"]) fun _ _ _ _ _ _ us hl => match us, hl with | [_], _ => rfl
  have FDraw := fun_mk (st := sDraw) lDraw cDraw kDraw
  have bDraw := FDraw.binds (ps := ["_law_box_here", "_law_many"]) fun _ _ _ _ _ _ us hl => match us, hl with | [_, _], _ => rfl
  have FLetters := fun_mk (st := sLetters) lLetters cLetters kLetters
  have bLetters := FLetters.binds (ps := ["_law_box_here", "_law_count"]) fun _ _ _ _ _ _ us hl => match us, hl with | [_, _], _ => rfl
  have FWord := fun_mk (st := sWord) lWord cWord kWord
  have bWord := FWord.binds (ps := ["_law_box_here", "_law_signs", "_law_most", "_law_shift"]) fun _ _ _ _ _ _ us hl => match us, hl with | [_, _, _, _], _ => rfl
  have FSucc := fun_mk (st := sSucc) lSucc cSucc kSucc
  have bSucc := FSucc.binds (ps := ["_law_signs", "_law_word_here", "_law_most"]) fun _ _ _ _ _ _ us hl => match us, hl with | [_, _, _], _ => rfl
  have FFresh := fun_mk (st := sFresh) lFresh cFresh kFresh
  have bFresh := FFresh.binds (ps := ["_law_signs", "_law_word_here", "_law_most", "_law_used"]) fun _ _ _ _ _ _ us hl => match us, hl with | [_, _, _, _], _ => rfl
  have FOverL := fun_mk (st := sOverL) lOverL cOverL kOverL
  have bOverL := FOverL.binds (ps := ["_law_place", "_law_other"]) fun _ _ _ _ _ _ us hl => match us, hl with | [_, _], _ => rfl
  have FKin := fun_mk (st := sKin) lKin cKin kKin
  have bKin := FKin.binds (ps := ["_law_box_here", "_law_signs", "_law_words", "_law_most"]) fun _ _ _ _ _ _ us hl => match us, hl with | [_, _, _, _], _ => rfl
  have FRows := fun_mk (st := sRows) lRows cRows kRows
  have bRows := FRows.binds (ps := ["_law_box_here", "_law_signs", "_law_count", "_law_most"]) fun _ _ _ _ _ _ us hl => match us, hl with | [_, _, _, _], _ => rfl
  have FIsWord := fun_mk (st := sIsWord) lIsWord cIsWord kIsWord
  have bIsWord := FIsWord.binds (ps := ["_law_word_here", "_law_signs", "_law_most"]) fun _ _ _ _ _ _ us hl => match us, hl with | [_, _, _], _ => rfl
  have FFault := fun_mk (st := sFault) lFault cFault kFault
  have bFault := FFault.binds (ps := ["_law_signs", "_law_entry", "_law_rows_here"]) fun _ _ _ _ _ _ us hl => match us, hl with | [_, _, _], _ => rfl
  have FBookL := fun_mk (st := sBookL) lBookL cBookL kBookL
  have bBookL := FBookL.binds (ps := ["_law_alphabet", "_law_rows_here"]) fun _ _ _ _ _ _ us hl => match us, hl with | [_, _], _ => rfl
  have FLine := fun_mk (st := sLine) lLine cLine kLine
  have bLine := FLine.binds (ps := ["_law_row"]) fun _ _ _ _ _ _ us hl => match us, hl with | [_], _ => rfl
  have FMixed := fun_mk (st := sMixed) lMixed cMixed kMixed
  have bMixed := FMixed.binds (ps := ["_law_box_here", "_law_lines"]) fun _ _ _ _ _ _ us hl => match us, hl with | [_, _], _ => rfl
  have FCharL := fun_mk (st := sCharL) lCharL cCharL kCharL
  have bCharL := FCharL.binds (ps := ["_law_box_here", "_law_signs"]) fun _ _ _ _ _ _ us hl => match us, hl with | [_, _], _ => rfl
  have FEdited := fun_mk (st := sEdited) lEdited cEdited kEdited
  have bEdited := FEdited.binds (ps := ["_law_box_here", "_law_signs", "_law_text"]) fun _ _ _ _ _ _ us hl => match us, hl with | [_, _, _], _ => rfl
  have FFurther := fun_mk (st := sFurther) lFurther cFurther kFurther
  have bFurther := FFurther.binds (ps := ["_law_box_here", "_law_signs", "_law_rows_here"]) fun _ _ _ _ _ _ us hl => match us, hl with | [_, _, _], _ => rfl
  have FExch := fun_mk (st := sExch) lExch cExch kExch
  have bExch := FExch.binds (ps := ["_law_box_here", "_law_line_here"]) fun _ _ _ _ _ _ us hl => match us, hl with | [_, _], _ => rfl
  have FChanged := fun_mk (st := sChanged) lChanged cChanged kChanged
  have bChanged := FChanged.binds (ps := ["_law_box_here", "_law_signs", "_law_rows_here", "_law_lines"]) fun _ _ _ _ _ _ us hl => match us, hl with | [_, _, _, _], _ => rfl
  have FReadL := fun_mk (st := sReadL) lReadL cReadL kReadL
  have bReadL := FReadL.binds (ps := ["_law_signs", "_law_text"]) fun _ _ _ _ _ _ us hl => match us, hl with | [_, _], _ => rfl
  have FParsed := fun_mk (st := sParsed) lParsed cParsed kParsed
  have bParsed := FParsed.binds (ps := ["_law_alphabet", "_law_text"]) fun _ _ _ _ _ _ us hl => match us, hl with | [_, _], _ => rfl
  have FJudged := fun_mk (st := sJudged) lJudged cJudged kJudged
  have bJudged := FJudged.binds (ps := ["_law_alphabet", "_law_signs", "_law_text"]) fun _ _ _ _ _ _ us hl => match us, hl with | [_, _, _], _ => rfl
  have FCheck := fun_mk (st := sCheck) lCheck cCheck kCheck
  have bCheck := FCheck.binds (ps := ["alphabet", "entry", "earlier"]) fun _ _ _ _ _ _ us hl => match us, hl with | [_, _, _], _ => rfl
  have FIsForm := fun_mk (st := sIsForm) lIsForm cIsForm kIsForm
  have bIsForm := FIsForm.binds (ps := ["alphabet", "form"]) fun _ _ _ _ _ _ us hl => match us, hl with | [_, _], _ => rfl
  have FOver := fun_mk (st := sOver) lOver cOver kOver
  have bOver := FOver.binds (ps := ["place", "other"]) fun _ _ _ _ _ _ us hl => match us, hl with | [_, _], _ => rfl
  have FConf := fun_mk (st := sConf) lConf cConf kConf
  have bConf := FConf.binds (ps := ["entry", "other"]) fun _ _ _ _ _ _ us hl => match us, hl with | [_, _], _ => rfl
  have FFormat := fun_mk (st := sFormat) lFormat cFormat kFormat
  have bFormat := FFormat.binds (ps := ["book"]) fun _ _ _ _ _ _ us hl => match us, hl with | [_], _ => rfl
  have FParse := fun_mk (st := sParse) lParse cParse kParse
  have bParse := FParse.binds (ps := ["alphabet", "text"]) fun _ _ _ _ _ _ us hl => match us, hl with | [_, _], _ => rfl
  have FLaw := fun_mk (st := sLaw) lLaw cLaw kLaw
  have bLaw := FLaw.binds (ps := ["_law_script"]) fun _ _ _ _ _ _ us hl => match us, hl with | [_], _ => rfl
  have FT := fun_mk (st := sIsText) lT cT kT
  have bT := FT.binds (ps := ["self", "text"]) fun _ _ _ _ _ _ us hl => match us, hl with | [_, _], _ => rfl
  have FE := fun_mk (st := sEq) lE cE kE
  have bE := FE.binds (ps := ["self", "other"]) fun _ _ _ _ _ _ us hl => match us, hl with | [_, _], _ => rfl
  have FA : FunD K "__init__" "Alphabet.__init__" (defArgs sAI) (defBody sAI) (defScope sAI) [.str ""] [] fA (PySem.W.fnOf "__init__" "Alphabet.__init__" (defArgs sAI) (defBody sAI) (defScope sAI) (.ref TD) kVA dcA pmA anA cdA ctA) :=
    ⟨⟨_, _, _, _, _, _, _, _, _, _, rfl, lA, cA, .inr ⟨by simp, TD, _, [Value.str "" td], nD, rfl, lD, rfl, .cons ⟨_, rfl⟩ .nil⟩, .inl rfl⟩, kA⟩
  obtain ⟨d0, v0, bA⟩ := FA.binds1 (ps := ["self", "letters", "vowels"]) 3 1 (by simp) rfl fun T kV doc pm an cdv ct us its h1 h2 => match us, its, h1, h2 with | [_, _, _], [_], _, _ => ⟨_, rfl, rfl⟩
  have ed0 : d0 = [] := by
    cases v0
    rfl
  subst ed0
  obtain ⟨d1A, v1A, bA1⟩ := FA.binds1 (ps := ["self", "letters", "vowels"]) 2 0 (by simp) rfl fun T kV doc pm an cdv ct us its h1 h2 => match us, its, h1, h2 with | [_, _], [_], _, _ => ⟨_, rfl, rfl⟩
  have e0 : PySem.Str.ofString "" = S [] := by decide +kernel
  have v1A' : Vals [V.str (S [])] d1A := by
    rw [← e0]
    exact v1A
  have FEn := fun_mk (st := sEntries) lEn cEn kEn
  have bEn := FEn.binds (ps := ["self"]) fun _ _ _ _ _ _ us hl => match us, hl with | [_], _ => rfl
  have FEq := fun_mk (st := sBEq) lEq cEq kEq
  have bEq := FEq.binds (ps := ["self", "other"]) fun _ _ _ _ _ _ us hl => match us, hl with | [_, _], _ => rfl
  have OXBA : OexC K BA := ⟨⟨_, _, _, _, _, _, _, _, _, _, _, _, _, _, _, xBA, rfl⟩, saBA, eBA, tBA, kBA⟩
  have supBA : PySem.W.ks_superIn K BA BA "__init__" = some (some (.builtin "ValueError.__init__")) := by
    have hcl : PySem.W.clsIn K BA = some { name := nmBA, bases := bsBA, mro := .ref BA :: [.ref TE, .type "ValueError", .type "Exception", .type "BaseException", .type "object"], ns := NBA, qualname := qBA, hasDict := true, slotNames := snBA, subclasses := subBA, abstract := abBA, collection := colBA, hasDel := false } := by
      unfold PySem.W.clsIn
      rw [xBA] <;> rfl
    unfold PySem.W.ks_superIn
    rw [hcl]
    have e1 : PySem.W.findIn K (.ref TE) "__init__" = PySem.W.alongIn K "__init__" [.ref TE, .type "ValueError", .type "Exception", .type "BaseException", .type "object"] := by
      unfold PySem.W.findIn
      simp only [xTE]
    rw [← iTE, e1]
    show PySem.W.alongIn K "__init__" (((Value.ref BA :: [.ref TE, .type "ValueError", .type "Exception", .type "BaseException", .type "object"]).dropWhile (· != .ref BA)).drop 1) = _
    have hb : (Value.ref BA != .ref BA) = false := by simp
    rw [List.dropWhile_cons, hb]
    rfl
  have SCBA : SupC l.prog K mg BA ccBA cdaBA := ⟨OXBA, ⟨_, _, _, lccBA⟩, ⟨_, _, _, _, _, _, lcdBA, hvBA, hflBA⟩, mmBA, supBA, vBA, noT, gn noM, anyS⟩
  have bBA : Binds K (PySem.W.ksFn "__init__" "BadAlphabet.__init__" (defArgs sBA) (defBody sBA) (defScope sBA) .none kVBA dcBA pmBA anBA (.ref cdaBA) ctBA ccBA) ["self", "part"] [] := Binds.all fun us hl => match us, hl with | [_, _], _ => rfl
  have OXTM : OexC K TM := ⟨⟨_, _, _, _, _, _, _, _, _, _, _, _, _, _, _, xTM, rfl⟩, saTM, eTM, tTM, kTM⟩
  have supTM : PySem.W.ks_superIn K TM TM "__init__" = some (some (.builtin "ValueError.__init__")) := by
    have hcl : PySem.W.clsIn K TM = some { name := nmTM, bases := bsTM, mro := .ref TM :: [.ref TE, .type "ValueError", .type "Exception", .type "BaseException", .type "object"], ns := NTM, qualname := qTM, hasDict := true, slotNames := snTM, subclasses := subTM, abstract := abTM, collection := colTM, hasDel := false } := by
      unfold PySem.W.clsIn
      rw [xTM] <;> rfl
    unfold PySem.W.ks_superIn
    rw [hcl]
    have e1 : PySem.W.findIn K (.ref TE) "__init__" = PySem.W.alongIn K "__init__" [.ref TE, .type "ValueError", .type "Exception", .type "BaseException", .type "object"] := by
      unfold PySem.W.findIn
      simp only [xTE]
    rw [← iTE, e1]
    show PySem.W.alongIn K "__init__" (((Value.ref TM :: [.ref TE, .type "ValueError", .type "Exception", .type "BaseException", .type "object"]).dropWhile (· != .ref TM)).drop 1) = _
    have hb : (Value.ref TM != .ref TM) = false := by simp
    rw [List.dropWhile_cons, hb]
    rfl
  have SCTM : SupC l.prog K mg TM ccTM cdaTM := ⟨OXTM, ⟨_, _, _, lccTM⟩, ⟨_, _, _, _, _, _, lcdTM, hvTM, hflTM⟩, mmTM, supTM, vTM, noT, gn noM, anyS⟩
  have bTM : Binds K (PySem.W.ksFn "__init__" "TooMany.__init__" (defArgs sTooMany) (defBody sTooMany) (defScope sTooMany) .none kVTM dcTM pmTM anTM (.ref cdaTM) ctTM ccTM) ["self", "most"] [] := Binds.all fun us hl => match us, hl with | [_, _], _ => rfl
  have OXBN : OexC K BN := ⟨⟨_, _, _, _, _, _, _, _, _, _, _, _, _, _, _, xBN, rfl⟩, saBN, eBN, tBN, kBN⟩
  have supBN : PySem.W.ks_superIn K BN BN "__init__" = some (some (.builtin "ValueError.__init__")) := by
    have hcl : PySem.W.clsIn K BN = some { name := nmBN, bases := bsBN, mro := .ref BN :: [.ref TE, .type "ValueError", .type "Exception", .type "BaseException", .type "object"], ns := NBN, qualname := qBN, hasDict := true, slotNames := snBN, subclasses := subBN, abstract := abBN, collection := colBN, hasDel := false } := by
      unfold PySem.W.clsIn
      rw [xBN] <;> rfl
    unfold PySem.W.ks_superIn
    rw [hcl]
    have e1 : PySem.W.findIn K (.ref TE) "__init__" = PySem.W.alongIn K "__init__" [.ref TE, .type "ValueError", .type "Exception", .type "BaseException", .type "object"] := by
      unfold PySem.W.findIn
      simp only [xTE]
    rw [← iTE, e1]
    show PySem.W.alongIn K "__init__" (((Value.ref BN :: [.ref TE, .type "ValueError", .type "Exception", .type "BaseException", .type "object"]).dropWhile (· != .ref BN)).drop 1) = _
    have hb : (Value.ref BN != .ref BN) = false := by simp
    rw [List.dropWhile_cons, hb]
    rfl
  have SCBN : SupC l.prog K mg BN ccBN cdaBN := ⟨OXBN, ⟨_, _, _, lccBN⟩, ⟨_, _, _, _, _, _, lcdBN, hvBN, hflBN⟩, mmBN, supBN, vBN, noT, gn noM, anyS⟩
  have bBN : Binds K (PySem.W.ksFn "__init__" "BadName.__init__" (defArgs sBadName) (defBody sBadName) (defScope sBadName) .none kVBN dcBN pmBN anBN (.ref cdaBN) ctBN ccBN) ["self", "name"] [] := Binds.all fun us hl => match us, hl with | [_, _], _ => rfl
  have OXBF : OexC K BF := ⟨⟨_, _, _, _, _, _, _, _, _, _, _, _, _, _, _, xBF, rfl⟩, saBF, eBF, tBF, kBF⟩
  have supBF : PySem.W.ks_superIn K BF BF "__init__" = some (some (.builtin "ValueError.__init__")) := by
    have hcl : PySem.W.clsIn K BF = some { name := nmBF, bases := bsBF, mro := .ref BF :: [.ref TE, .type "ValueError", .type "Exception", .type "BaseException", .type "object"], ns := NBF, qualname := qBF, hasDict := true, slotNames := snBF, subclasses := subBF, abstract := abBF, collection := colBF, hasDel := false } := by
      unfold PySem.W.clsIn
      rw [xBF] <;> rfl
    unfold PySem.W.ks_superIn
    rw [hcl]
    have e1 : PySem.W.findIn K (.ref TE) "__init__" = PySem.W.alongIn K "__init__" [.ref TE, .type "ValueError", .type "Exception", .type "BaseException", .type "object"] := by
      unfold PySem.W.findIn
      simp only [xTE]
    rw [← iTE, e1]
    show PySem.W.alongIn K "__init__" (((Value.ref BF :: [.ref TE, .type "ValueError", .type "Exception", .type "BaseException", .type "object"]).dropWhile (· != .ref BF)).drop 1) = _
    have hb : (Value.ref BF != .ref BF) = false := by simp
    rw [List.dropWhile_cons, hb]
    rfl
  have SCBF : SupC l.prog K mg BF ccBF cdaBF := ⟨OXBF, ⟨_, _, _, lccBF⟩, ⟨_, _, _, _, _, _, lcdBF, hvBF, hflBF⟩, mmBF, supBF, vBF, noT, gn noM, anyS⟩
  have bBF : Binds K (PySem.W.ksFn "__init__" "BadForm.__init__" (defArgs sBadForm) (defBody sBadForm) (defScope sBadForm) .none kVBF dcBF pmBF anBF (.ref cdaBF) ctBF ccBF) ["self", "form"] [] := Binds.all fun us hl => match us, hl with | [_, _], _ => rfl
  have OXUP : OexC K UP := ⟨⟨_, _, _, _, _, _, _, _, _, _, _, _, _, _, _, xUP, rfl⟩, saUP, eUP, tUP, kUP⟩
  have supUP : PySem.W.ks_superIn K UP UP "__init__" = some (some (.builtin "ValueError.__init__")) := by
    have hcl : PySem.W.clsIn K UP = some { name := nmUP, bases := bsUP, mro := .ref UP :: [.ref TE, .type "ValueError", .type "Exception", .type "BaseException", .type "object"], ns := NUP, qualname := qUP, hasDict := true, slotNames := snUP, subclasses := subUP, abstract := abUP, collection := colUP, hasDel := false } := by
      unfold PySem.W.clsIn
      rw [xUP] <;> rfl
    unfold PySem.W.ks_superIn
    rw [hcl]
    have e1 : PySem.W.findIn K (.ref TE) "__init__" = PySem.W.alongIn K "__init__" [.ref TE, .type "ValueError", .type "Exception", .type "BaseException", .type "object"] := by
      unfold PySem.W.findIn
      simp only [xTE]
    rw [← iTE, e1]
    show PySem.W.alongIn K "__init__" (((Value.ref UP :: [.ref TE, .type "ValueError", .type "Exception", .type "BaseException", .type "object"]).dropWhile (· != .ref UP)).drop 1) = _
    have hb : (Value.ref UP != .ref UP) = false := by simp
    rw [List.dropWhile_cons, hb]
    rfl
  have SCUP : SupC l.prog K mg UP ccUP cdaUP := ⟨OXUP, ⟨_, _, _, lccUP⟩, ⟨_, _, _, _, _, _, lcdUP, hvUP, hflUP⟩, mmUP, supUP, vUP, noT, gn noM, anyS⟩
  have bUP : Binds K (PySem.W.ksFn "__init__" "UnknownPlace.__init__" (defArgs sUnknownPlace) (defBody sUnknownPlace) (defScope sUnknownPlace) .none kVUP dcUP pmUP anUP (.ref cdaUP) ctUP ccUP) ["self", "place"] [] := Binds.all fun us hl => match us, hl with | [_, _], _ => rfl
  have OXDN : OexC K DN := ⟨⟨_, _, _, _, _, _, _, _, _, _, _, _, _, _, _, xDN, rfl⟩, saDN, eDN, tDN, kDN⟩
  have supDN : PySem.W.ks_superIn K DN DN "__init__" = some (some (.builtin "ValueError.__init__")) := by
    have hcl : PySem.W.clsIn K DN = some { name := nmDN, bases := bsDN, mro := .ref DN :: [.ref TE, .type "ValueError", .type "Exception", .type "BaseException", .type "object"], ns := NDN, qualname := qDN, hasDict := true, slotNames := snDN, subclasses := subDN, abstract := abDN, collection := colDN, hasDel := false } := by
      unfold PySem.W.clsIn
      rw [xDN] <;> rfl
    unfold PySem.W.ks_superIn
    rw [hcl]
    have e1 : PySem.W.findIn K (.ref TE) "__init__" = PySem.W.alongIn K "__init__" [.ref TE, .type "ValueError", .type "Exception", .type "BaseException", .type "object"] := by
      unfold PySem.W.findIn
      simp only [xTE]
    rw [← iTE, e1]
    show PySem.W.alongIn K "__init__" (((Value.ref DN :: [.ref TE, .type "ValueError", .type "Exception", .type "BaseException", .type "object"]).dropWhile (· != .ref DN)).drop 1) = _
    have hb : (Value.ref DN != .ref DN) = false := by simp
    rw [List.dropWhile_cons, hb]
    rfl
  have SCDN : SupC l.prog K mg DN ccDN cdaDN := ⟨OXDN, ⟨_, _, _, lccDN⟩, ⟨_, _, _, _, _, _, lcdDN, hvDN, hflDN⟩, mmDN, supDN, vDN, noT, gn noM, anyS⟩
  have bDN : Binds K (PySem.W.ksFn "__init__" "DuplicateName.__init__" (defArgs sDuplicateName) (defBody sDuplicateName) (defScope sDuplicateName) .none kVDN dcDN pmDN anDN (.ref cdaDN) ctDN ccDN) ["self", "name"] [] := Binds.all fun us hl => match us, hl with | [_, _], _ => rfl
  have OXCF : OexC K CF := ⟨⟨_, _, _, _, _, _, _, _, _, _, _, _, _, _, _, xCF, rfl⟩, saCF, eCF, tCF, kCF⟩
  have supCF : PySem.W.ks_superIn K CF CF "__init__" = some (some (.builtin "ValueError.__init__")) := by
    have hcl : PySem.W.clsIn K CF = some { name := nmCF, bases := bsCF, mro := .ref CF :: [.ref TE, .type "ValueError", .type "Exception", .type "BaseException", .type "object"], ns := NCF, qualname := qCF, hasDict := true, slotNames := snCF, subclasses := subCF, abstract := abCF, collection := colCF, hasDel := false } := by
      unfold PySem.W.clsIn
      rw [xCF] <;> rfl
    unfold PySem.W.ks_superIn
    rw [hcl]
    have e1 : PySem.W.findIn K (.ref TE) "__init__" = PySem.W.alongIn K "__init__" [.ref TE, .type "ValueError", .type "Exception", .type "BaseException", .type "object"] := by
      unfold PySem.W.findIn
      simp only [xTE]
    rw [← iTE, e1]
    show PySem.W.alongIn K "__init__" (((Value.ref CF :: [.ref TE, .type "ValueError", .type "Exception", .type "BaseException", .type "object"]).dropWhile (· != .ref CF)).drop 1) = _
    have hb : (Value.ref CF != .ref CF) = false := by simp
    rw [List.dropWhile_cons, hb]
    rfl
  have SCCF : SupC l.prog K mg CF ccCF cdaCF := ⟨OXCF, ⟨_, _, _, lccCF⟩, ⟨_, _, _, _, _, _, lcdCF, hvCF, hflCF⟩, mmCF, supCF, vCF, noT, gn noM, anyS⟩
  have bCF : Binds K (PySem.W.ksFn "__init__" "Conflict.__init__" (defArgs sConflict) (defBody sConflict) (defScope sConflict) .none kVCF dcCF pmCF anCF (.ref cdaCF) ctCF ccCF) ["self", "name", "other"] [] := Binds.all fun us hl => match us, hl with | [_, _, _], _ => rfl
  have OXBL : OexC K BL := ⟨⟨_, _, _, _, _, _, _, _, _, _, _, _, _, _, _, xBL, rfl⟩, saBL, eBL, tBL, kBL⟩
  have supBL : PySem.W.ks_superIn K BL BL "__init__" = some (some (.builtin "ValueError.__init__")) := by
    have hcl : PySem.W.clsIn K BL = some { name := nmBL, bases := bsBL, mro := .ref BL :: [.ref TE, .type "ValueError", .type "Exception", .type "BaseException", .type "object"], ns := NBL, qualname := qBL, hasDict := true, slotNames := snBL, subclasses := subBL, abstract := abBL, collection := colBL, hasDel := false } := by
      unfold PySem.W.clsIn
      rw [xBL] <;> rfl
    unfold PySem.W.ks_superIn
    rw [hcl]
    have e1 : PySem.W.findIn K (.ref TE) "__init__" = PySem.W.alongIn K "__init__" [.ref TE, .type "ValueError", .type "Exception", .type "BaseException", .type "object"] := by
      unfold PySem.W.findIn
      simp only [xTE]
    rw [← iTE, e1]
    show PySem.W.alongIn K "__init__" (((Value.ref BL :: [.ref TE, .type "ValueError", .type "Exception", .type "BaseException", .type "object"]).dropWhile (· != .ref BL)).drop 1) = _
    have hb : (Value.ref BL != .ref BL) = false := by simp
    rw [List.dropWhile_cons, hb]
    rfl
  have SCBL : SupC l.prog K mg BL ccBL cdaBL := ⟨OXBL, ⟨_, _, _, lccBL⟩, ⟨_, _, _, _, _, _, lcdBL, hvBL, hflBL⟩, mmBL, supBL, vBL, noT, gn noM, anyS⟩
  have bBL : Binds K (PySem.W.ksFn "__init__" "BadLine.__init__" (defArgs sBadLine) (defBody sBadLine) (defScope sBadLine) .none kVBL dcBL pmBL anBL (.ref cdaBL) ctBL ccBL) ["self", "line"] [] := Binds.all fun us hl => match us, hl with | [_, _], _ => rfl
  have T : Fns K mg ⟨fDiff, fBoxB, fDraw, fLetters, fWord, fSucc, fFresh, fOverL, fKin, fRows, fIsWord, fFault, fBookL, fLine, fMixed, fCharL, fEdited, fFurther, fExch, fChanged, fReadL, fParsed, fJudged, fCheck, fIsForm, fOver, fConf, fFormat, fParse, fa, CB, C⟩ ⟨_, _, _, _, _, _, _, _, _, _, _, _, _, _, _, _, _, _, _, _, _, _, _, _, _, _, _, _, _, _⟩ :=
    { z_len := gn z_len, z_set := gn z_set, z_all := gn z_all, z_abs := gn z_abs, z_int := gn z_int, z_range := gn z_range, z_sorted := gn z_sorted, z_isinstance := gn z_isinstance, z_str := gn z_str, z_bool := gn z_bool, z_list := gn z_list, z_tuple := gn z_tuple, z_any := gn z_any, z_enum := gn z_enumerate, z_min := gn z_min, z_VE := gn z_ValueError,
      gDiff := gm aDiff, FDiff := FDiff, bDiff := bDiff, gBoxB := gm aBoxB, FBoxB := FBoxB, bBoxB := bBoxB, gDraw := gm aDraw, FDraw := FDraw, bDraw := bDraw, gLetters := gm aLetters, FLetters := FLetters, bLetters := bLetters, gWord := gm aWord, FWord := FWord, bWord := bWord, gSucc := gm aSucc, FSucc := FSucc, bSucc := bSucc, gFresh := gm aFresh, FFresh := FFresh, bFresh := bFresh, gOverL := gm aOverL, FOverL := FOverL, bOverL := bOverL, gKin := gm aKin, FKin := FKin, bKin := bKin, gRows := gm aRows, FRows := FRows, bRows := bRows, gIsWord := gm aIsWord, FIsWord := FIsWord, bIsWord := bIsWord, gFault := gm aFault, FFault := FFault, bFault := bFault, gBookL := gm aBookL, FBookL := FBookL, bBookL := bBookL, gLine := gm aLine, FLine := FLine, bLine := bLine, gMixed := gm aMixed, FMixed := FMixed, bMixed := bMixed, gCharL := gm aCharL, FCharL := FCharL, bCharL := bCharL, gEdited := gm aEdited, FEdited := FEdited, bEdited := bEdited, gFurther := gm aFurther, FFurther := FFurther, bFurther := bFurther, gExch := gm aExch, FExch := FExch, bExch := bExch, gChanged := gm aChanged, FChanged := FChanged, bChanged := bChanged, gReadL := gm aReadL, FReadL := FReadL, bReadL := bReadL, gParsed := gm aParsed, FParsed := FParsed, bParsed := bParsed, gJudged := gm aJudged, FJudged := FJudged, bJudged := bJudged, gCheck := gm aCheck, FCheck := FCheck, bCheck := bCheck, gIsForm := gm aIsForm, FIsForm := FIsForm, bIsForm := bIsForm, gOver := gm aOver, FOver := FOver, bOver := bOver, gConf := gm aConf, FConf := FConf, bConf := bConf, gFormat := gm aFormat, FFormat := FFormat, bFormat := bFormat, gParse := gm aParse, FParse := FParse, bParse := bParse, gLaw := gm aLaw, FLaw := FLaw, bLaw := bLaw }
  have A : AlF K C := ⟨⟨pgC, hdC, poC, saC⟩, nC_letters, nC_vowels, nC_consonants, nC_signs, icC, ig, it, imC⟩
  have AV : AlV K mg C (.type "type") tM tJ tl := ⟨gm aC, by rw [← az_S]; exact gm aSL, ⟨rdC, gaC⟩, ⟨vM, ⟨_, rfl⟩⟩, ⟨vJ, ⟨_, rfl⟩⟩⟩
  have BV : BkV K mg CB (.type "type") tMB := ⟨gm aCB, ⟨rdCB, gaCB⟩, ⟨vMB, ⟨_, rfl⟩⟩, ⟨pgCB, hdCB, poCB, saCB⟩, nCB_alphabet, nCB_entries⟩
  have BA' : BaF l.prog K mg BA fBA := ⟨OXBA, aFBA, tFBA, gm aBA⟩
  have ETM := EF.mk (N := "TooMany") OXTM aFTM tFTM (gm aTM) bTM
  have EBN := EF.mk (N := "BadName") OXBN aFBN tFBN (gm aBN) bBN
  have EBF := EF.mk (N := "BadForm") OXBF aFBF tFBF (gm aBF) bBF
  have EUP := EF.mk (N := "UnknownPlace") OXUP aFUP tFUP (gm aUP) bUP
  have EDN := EF.mk (N := "DuplicateName") OXDN aFDN tFDN (gm aDN) bDN
  have ECF := EF.mk (N := "Conflict") OXCF aFCF tFCF (gm aCF) bCF
  have EBL := EF.mk (N := "BadLine") OXBL aFBL tFBL (gm aBL) bBL
  have kI : ∀ t : List Nat, ∃ r, PySem.W.nsIn K KI (S t) = some r ∧ r.isSome = decide (t ∈ kindsL) := fun t => kinds_ns lKI t
  have kd : KDict K w KI _ nKI := ⟨lKI, ⟨⟨_, _, rfl, q1⟩, ⟨_, _, rfl, q2⟩, ⟨_, _, rfl, q3⟩, trivial⟩, low⟩
  have Wk : Bk K mg w ⟨TM, fTM, (PySem.W.ksFn "__init__" "TooMany.__init__" (defArgs sTooMany) (defBody sTooMany) (defScope sTooMany) .none kVTM dcTM pmTM anTM (.ref cdaTM) ctTM ccTM), BN, fBN, (PySem.W.ksFn "__init__" "BadName.__init__" (defArgs sBadName) (defBody sBadName) (defScope sBadName) .none kVBN dcBN pmBN anBN (.ref cdaBN) ctBN ccBN), BF, fBF, (PySem.W.ksFn "__init__" "BadForm.__init__" (defArgs sBadForm) (defBody sBadForm) (defScope sBadForm) .none kVBF dcBF pmBF anBF (.ref cdaBF) ctBF ccBF), UP, fUP, (PySem.W.ksFn "__init__" "UnknownPlace.__init__" (defArgs sUnknownPlace) (defBody sUnknownPlace) (defScope sUnknownPlace) .none kVUP dcUP pmUP anUP (.ref cdaUP) ctUP ccUP), DN, fDN, (PySem.W.ksFn "__init__" "DuplicateName.__init__" (defArgs sDuplicateName) (defBody sDuplicateName) (defScope sDuplicateName) .none kVDN dcDN pmDN anDN (.ref cdaDN) ctDN ccDN), CF, fCF, (PySem.W.ksFn "__init__" "Conflict.__init__" (defArgs sConflict) (defBody sConflict) (defScope sConflict) .none kVCF dcCF pmCF anCF (.ref cdaCF) ctCF ccCF), KI, #[⟨h1, .str "any" ta, u1⟩, ⟨h2, .str "opening" to, u2⟩, ⟨h3, .str "inner" ti, u3⟩], nKI, t6, t8⟩ := ⟨ETM, EBN, EBF, EUP, EDN, ECF, gm a6, gm a8, gm aKI, kd, kI⟩
  have GS : ∀ base : Heap, Gs l.prog w K mg base ⟨TM, fTM, (PySem.W.ksFn "__init__" "TooMany.__init__" (defArgs sTooMany) (defBody sTooMany) (defScope sTooMany) .none kVTM dcTM pmTM anTM (.ref cdaTM) ctTM ccTM), BN, fBN, (PySem.W.ksFn "__init__" "BadName.__init__" (defArgs sBadName) (defBody sBadName) (defScope sBadName) .none kVBN dcBN pmBN anBN (.ref cdaBN) ctBN ccBN), BF, fBF, (PySem.W.ksFn "__init__" "BadForm.__init__" (defArgs sBadForm) (defBody sBadForm) (defScope sBadForm) .none kVBF dcBF pmBF anBF (.ref cdaBF) ctBF ccBF), UP, fUP, (PySem.W.ksFn "__init__" "UnknownPlace.__init__" (defArgs sUnknownPlace) (defBody sUnknownPlace) (defScope sUnknownPlace) .none kVUP dcUP pmUP anUP (.ref cdaUP) ctUP ccUP), DN, fDN, (PySem.W.ksFn "__init__" "DuplicateName.__init__" (defArgs sDuplicateName) (defBody sDuplicateName) (defScope sDuplicateName) .none kVDN dcDN pmDN anDN (.ref cdaDN) ctDN ccDN), CF, fCF, (PySem.W.ksFn "__init__" "Conflict.__init__" (defArgs sConflict) (defBody sConflict) (defScope sConflict) .none kVCF dcCF pmCF anCF (.ref cdaCF) ctCF ccCF), KI, #[⟨h1, .str "any" ta, u1⟩, ⟨h2, .str "opening" to, u2⟩, ⟨h3, .str "inner" ti, u3⟩], nKI, t6, t8⟩ := fun base =>
    ⟨ok_eTooMany SCTM nTM_most lTM cTM, ok_eBadName SCBN nBN_name lBN cBN, ok_eBadForm SCBF nBF_form lBF cBF, ok_eUnknownPlace SCUP nUP_place lUP cUP, ok_eDuplicateName SCDN nDN_name lDN cDN, ok_eConflict SCCF nCF_name nCF_other lCF cCF⟩
  have XB : XfB K BL := ⟨⟨gaBL, ggBL, eBL, hBL⟩, nBL_line, PySem.W.exm_ref eBL hBL tBL sBL_BL⟩
  have BI' : BkI K CB := ⟨icCB, ig, it, imCB⟩
  have hTE' : ∀ B : Addr, (B = BN ∨ B = BF ∨ B = UP ∨ B = DN ∨ B = CF) → PySem.W.exmOne K (.ref B) (.ref TE) = some true := fun B h => by
    rcases h with rfl | rfl | rfl | rfl | rfl
    · exact PySem.W.exm_ref eTE hTE tTE sBN_TE
    · exact PySem.W.exm_ref eTE hTE tTE sBF_TE
    · exact PySem.W.exm_ref eTE hTE tTE sUP_TE
    · exact PySem.W.exm_ref eTE hTE tTE sDN_TE
    · exact PySem.W.exm_ref eTE hTE tTE sCF_TE
  refine ⟨PySem.W.fnOf "law" "law" (defArgs sLaw) (defBody sLaw) (defScope sLaw) .none kVLaw dcLaw pmLaw anLaw cdLaw ctLaw, fun s v => .of_eq rfl, fun base _ _ => ?_⟩
  have GT := ok_isText (P := l.prog) (w := w) (base := base) FT T A
  have GQ := ok_eq (P := l.prog) (w := w) (base := base) FE T.tx A (gm aC)
  have GA := ok_alph (P := l.prog) (w := w) (base := base) FA T.tx A AV BA' FDiff bDiff (ok_ba SCBA nBA_part lBA cBA) bBA
  have GBI := ok_bookInit lBI cBI T A Wk (GS base) BV ⟨aT, iT, kT⟩ GT bT
  have MB := (⟨mkCB, aBI, iBI, kCB⟩ : Mk K CB fBI)
  have GBookL := ok_bookL T BV MB GBI
  have GEn := ok_entries (P := l.prog) (w := w) (base := base) FEn T BV
  have mE := (⟨aEn, iEn, kEn⟩ : Meth K CB "entries" fEn)
  have GBq := ok_bEq FEq T BV BI' mE GEn bEn aE iE GQ bE nE
  have GCheck := ok_checkN T A Wk (GS base) ⟨aT, iT, kT⟩ GT bT
  have GBL := ok_eBadLine (P := l.prog) (w := w) (base := base) SCBL nBL_line lBL cBL
  have HBL := ok_hBadLine (P := l.prog) (w := w) (base := base) SCBL nBL_line lBL cBL
  have GParse := ok_parse T A BV MB GBI EBL GBL HBL (gm aTE) hTE' GCheck
  have GParsed := ok_parsed T EBL XB GParse
  have GFormat := ok_format T BV mE GEn bEn
  have GJudged := ok_judged T BV mE GEn bEn aEq iEq GBq bEq nB GBookL GParsed GFormat
  exact ok_law T AV ⟨mkC, aA, iA, kC⟩ GA bA bA1 v1A' (ok_boxB T.FBoxB T.tx) GBookL GFormat GJudged
theorem walk {l : PySem.W.OpenLaw} {q : Program} {loose : List Str} {XP : (Str → Option Value) → Heap → Prop} {YP : World → Heap → Prop} {d : DefRec} {K : Params → PySem.W.Frag} (hn : l.most = some 63) (hdf : d.params.defaults = [])
    (hY : ∀ (w : World) (h : Heap), YP w h → (K w.params).In h)
    (F : ∀ (w : World) (mg : Str → Option Value) (fa : Addr) (h : Heap), (K w.params).In h → h.Ns mainGlobals mg → mg d.name = some (.ref fa) →
      ∃ fd : FuncData, (∀ (s : Shared) (u : Value), BindsTo s fd ⟨[u], []⟩ [("_law_script", u)]) ∧ ∀ base : Heap, (K w.params).In base → base.Ns mainGlobals mg → FnOk l.prog w (K w.params) mg base CX0 9 fa fd ["_law_script"] (spLaw (K w.params))) :
    PySem.W.WalkO q loose XP YP l.row.toRowW d [] (fun f vs => PySem.call f vs) :=
  L2.walk_of (n := 63) (k := 9) (x := "_law_script") (CX := fun _ => CX0) (sp := fun w => spLaw (K w.params)) hn (by decide) hdf ⟨rfl, by decide, by decide⟩ hY F (fun _ _ a ns hl _ hS => ⟨a, ns, rfl, hS, hl, fun _ => rfl⟩) fun _ _ _ _ _ z => z
end
end Vk
set_option Elab.async false
open PySem PySem.W PyProof.Rows
set_option maxRecDepth 100000 in
set_option maxHeartbeats 0 in
theorem PySem.Challenge.cw_talepost_k35_book_notes_holds : PySem.Challenge.rw_talepost_k35_book_notes.Holds := by
  w_on; o_law; k_head; (case hw => w_witness2)
  k_fill
  refine Vk.walk (l := PySem.Challenge.rw_talepost_k35_book_notes) rfl rfl (fun w h Y => PySem.W.kIn_of Y) ?F
  case F =>
    intro w mg fa h KX G hmg
    refine' Vk.all_mk KX G hmg ?lDiff ?cDiff ?aDiff ?kDiff ?lBoxB ?cBoxB ?aBoxB ?kBoxB ?lDraw ?cDraw ?aDraw ?kDraw ?lLetters ?cLetters ?aLetters ?kLetters ?lWord ?cWord ?aWord ?kWord ?lSucc ?cSucc ?aSucc ?kSucc ?lFresh ?cFresh ?aFresh ?kFresh ?lOverL ?cOverL ?aOverL ?kOverL ?lKin ?cKin ?aKin ?kKin ?lRows ?cRows ?aRows ?kRows ?lIsWord ?cIsWord ?aIsWord ?kIsWord ?lFault ?cFault ?aFault ?kFault ?lBookL ?cBookL ?aBookL ?kBookL ?lLine ?cLine ?aLine ?kLine ?lMixed ?cMixed ?aMixed ?kMixed ?lCharL ?cCharL ?aCharL ?kCharL ?lEdited ?cEdited ?aEdited ?kEdited ?lFurther ?cFurther ?aFurther ?kFurther ?lExch ?cExch ?aExch ?kExch ?lChanged ?cChanged ?aChanged ?kChanged ?lReadL ?cReadL ?aReadL ?kReadL ?lParsed ?cParsed ?aParsed ?kParsed ?lJudged ?cJudged ?aJudged ?kJudged ?lCheck ?cCheck ?aCheck ?kCheck ?lIsForm ?cIsForm ?aIsForm ?kIsForm ?lOver ?cOver ?aOver ?kOver ?lConf ?cConf ?aConf ?kConf ?lFormat ?cFormat ?aFormat ?kFormat ?lParse ?cParse ?aParse ?kParse ?lLaw ?cLaw ?aLaw ?kLaw ?z_len ?z_set ?z_all ?z_abs ?z_int ?z_range ?z_sorted ?z_isinstance ?z_str ?z_bool ?z_list ?z_tuple ?z_any ?z_enumerate ?z_min ?z_ValueError ?aC ?pgC ?hdC ?poC ?saC ?mkC ?kC ?nC_letters ?nC_vowels ?nC_consonants ?nC_signs ?ig ?it ?icC ?imC ?rdC ?gaC ?vM ?vJ ?aSL ?lT ?cT ?aT ?kT ?iT ?lE ?cE ?aE ?kE ?iE ?nE ?lA ?cA ?aA ?lD ?kA ?iA ?aCB ?pgCB ?hdCB ?poCB ?saCB ?mkCB ?kCB ?rdCB ?gaCB ?vMB ?nCB_alphabet ?nCB_entries ?lBI ?cBI ?aBI ?kBI ?iBI ?lEn ?cEn ?aEn ?kEn ?iEn ?a6 ?a8 ?nB ?icCB ?imCB ?lEq ?cEq ?aEq ?kEq ?iEq ?aKI ?lKI ?q1 ?q2 ?q3 ?low ?xTE ?aTE ?eTE ?tTE ?hTE ?iTE ?noT ?noM ?anyS ?xBA ?aBA ?eBA ?tBA ?hBA ?nBA_part ?saBA ?gaBA ?ggBA ?aFBA ?tFBA ?lBA ?cBA ?kBA ?lccBA ?lcdBA ?hvBA ?hflBA ?mmBA ?vBA ?xTM ?aTM ?eTM ?tTM ?hTM ?nTM_most ?saTM ?gaTM ?ggTM ?aFTM ?tFTM ?lTM ?cTM ?kTM ?lccTM ?lcdTM ?hvTM ?hflTM ?mmTM ?vTM ?xBN ?aBN ?eBN ?tBN ?hBN ?nBN_name ?saBN ?gaBN ?ggBN ?aFBN ?tFBN ?lBN ?cBN ?kBN ?lccBN ?lcdBN ?hvBN ?hflBN ?mmBN ?vBN ?xBF ?aBF ?eBF ?tBF ?hBF ?nBF_form ?saBF ?gaBF ?ggBF ?aFBF ?tFBF ?lBF ?cBF ?kBF ?lccBF ?lcdBF ?hvBF ?hflBF ?mmBF ?vBF ?xUP ?aUP ?eUP ?tUP ?hUP ?nUP_place ?saUP ?gaUP ?ggUP ?aFUP ?tFUP ?lUP ?cUP ?kUP ?lccUP ?lcdUP ?hvUP ?hflUP ?mmUP ?vUP ?xDN ?aDN ?eDN ?tDN ?hDN ?nDN_name ?saDN ?gaDN ?ggDN ?aFDN ?tFDN ?lDN ?cDN ?kDN ?lccDN ?lcdDN ?hvDN ?hflDN ?mmDN ?vDN ?xCF ?aCF ?eCF ?tCF ?hCF ?nCF_name ?nCF_other ?saCF ?gaCF ?ggCF ?aFCF ?tFCF ?lCF ?cCF ?kCF ?lccCF ?lcdCF ?hvCF ?hflCF ?mmCF ?vCF ?xBL ?aBL ?eBL ?tBL ?hBL ?nBL_line ?saBL ?gaBL ?ggBL ?aFBL ?tFBL ?lBL ?cBL ?kBL ?lccBL ?lcdBL ?hvBL ?hflBL ?mmBL ?vBL ?sTM_TE ?sBN_TE ?sBF_TE ?sUP_TE ?sDN_TE ?sCF_TE ?sBL_BL
    (case aDiff => k_is)
    (case aBoxB => k_is)
    (case aDraw => k_is)
    (case aLetters => k_is)
    (case aWord => k_is)
    (case aSucc => k_is)
    (case aFresh => k_is)
    (case aOverL => k_is)
    (case aKin => k_is)
    (case aRows => k_is)
    (case aIsWord => k_is)
    (case aFault => k_is)
    (case aBookL => k_is)
    (case aLine => k_is)
    (case aMixed => k_is)
    (case aCharL => k_is)
    (case aEdited => k_is)
    (case aFurther => k_is)
    (case aExch => k_is)
    (case aChanged => k_is)
    (case aReadL => k_is)
    (case aParsed => k_is)
    (case aJudged => k_is)
    (case aCheck => k_is)
    (case aIsForm => k_is)
    (case aOver => k_is)
    (case aConf => k_is)
    (case aFormat => k_is)
    (case aParse => k_is)
    (case aLaw => k_is)
    (case z_len => k_is)
    (case z_set => k_is)
    (case z_all => k_is)
    (case z_abs => k_is)
    (case z_int => k_is)
    (case z_range => k_is)
    (case z_sorted => k_is)
    (case z_isinstance => k_is)
    (case z_str => k_is)
    (case z_bool => k_is)
    (case z_list => k_is)
    (case z_tuple => k_is)
    (case z_any => k_is)
    (case z_enumerate => k_is)
    (case z_min => k_is)
    (case z_ValueError => k_is)
    (case aC => k_is)
    (case aSL => k_is)
    (case aCB => k_is)
    (case a6 => k_is)
    (case a8 => k_is)
    (case aKI => k_is)
    (case aTE => k_is)
    (case noM => k_is)
    (case aBA => k_is)
    (case aTM => k_is)
    (case aBN => k_is)
    (case aBF => k_is)
    (case aUP => k_is)
    (case aDN => k_is)
    (case aCF => k_is)
    (case aBL => k_is)
    (case aT => k_is)
    (case aE => k_is)
    (case aA => k_is)
    (case aBI => k_is)
    (case aEn => k_is)
    (case aEq => k_is)
    (case aFBA => k_is)
    (case aFTM => k_is)
    (case aFBN => k_is)
    (case aFBF => k_is)
    (case aFUP => k_is)
    (case aFDN => k_is)
    (case aFCF => k_is)
    (case aFBL => k_is)
    (case lDiff => k_is)
    (case cDiff => k_is)
    (case kDiff => k_is)
    (case lBoxB => k_is)
    (case cBoxB => k_is)
    (case kBoxB => k_is)
    (case lDraw => k_is)
    (case cDraw => k_is)
    (case kDraw => k_is)
    (case lLetters => k_is)
    (case cLetters => k_is)
    (case kLetters => k_is)
    (case lWord => k_is)
    (case cWord => k_is)
    (case kWord => k_is)
    (case lSucc => k_is)
    (case cSucc => k_is)
    (case kSucc => k_is)
    (case lFresh => k_is)
    (case cFresh => k_is)
    (case kFresh => k_is)
    (case lOverL => k_is)
    (case cOverL => k_is)
    (case kOverL => k_is)
    (case lKin => k_is)
    (case cKin => k_is)
    (case kKin => k_is)
    (case lRows => k_is)
    (case cRows => k_is)
    (case kRows => k_is)
    (case lIsWord => k_is)
    (case cIsWord => k_is)
    (case kIsWord => k_is)
    (case lFault => k_is)
    (case cFault => k_is)
    (case kFault => k_is)
    (case lBookL => k_is)
    (case cBookL => k_is)
    (case kBookL => k_is)
    (case lLine => k_is)
    (case cLine => k_is)
    (case kLine => k_is)
    (case lMixed => k_is)
    (case cMixed => k_is)
    (case kMixed => k_is)
    (case lCharL => k_is)
    (case cCharL => k_is)
    (case kCharL => k_is)
    (case lEdited => k_is)
    (case cEdited => k_is)
    (case kEdited => k_is)
    (case lFurther => k_is)
    (case cFurther => k_is)
    (case kFurther => k_is)
    (case lExch => k_is)
    (case cExch => k_is)
    (case kExch => k_is)
    (case lChanged => k_is)
    (case cChanged => k_is)
    (case kChanged => k_is)
    (case lReadL => k_is)
    (case cReadL => k_is)
    (case kReadL => k_is)
    (case lParsed => k_is)
    (case cParsed => k_is)
    (case kParsed => k_is)
    (case lJudged => k_is)
    (case cJudged => k_is)
    (case kJudged => k_is)
    (case lCheck => k_is)
    (case cCheck => k_is)
    (case kCheck => k_is)
    (case lIsForm => k_is)
    (case cIsForm => k_is)
    (case kIsForm => k_is)
    (case lOver => k_is)
    (case cOver => k_is)
    (case kOver => k_is)
    (case lConf => k_is)
    (case cConf => k_is)
    (case kConf => k_is)
    (case lFormat => k_is)
    (case cFormat => k_is)
    (case kFormat => k_is)
    (case lParse => k_is)
    (case cParse => k_is)
    (case kParse => k_is)
    (case lLaw => k_is)
    (case cLaw => k_is)
    (case kLaw => k_is)
    (case pgC => k_is)
    (case hdC => k_is)
    (case poC => k_is)
    (case saC => k_is)
    (case mkC => k_is)
    (case kC => k_is)
    (case nC_letters => k_is)
    (case nC_vowels => k_is)
    (case nC_consonants => k_is)
    (case nC_signs => k_is)
    (case ig => k_is)
    (case it => k_is)
    (case icC => k_is)
    (case imC => k_is)
    (case rdC => k_is)
    (case gaC => k_is)
    (case vM => k_is)
    (case vJ => k_is)
    (case lT => k_is)
    (case cT => k_is)
    (case kT => k_is)
    (case iT => k_is)
    (case lE => k_is)
    (case cE => k_is)
    (case kE => k_is)
    (case iE => k_is)
    (case nE => k_is)
    (case lA => k_is)
    (case cA => k_is)
    (case lD => k_is)
    (case kA => k_is)
    (case iA => k_is)
    (case pgCB => k_is)
    (case hdCB => k_is)
    (case poCB => k_is)
    (case saCB => k_is)
    (case mkCB => k_is)
    (case kCB => k_is)
    (case rdCB => k_is)
    (case gaCB => k_is)
    (case vMB => k_is)
    (case nCB_alphabet => k_is)
    (case nCB_entries => k_is)
    (case lBI => k_is)
    (case cBI => k_is)
    (case kBI => k_is)
    (case iBI => k_is)
    (case lEn => k_is)
    (case cEn => k_is)
    (case kEn => k_is)
    (case iEn => k_is)
    (case nB => k_is)
    (case icCB => k_is)
    (case imCB => k_is)
    (case lEq => k_is)
    (case cEq => k_is)
    (case kEq => k_is)
    (case iEq => k_is)
    (case lKI => k_is)
    (case q1 => first | rfl | decide +kernel)
    (case q2 => first | rfl | decide +kernel)
    (case q3 => first | rfl | decide +kernel)
    (case low => first | rfl | decide +kernel)
    (case xTE => k_is)
    (case eTE => k_is)
    (case tTE => k_is)
    (case hTE => k_is)
    (case iTE => k_is)
    (case noT => first | rfl | decide +kernel)
    (case anyS => k_is)
    (case xBA => k_is)
    (case eBA => k_is)
    (case tBA => k_is)
    (case hBA => k_is)
    (case nBA_part => k_is)
    (case saBA => k_is)
    (case gaBA => k_is)
    (case ggBA => k_is)
    (case tFBA => k_is)
    (case lBA => k_is)
    (case cBA => k_is)
    (case kBA => k_is)
    (case lccBA => k_is)
    (case lcdBA => k_is)
    (case hvBA => rfl)
    (case hflBA => first | rfl | decide +kernel)
    (case mmBA => k_is)
    (case vBA => k_is)
    (case xTM => k_is)
    (case eTM => k_is)
    (case tTM => k_is)
    (case hTM => k_is)
    (case nTM_most => k_is)
    (case saTM => k_is)
    (case gaTM => k_is)
    (case ggTM => k_is)
    (case tFTM => k_is)
    (case lTM => k_is)
    (case cTM => k_is)
    (case kTM => k_is)
    (case lccTM => k_is)
    (case lcdTM => k_is)
    (case hvTM => rfl)
    (case hflTM => first | rfl | decide +kernel)
    (case mmTM => k_is)
    (case vTM => k_is)
    (case xBN => k_is)
    (case eBN => k_is)
    (case tBN => k_is)
    (case hBN => k_is)
    (case nBN_name => k_is)
    (case saBN => k_is)
    (case gaBN => k_is)
    (case ggBN => k_is)
    (case tFBN => k_is)
    (case lBN => k_is)
    (case cBN => k_is)
    (case kBN => k_is)
    (case lccBN => k_is)
    (case lcdBN => k_is)
    (case hvBN => rfl)
    (case hflBN => first | rfl | decide +kernel)
    (case mmBN => k_is)
    (case vBN => k_is)
    (case xBF => k_is)
    (case eBF => k_is)
    (case tBF => k_is)
    (case hBF => k_is)
    (case nBF_form => k_is)
    (case saBF => k_is)
    (case gaBF => k_is)
    (case ggBF => k_is)
    (case tFBF => k_is)
    (case lBF => k_is)
    (case cBF => k_is)
    (case kBF => k_is)
    (case lccBF => k_is)
    (case lcdBF => k_is)
    (case hvBF => rfl)
    (case hflBF => first | rfl | decide +kernel)
    (case mmBF => k_is)
    (case vBF => k_is)
    (case xUP => k_is)
    (case eUP => k_is)
    (case tUP => k_is)
    (case hUP => k_is)
    (case nUP_place => k_is)
    (case saUP => k_is)
    (case gaUP => k_is)
    (case ggUP => k_is)
    (case tFUP => k_is)
    (case lUP => k_is)
    (case cUP => k_is)
    (case kUP => k_is)
    (case lccUP => k_is)
    (case lcdUP => k_is)
    (case hvUP => rfl)
    (case hflUP => first | rfl | decide +kernel)
    (case mmUP => k_is)
    (case vUP => k_is)
    (case xDN => k_is)
    (case eDN => k_is)
    (case tDN => k_is)
    (case hDN => k_is)
    (case nDN_name => k_is)
    (case saDN => k_is)
    (case gaDN => k_is)
    (case ggDN => k_is)
    (case tFDN => k_is)
    (case lDN => k_is)
    (case cDN => k_is)
    (case kDN => k_is)
    (case lccDN => k_is)
    (case lcdDN => k_is)
    (case hvDN => rfl)
    (case hflDN => first | rfl | decide +kernel)
    (case mmDN => k_is)
    (case vDN => k_is)
    (case xCF => k_is)
    (case eCF => k_is)
    (case tCF => k_is)
    (case hCF => k_is)
    (case nCF_name => k_is)
    (case nCF_other => k_is)
    (case saCF => k_is)
    (case gaCF => k_is)
    (case ggCF => k_is)
    (case tFCF => k_is)
    (case lCF => k_is)
    (case cCF => k_is)
    (case kCF => k_is)
    (case lccCF => k_is)
    (case lcdCF => k_is)
    (case hvCF => rfl)
    (case hflCF => first | rfl | decide +kernel)
    (case mmCF => k_is)
    (case vCF => k_is)
    (case xBL => k_is)
    (case eBL => k_is)
    (case tBL => k_is)
    (case hBL => k_is)
    (case nBL_line => k_is)
    (case saBL => k_is)
    (case gaBL => k_is)
    (case ggBL => k_is)
    (case tFBL => k_is)
    (case lBL => k_is)
    (case cBL => k_is)
    (case kBL => k_is)
    (case lccBL => k_is)
    (case lcdBL => k_is)
    (case hvBL => rfl)
    (case hflBL => first | rfl | decide +kernel)
    (case mmBL => k_is)
    (case vBL => k_is)
    (case sTM_TE => k_is)
    (case sBN_TE => k_is)
    (case sBF_TE => k_is)
    (case sUP_TE => k_is)
    (case sDN_TE => k_is)
    (case sCF_TE => k_is)
    (case sBL_BL => k_is)
