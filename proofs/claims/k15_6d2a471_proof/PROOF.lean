import PyProof.Rows.All
import Wide.All
import OpenK.AllK
import Wide.FinOn
import PyProof.EqAt
import PyProof.EqKinds
import KE.DataEq
import KE.KExcIs
import HandS.ForMost
import HandS.Exc
import HandS.ExcOwn
import HandS.ExcInit
import HandS.ExcValue
import HandS.IsInst
import HandS.ExcField
import HandS.Codes
import HandS.Strs
import HandS.StrMore
import HandS.TupAny
import HandS.Iter
import HandS.TupLen
import HandS.DictComp
import HandS.Conv
import HandS.Walk
import PyProof.TupleOfSeq
import HandS.More
import HandS.SlotsOwn
import OpenK.KOps
import KE.KUnpack
import HandS.TryMany
import HandS.WordsExc
import HandS.SetFor
import KE.KTryMore
import KE.GoesEnum
import HandS.OwnIter
import HandS.IterVal
import HandS.Wide
import KE.KDictKeyed
import HandS.Style
import HandS.DictTup
import KE.KDictPairs
import KE.KDictList
import KE.KDictWalk
import HandS.Finally
import HandS.TupMul
import KE.KRevSl
import HandS.Deep
import HandS.DeepEq
import KE.KEqDict
import PyProof.ReprRoads
import HandS.Ends
import PyProof.ReprLen
import PyProof.CallFns
import HandS.TupLe
import PySem.Challenge.RW_heightgames_k15_rows_walked
set_option Elab.async false
set_option linter.all false
set_option maxRecDepth 100000
set_option maxHeartbeats 4000000
/-! rules of our own: o[i] += e of a list; == of lists of one content; errors as values -/
namespace HG
open PySem PySem.Spec PyProof.Rows L2

section
variable {X : Cx}
def rGetL (K : PySem.W.Frag) : V → V → Hp → VK → Prop := fun o i H Q => ∃ p xs k z, o = .ref p ∧ i = .int k ∧ SqL K H p xs ∧ 0 ≤ k ∧ atI xs k = some z ∧ Q z H
theorem get_list : PGet X (rGetL X.K) := by
  intro pins s σ H o i ov iv Q I ro ri h
  obtain ⟨p, xs, k, z, rfl, rfl, hq, h0, he, q⟩ := h
  cases ro
  obtain ⟨t, rfl⟩ := ri
  obtain ⟨its, r, pl, hz⟩ := I.list hq
  obtain ⟨j, h1, h2, h3, h4, h5⟩ := atI_get he
  obtain ⟨w, ew, rw'⟩ := r.get h2
  have hl := r.length
  have hn := line63
  have hj : k.toNat = j := by
    rw [seqIndex_of h0 h5] at h1
    exact Option.some.inj h1
  exact wpAny_getItem_list pl.isList h0 (by omega) (by rw [hj]; simpa using ew) ⟨z, H, I, rw', q⟩

/-- values that are equal whenever they are the same to us -/
def plainV : V → Bool
  | .flt _ => false
  | .byt _ => false
  | _ => true
theorem eq_of_rel {x : V} {u w : Value} {A : Around} {s : Shared} (hx : plainV x = true) (r : RelV x u) (r' : RelV x w) : SeqAt.EqAt A s u w true := by
  cases x with
  | non => cases r; cases r'; exact SeqAt.EqAt.same _
  | bl b => cases r; cases r'; exact SeqAt.EqAt.same _
  | int i =>
    obtain ⟨t, rfl⟩ := r
    obtain ⟨t', rfl⟩ := r'
    intro prog w E Q q
    exact wpAny_eqBool_int (by rw [beq_self_eq_true]; exact q)
  | str z =>
    obtain ⟨t, rfl⟩ := r
    obtain ⟨t', rfl⟩ := r'
    intro prog w E Q q
    exact wpAny_eqBool_str (by rw [decide_eq_true rfl]; exact q)
  | byt b => cases hx
  | flt b => cases hx
  | ref a => cases r; cases r'; exact SeqAt.EqAt.same _
  | ty n => cases r; cases r'; exact SeqAt.EqAt.same _
def rSame (K : PySem.W.Frag) (b : Bool) : R2 := fun x y H Q => ∃ p q xs, x = .ref p ∧ y = .ref q ∧ SqL K H p xs ∧ SqL K H q xs ∧ (∀ z ∈ xs, plainV z = true) ∧ Q (.bl b) H
theorem op_neSame (hu : X.A.units + 64 < cLine) : OpR X (compareOp .NotEq) (rSame X.K false) := by
  intro pins s σ H x y v u Q I rx ry h
  obtain ⟨p, q, xs, rfl, rfl, hp, hq, hpl, k⟩ := h
  cases rx
  cases ry
  obtain ⟨its, r, pl, hz⟩ := I.list hp
  obtain ⟨its', r', pl', hz'⟩ := I.list hq
  have l1 := r.length
  have l2 := r'.length
  have hsz : its.toArray.size = its'.toArray.size := by simp only [List.size_toArray]; omega
  have hk : (!(List.range its.toArray.size).all fun _ => true) = false := by simp
  have := SeqAt.RcNeAt.lists (A := X.A) (s := s) (e := fun _ => true) pl.isList pl'.isList hsz (by omega) (fun j h1 h2 => by
    have j1 : j < xs.length := by simpa [l1] using h1
    obtain ⟨w, ew, rw1⟩ := r.get (i := j) (List.getElem?_eq_getElem j1)
    obtain ⟨w', ew', rw2⟩ := r'.get (i := j) (List.getElem?_eq_getElem j1)
    have e1 : its.toArray[j] = w := by
      have := List.getElem?_eq_some_iff.mp ew
      obtain ⟨_, e⟩ := this
      simpa using e
    have e2 : its'.toArray[j] = w' := by
      have := List.getElem?_eq_some_iff.mp ew'
      obtain ⟨_, e⟩ := this
      simpa using e
    rw [e1, e2]
    exact eq_of_rel (hpl _ (List.getElem_mem j1)) rw1 rw2)
  rw [hk] at this
  exact this X.prog X.w _ _ ⟨.bl false, H, I, rfl, k⟩
end

/-! ### errors as values -/
section
variable {X : Cx} {pins : List (Addr × Obj)} {σ : L2.St} {H : Hp} {s : Shared}
/-- what reading an own error's fields, and isinstance of it, ask of its class -/
structure ErrC (K : PySem.W.Frag) (C : Addr) : Prop where
  xf : XfC K C
  cl : (PySem.W.clsIn K C).isSome = true
  ha : PySem.W.findIn K (.ref C) "__class__" = some (some (.builtin "object.__class__"))
  hm : PySem.W.mroIn K C (.type "object") = some true
structure GetC (K : PySem.W.Frag) : Prop where
  hn : PySem.W.specialIn K (.builtin "object.__class__") "__get__" = some (some (.builtin "getset_descriptor.__get__"))
  ht : PySem.W.takesIn K (.builtin "object.__class__") = some true

theorem exd_obj {P : Program} {w : World} {H : Hp} {h : Heap} {dx : Addr} {fs : List (Str × V)} (hok : HOk P w H h) (he : H dx = some (exd dx fs)) : ∃ od, h.get? dx = some od ∧ ∀ n v, fs.lookup n = some v → ∃ u : Value, PySem.W.lookIn n od = some (some u) ∧ L2.RelV v u := by
  obtain ⟨mA, hns, hr⟩ := exd_at hok he
  obtain ⟨od, ho, hl⟩ := lookIn_ns hns
  refine ⟨od, ho, fun n v l => ?_⟩
  obtain ⟨u, hu, ru⟩ := RelO.some_of (v := v) (o := mA n) (by rw [← l]; exact hr n)
  exact ⟨u, by rw [hl n, hu], ru⟩

/-- e.f, e an own error that is tracked -/
def tErrF (K : PySem.W.Frag) (f : Str) (te : TE) : TE := fun σ H Q => te σ H fun x H1 => ∃ (a C dx : Addr) (fs : List (Str × V)) (v : V), x = .ref a ∧ H1 a = some (exo a C (some dx)) ∧ H1 dx = some (exd dx fs) ∧ XfC K C ∧ PySem.W.findIn K (.ref C) f = some none ∧ fs.lookup f = some v ∧ Q v H1
theorem pe_errF {e : Expr} {te : TE} {pos : Pos} {n : Str} (he : PE X e te) (hb : attributeBase e n X.env (eval e X.env) = eval e X.env := by rfl) : PE X (.Attribute e n pos) (tErrF X.K n te) := by
  refine ⟨fun pins s σ H Q I h => ?_⟩
  refine attr_of hb (thn (he.run pins s σ H _ I h) fun u s1 hh => ?_)
  obtain ⟨x, H1, I1, rx, a, C, dx, fs, v, ex, ea, ed, T, hno, l, q⟩ := hh
  subst ex
  obtain rfl : u = Value.ref a := rx
  obtain ⟨t1, ho⟩ := exo_at I1.hok ea
  obtain ⟨od, hod, hl⟩ := exd_obj I1.hok ed
  obtain ⟨u, hu, ru⟩ := hl n v l
  have J : PySem.W.InstAt s1.heap a { cls := .ref C, dict := some dx, data := .fields #[.ref t1, .none, .none, .none, .bool false, .none] } C (some od) := ⟨ho, rfl, rfl, hod⟩
  exact HandSPX.exc_get I1.kIn J T.ga T.gg T.exC (PySem.W.findObj_own T.hdC hno rfl (by rw [hu])) (handed_of ru) ⟨v, H1, I1.tok _, ru, q⟩

/-- isinstance(e, c), e an own error that is tracked -/
def rIsErr (K : PySem.W.Frag) : List V → Hp → VK → Prop := fun xs H Q => ∃ (a C : Addr) (d : Option Addr) (c : V) (cv : Value) (b : Bool), xs = [.ref a, c] ∧ ClsV c cv ∧ H a = some (exo a C d) ∧ (∀ dx, d = some dx → ∃ fs, H dx = some (exd dx fs)) ∧ ErrC K C ∧ GetC K ∧ PySem.W.kitOne K (.ref C) cv = some b ∧ Q (.bl b) H
theorem call_isErr : CallR X (.builtin "isinstance") (rIsErr X.K) := by
  intro pins s σ H xs us Q I r h
  obtain ⟨a, C, d, c, cv, b, rfl, k, ea, hd, T, G, e, q⟩ := h
  obtain ⟨u1, u2, rfl, r1, r2⟩ := vals2 r
  have e2 := k.eq r2
  subst e2
  obtain rfl : u1 = Value.ref a := r1
  obtain ⟨t1, ho⟩ := exo_at I.hok ea
  have J : ∃ od, PySem.W.InstAt s.heap a { cls := .ref C, dict := d, data := .fields #[.ref t1, .none, .none, .none, .bool false, .none] } C od := by
    cases d with
    | none => exact ⟨none, ho, rfl, rfl, trivial⟩
    | some dx =>
      obtain ⟨fs, ed⟩ := hd dx rfl
      obtain ⟨od, hod, _⟩ := exd_obj I.hok ed
      exact ⟨some od, ho, rfl, rfl, hod⟩
  obtain ⟨od, J⟩ := J
  exact PySem.W.kia_one (PySem.W.kitx_exc T.cl T.xf.ga T.xf.gg T.xf.exC T.ha G.hn G.ht T.hm) I.kIn J e (fun z => nomatch z) fun tk => ⟨.bl b, H, I.tok tk, rfl, q⟩

/-- X(), an own error without own __init__ -/
theorem pe_err0 {C : Addr} {bmB : List Value} {B newId initId : String} {x : Str} {p pos : Pos} (F : ExcBaseFacts B newId initId bmB) (q : PySem.W.excIn X.K C bmB newId = true) (gC : X.mg x = some (.ref C)) (kC : PySem.W.keepIn X.K (.ref C) = true) (hg : Gl X x)
    (hdb : (x == ("__debug__" : Str)) = false := by decide) :
    PE X (.Call (.Name x p) [] [] pos) (fun σ H Q => ∀ a, H a = none → Q (.ref a) (upd H a (exo a C none))) := by
  refine ⟨fun pins s σ H Q I h => ?_⟩
  refine wpAny_Call_Name_kw (ld_glob I hg gC ?_ hdb)
  refine PySem.W.callWith_K0 I.kIn kC ?_
  obtain ⟨bm, N, nm, qn, bs, hdct, sn, sub, ab, col, dd, k0, k1, k2, k3, k5, mN, hC, hN, hni, T⟩ := exc_obj I.kIn q
  refine wpAny_call_exc_subT F T hC hN hni (fun h' a hm => ?_) (by show 0 ≤ sizeLine; omega)
  have hn : H a = none := I.hok.gone hm.new
  obtain ⟨t, ht, _, _⟩ := hm.there
  exact ⟨.ref a, upd H a (exo a C none), I.laidN hm.keeps hm.new hn (exo_ok ht), rfl, h a hn⟩

/-- X(e, ..), an own error with its own __init__, as a value -/
def tErrN (C : Addr) (sp : Sp) (ta : TA) : TE := fun σ H Q => ta σ H fun vs H1 => vs.length ≤ 1000 ∧ ∀ a, H1 a = none → sp (.ref a :: vs) (upd H1 a (exo a C none)) (fun v H2 => v = .non ∧ Q (.ref a) H2) (fun _ _ _ => False)
theorem pe_errN {CX : CXT} {x : Str} {C fI : Addr} {k : Nat} {fd : FuncData} {ps : List Str} {sp : Sp} {e : Expr} {es : List Expr} {ta : TA} {p pos : Pos} (T : OexC X.K C) (iC : PySem.W.findIn X.K (.ref C) "__init__" = some (some (.ref fI))) (tI : PySem.W.typeIn X.K (.ref fI) = some (.type "function"))
    (F1 : FnOk X.prog X.w X.K X.mg X.base CX k fI fd ps sp) (hr : Room (k + 1) X.A) (hb : Binds X.K fd ps []) (hx : Passes CX X (fun _ _ _ => False)) (hm : X.mg x = some (.ref C)) (hg : Gl X x) (ha : PA X (e :: es) ta)
    (hdb : (x == ("__debug__" : Str)) = false := by decide) (he : starEach (e :: es) X.env = (false, eval e X.env) :: starEach es X.env := by rfl) (hpl : (backTo pos (starEach es X.env)).any (·.1) = false := by rfl) :
    PE X (.Call (.Name x p) (e :: es) [] pos) (tErrN C sp ta) := by
  refine ⟨fun pins s σ H Q I h => ?_⟩
  obtain ⟨nm, q, N, bs, bm, sn, sub, ab, col, dd, k0, k1, k2, k3, k5, hC, hbm⟩ := T.cls
  refine wpAny_Call_Name_kw (ld_glob I hg hm ?_ hdb)
  refine PySem.W.callWith_K (h₀ := X.base) I.ok.mod.kin T.kC (thn (ha.run pos pins s σ H _ I h) fun us s1 ⟨vs, H1, I1, r1, hz, q1⟩ => ⟨I1.kIn, ?_⟩) he hpl
  show wpAny _ _ (call (.ref C) us) _ _ _
  obtain ⟨hp, g, dr, tk, os⟩ := s1
  have hsz : hp.objs.size ≤ hp.objs.size + 1 := Nat.le_succ _
  have hn : H1 (hp.objs.size + 1) = none := I1.hok.fresh hsz
  have hq := q1 (hp.objs.size + 1) hn
  have kk : ∀ b o, hp.get? b = some o → ((hp.push (PySem.W.kdv_tup us)).push (PySem.HandSPX.excO C hp.objs.size)).get? b = some o := fun b o e => Heap.get?_push_of_some _ (Heap.get?_push_of_some _ e)
  have hget : ((hp.push (PySem.W.kdv_tup us)).push (PySem.HandSPX.excO C hp.objs.size)).get? (hp.objs.size + 1) = some (PySem.HandSPX.excO C hp.objs.size) := by heap_get
  have I2 : Inv X pins σ (upd H1 (hp.objs.size + 1) (exo (hp.objs.size + 1) C none)) ⟨(hp.push (PySem.W.kdv_tup us)).push (PySem.HandSPX.excO C hp.objs.size), g, dr, tk, os⟩ :=
    I1.laid (t' := tk) (a := hp.objs.size + 1) (o := exo (hp.objs.size + 1) C none) (h' := (hp.push (PySem.W.kdv_tup us)).push (PySem.HandSPX.excO C hp.objs.size)) kk hsz (exo_ok hget)
  have r2 : Vals (V.ref (hp.objs.size + 1) :: vs) (Value.ref (hp.objs.size + 1) :: us) := .cons rfl r1
  have hl : (Value.ref (hp.objs.size + 1) :: us).length = ps.length := by
    have e := r2.length
    rw [F1.len _ _ _ _ hq] at e
    exact e.symm
  have hus : us.length ≤ sizeLine := by
    rw [← Paired.length r1, sizeLine_eq]
    omega
  have hB := hb _ (Value.ref (hp.objs.size + 1) :: us) I2.kIn (by simpa using hl)
  rw [List.append_nil] at hB
  refine wpAny_call (PySem.HandSPX.call_own F.excBase_ValueError (fun Y => PySem.HandSPX.refsVE_contains Y bm hbm) (I1.kIn _ _ hC) (PySem.W.looks_findIn I1.kIn iC) (fun self => PySem.W.bind_fn I1.kIn self tI) hus
    (codeAny_mono (F1.run _ X.stack _ _ ⟨Value.ref (hp.objs.size + 1) :: us, []⟩ (Value.ref (hp.objs.size + 1) :: us) _ _ (fun _ _ _ => False) (hr.make C us []) (I2.env0.make C us []) hB r2 hq) fun r s' hq' => ?_))
  cases r with
  | error er => exact hx pins σ _ _ er s' I2 hq'
  | ok fl =>
    cases fl with
    | ret u =>
      obtain ⟨v, H2, os2, bare2, un2, hok2, rv, ev, q2⟩ := hq'
      subst ev
      exact ⟨rv, .ref (hp.objs.size + 1), H2, I2.call' (ch := []) os2 un2 hok2 bare2 (fun b z => absurd z (by simp)), rfl, q2⟩
    | next => exact False.elim hq'
    | brk => exact False.elim hq'
    | cont => exact False.elim hq'
end
end HG

/-! more rules of our own: a set of distinct texts, lists or tuples walked alike, tuples put together -/
namespace HG
open PySem PySem.Spec PyProof.Rows L2

/-! ### set(xs) of distinct texts -/
section
variable {prog : Program} {w : World} {A : Around} {R : Result → Shared → Prop} {I : Addr} {fp wr : List Addr} {G : Array GenState → Array GenState → Prop} {n : Nat} {P : Nat → Value → Prop} {St : Nat → Shared → Prop}
theorem take_more {xs : List Str} {i : Nat} (hi : i < xs.length) (k : Str) : ((xs.take i).any (· == k) || decide (k = xs.getD i Str.empty)) = (xs.take (i + 1)).any (· == k) := by
  have e : xs.getD i Str.empty = xs[i] := by simp [List.getD, List.getElem?_eq_getElem hi]
  rw [List.take_add_one, List.getElem?_eq_getElem hi, e]
  simp only [List.any_append, Option.toList, List.any_cons, List.any_nil, Bool.or_false]
  congr 1
  rw [Bool.eq_iff_iff, decide_eq_true_iff, beq_iff_eq]
  exact eq_comm
theorem take_no {xs : List Str} (hN : xs.Nodup) {i : Nat} (hi : i < xs.length) : (xs.take i).any (· == xs.getD i Str.empty) = false := by
  have e : xs.getD i Str.empty = xs[i] := by simp [List.getD, List.getElem?_eq_getElem hi]
  rw [e, List.any_eq_false]
  intro y hy he
  have hy2 : y = xs[i] := by simpa using he
  obtain ⟨j, hj, ej⟩ := List.getElem_of_mem hy
  rw [List.length_take] at hj
  rw [List.getElem_take] at ej
  have := (List.getElem_inj hN).mp (ej.trans hy2)
  omega
theorem fill_texts (W : WalksS prog w A.in1 I fp wr G n P St) (S : Addr) (hSf : S ∉ fp) (xs : List Str) (hN : xs.Nodup) (hz : xs.length = n) (hb : n + 1 < scanBound)
    (hval : ∀ i v, P i v → ∃ t, v = .str (xs.getD i Str.empty) t) :
    ∀ (m i : Nat) (s : Shared), i + m = n → St i s → s.heap.SetOf (PySem.strKind prog w) S (fun k => (xs.take i).any (· == k)) i →
      (∀ s', Moved (S :: wr) G s s' → s'.heap.SetOf (PySem.strKind prog w) S (fun k => (xs.take n).any (· == k)) n → R (.ok (.ret .none)) s') →
      codeAny (model prog w) A (.builtin "set.update.loop" ⟨[.ref S, .ref I], []⟩) R s := by
  have hSw : S ∉ wr := fun h => hSf (W.sub _ h)
  have hsub : ∀ b ∈ wr, b ∈ S :: wr := fun b hb => List.mem_cons_of_mem _ hb
  intro m
  induction m with
  | zero =>
    intro i s him hst hS hR
    obtain rfl : i = n := him
    refine codeAny_builtin PyProof.Rows.F.entry_set_update_loop ?_
    rw [Around.under_plainId PyProof.Rows.F.plain_set_update_loop _]
    refine wpAny_bind (W.done s _ _ hst fun s' hm => ?_)
    obtain ⟨o, es, ep, t, ho, q⟩ := hS
    exact wpAny_pure (hR s' (hm.mono hsub) ⟨o, es, ep, t, hm.heap S _ hSw ho, q⟩)
  | succ m ih =>
    intro i s him hst hS hR
    have hlt : i < n := by omega
    have hix : i < xs.length := by omega
    refine codeAny_builtin PyProof.Rows.F.entry_set_update_loop ?_
    rw [Around.under_plainId PyProof.Rows.F.plain_set_update_loop _]
    refine wpAny_bind (W.item i s _ _ hlt hst fun v s' hP hst' hm => ?_)
    obtain ⟨t, rfl⟩ := hval i v hP
    have hS' : s'.heap.SetOf (PySem.strKind prog w) S (fun k => (xs.take i).any (· == k)) i := by
      obtain ⟨o, es, ep, tb, ho, q⟩ := hS
      exact ⟨o, es, ep, tb, hm.heap S _ hSw ho, q⟩
    refine wpAny_bind (wpAny_holding ?_)
    unfold setAdd
    refine wpAny_holding (wpAny_bind ((PySem.strKind prog w).pyHash (k := xs.getD i Str.empty) (strKind_is _ _ _ _) ?_))
    refine wpAny_setAddHashed_of (knd := PySem.strKind prog w) (s := { s' with toks := s'.toks + 1 }) (strKind_is _ _ _ _) rfl hS' (by omega) fun h' hsb hS2 => ?_
    have hSi : h'.SetOf (PySem.strKind prog w) S (fun k => (xs.take (i + 1)).any (· == k)) (i + 1) := SetOf_congr hS2 (fun k => take_more hix k) (by rw [take_no hN hix]; rfl)
    refine wpAny_pure ⟨plainId_quiet PyProof.Rows.F.plain_set_update_loop _, ih (i + 1) _ (by omega) (W.frame _ s' _ _ hst' (Nat.le_succ _) fun b hb o e => ?_) hSi fun s'' hm'' hS'' => ?_⟩
    · rw [hsb.2 b (fun h : b = S => hSf (by rw [← h]; exact hb))]
      exact e
    · refine hR s'' (Moved.trans W.gtrans ((hm.mono hsub).then_heap (Nat.le_succ _) fun b o hb e => ?_) hm'') hS''
      rw [hsb.2 b (fun h : b = S => hb (by rw [h]; exact List.mem_cons_self))]
      exact e
end
section
variable {prog : Program} {w : World} {A : Around} {E : Value → Shared → Prop} {s : Shared}
abbrev emptySet (u : Bool) : Obj := { cls := .type "set", dict := none, data := .set #[] 0 (.fresh 0 0 u) }

set_option maxHeartbeats 6000000 in
theorem set_of_list {l : Addr} {items : Array Value} {xs : List Str} {Q : Value → Shared → Prop} (hh : A.handled = none) (hl : s.heap.IsList l items) (hi : PyProof.Rows.StrsAre items.toList xs) (hN : xs.Nodup) (hn : xs.length + 1 < scanBound)
    (q : ∀ (h' : Heap) (tk : Nat), h'.SetOf (PySem.strKind prog w) s.heap.objs.size (fun k => (xs.take xs.length).any (· == k)) xs.length → (∀ b o, b < s.heap.objs.size → s.heap.get? b = some o → h'.get? b = some o) → Q (.ref s.heap.objs.size) { s with heap := h', toks := tk }) :
    wpAny (model prog w) A (call (.type "set") [.ref l]) Q E s := by
  have hz : xs.length = items.size := by rw [← StrsAre.len_eq hi, Array.length_toList]
  obtain ⟨c0, tl0, hmro⟩ := PySem.F.called_set.mro
  have hmade := PySem.F.called_set.made
  have hsub := PySem.F.called_set.sub
  have h1 := PySem.F.called_set.notType
  have h2 := PySem.F.called_set.canCreate
  have hct := PySem.F.typeCall_set_1 (.ref l)
  refine wpAny_call (codeAny_of_tree ?_)
  show wpAny _ _ (callAny (.type "set") _) _ _ _
  refine wpAny_pure ⟨Code.quiet_builtin _ (by decide +kernel), codeAny_builtin PySem.F.entry_type_call ?_⟩
  rw [Around.under_plain (weight_type_call_type "set" [.ref l] []) rfl]
  repeat (any_goals (first | assumption | wp_step))
  refine codeAny_mono (code_set_new_1 (.ref l) (E := E) (Q₁ := fun obj s₁ => ∃ u : Bool, obj = .ref s.heap.objs.size ∧ s₁ = { s with heap := s.heap.push (emptySet u) }) fun u => ⟨u, rfl, rfl⟩) fun r s₁ hr => ?_
  cases r with
  | error e => exact hr
  | ok fl =>
    cases fl with
    | next => exact hr.elim
    | brk => exact hr.elim
    | cont => exact hr.elim
    | ret obj =>
      obtain ⟨u, rfl, rfl⟩ := hr
      have hS : (s.heap.push (emptySet u)).get? s.heap.objs.size = some (emptySet u) := Heap.get?_push_size _ rfl
      have hT : Shared.TypeIs { s with heap := s.heap.push (emptySet u) } (.ref s.heap.objs.size) "set" := ⟨_, hS, rfl⟩
      have hli := PySem.F.called_set.init.lookup
      have hbi := PySem.F.called_set.init.bind (.ref s.heap.objs.size)
      repeat (any_goals (first | assumption | wp_step))
      refine codeAny_mono (codeAny_call_builtin (R := wants (fun r s₂ => r = .none ∧ ∃ h' tk, s₂ = { s with heap := h', toks := tk } ∧ h'.SetOf (PySem.strKind prog w) s.heap.objs.size (fun k => (xs.take xs.length).any (· == k)) xs.length ∧
          (∀ b o, b < s.heap.objs.size → s.heap.get? b = some o → h'.get? b = some o)) E) PySem.F.called_set.init.plain PySem.F.entry_set_init (check_set_init_1 hT ?_)) fun r₂ s₂ hr₂ => ?_
      · obtain ⟨⟨oc, odd, oda, osl⟩, hol, hcl, nl, hdl⟩ := hl
        simp only at hcl hdl
        subst hcl hdl
        have hol' := Heap.get?_push_of_some (emptySet u) hol
        have z1 := PySem.F.sub_list_set
        have z2 := PySem.F.sub_list_frozenset
        have z3 : (Value.type "list" == Value.type "dict") = false := by decide
        have hl1 : (s.heap.push (emptySet u)).IsList l items := ⟨_, hol', rfl, nl, rfl⟩
        unfold Builtin.«set.__init__» noKeywords Builtin.Frozenset.updateFrom
        generalize hPI : pyIter = PI
        wp_walk
        subst hPI
        refine wpAny_pyIter_list hl1 (wpAny_bind (wpAny_runValue ?_))
        have hlS : l < s.heap.objs.size := Heap.lt_size hol
        have z4 : A.in1.in1.in1.handled = none := by simp [hh]
        have zs : (s.heap.push (emptySet u)).objs.size = s.heap.objs.size + 1 := Heap.size_push _ _
        have hneI : l ≠ (s.heap.push (emptySet u)).objs.size := by rw [zs]; exact Nat.ne_of_lt (Nat.lt_succ_of_lt hlS)
        have hSf : s.heap.objs.size ∉ [(s.heap.push (emptySet u)).objs.size, l] := by
          rw [zs]
          simp only [List.mem_cons, List.not_mem_nil, or_false, not_or]
          exact ⟨Nat.ne_of_lt (Nat.lt_succ_self _), Nat.ne_of_gt hlS⟩
        refine fill_texts ((Walks.list z4 _ l hneI items).toS) s.heap.objs.size hSf xs hN hz (by omega) (fun i v hv => SS.strs_at hi i v (by rw [Array.getElem?_toList]; exact hv)) items.size 0 _ (by omega)
          ⟨⟨_, Heap.get?_push_size _ rfl, rfl, rfl⟩, (hl1.push _)⟩ ?hS0 ?hR
        case hS0 => exact PyProof.Rows.SetOf_congr ((PyProof.Rows.setObjOf_fresh (knd := PySem.strKind prog w) u).setOf (Heap.get?_push_of_some _ hS) (by unfold scanBound; omega)) (fun _ => rfl) rfl
        case hR =>
          intro s' hm hS'
          obtain ⟨h', g', d', tk', os'⟩ := s'
          have eg : g' = s.gens := hm.gens
          have ed : d' = s.drawn := hm.drawn
          have eo : os' = s.os := hm.os
          subst eg ed eo
          rw [← hz] at hS'
          refine wpAny_pure (wpAny_pure ⟨rfl, h', tk', rfl, hS', fun b o hb e => ?_⟩)
          refine hm.heap b o ?_ (Heap.get?_push_of_some _ (Heap.get?_push_of_some _ e))
          rw [zs]
          simp only [List.mem_cons, List.not_mem_nil, or_false, not_or]
          exact ⟨Nat.ne_of_lt hb, Nat.ne_of_lt (Nat.lt_succ_of_lt hb)⟩
      · cases r₂ with
        | error e => exact hr₂
        | ok fl₂ =>
          cases fl₂ with
          | next => exact hr₂.elim
          | brk => exact hr₂.elim
          | cont => exact hr₂.elim
          | ret r =>
            obtain ⟨rfl, h', tk, rfl, hS', hk'⟩ := hr₂
            repeat (any_goals (first | assumption | wp_step))
            exact q _ _ hS' hk'

set_option maxHeartbeats 6000000 in
theorem set_of_tuple {l : Addr} {items : Array Value} {xs : List Str} {Q : Value → Shared → Prop} (hh : A.handled = none) (hl : s.heap.IsTuple l items) (hi : PyProof.Rows.StrsAre items.toList xs) (hN : xs.Nodup) (hn : xs.length + 1 < scanBound)
    (q : ∀ (h' : Heap) (tk : Nat), h'.SetOf (PySem.strKind prog w) s.heap.objs.size (fun k => (xs.take xs.length).any (· == k)) xs.length → (∀ b o, b < s.heap.objs.size → s.heap.get? b = some o → h'.get? b = some o) → Q (.ref s.heap.objs.size) { s with heap := h', toks := tk }) :
    wpAny (model prog w) A (call (.type "set") [.ref l]) Q E s := by
  have hz : xs.length = items.size := by rw [← StrsAre.len_eq hi, Array.length_toList]
  obtain ⟨c0, tl0, hmro⟩ := PySem.F.called_set.mro
  have hmade := PySem.F.called_set.made
  have hsub := PySem.F.called_set.sub
  have h1 := PySem.F.called_set.notType
  have h2 := PySem.F.called_set.canCreate
  have hct := PySem.F.typeCall_set_1 (.ref l)
  refine wpAny_call (codeAny_of_tree ?_)
  show wpAny _ _ (callAny (.type "set") _) _ _ _
  refine wpAny_pure ⟨Code.quiet_builtin _ (by decide +kernel), codeAny_builtin PySem.F.entry_type_call ?_⟩
  rw [Around.under_plain (weight_type_call_type "set" [.ref l] []) rfl]
  repeat (any_goals (first | assumption | wp_step))
  refine codeAny_mono (code_set_new_1 (.ref l) (E := E) (Q₁ := fun obj s₁ => ∃ u : Bool, obj = .ref s.heap.objs.size ∧ s₁ = { s with heap := s.heap.push (emptySet u) }) fun u => ⟨u, rfl, rfl⟩) fun r s₁ hr => ?_
  cases r with
  | error e => exact hr
  | ok fl =>
    cases fl with
    | next => exact hr.elim
    | brk => exact hr.elim
    | cont => exact hr.elim
    | ret obj =>
      obtain ⟨u, rfl, rfl⟩ := hr
      have hS : (s.heap.push (emptySet u)).get? s.heap.objs.size = some (emptySet u) := Heap.get?_push_size _ rfl
      have hT : Shared.TypeIs { s with heap := s.heap.push (emptySet u) } (.ref s.heap.objs.size) "set" := ⟨_, hS, rfl⟩
      have hli := PySem.F.called_set.init.lookup
      have hbi := PySem.F.called_set.init.bind (.ref s.heap.objs.size)
      repeat (any_goals (first | assumption | wp_step))
      refine codeAny_mono (codeAny_call_builtin (R := wants (fun r s₂ => r = .none ∧ ∃ h' tk, s₂ = { s with heap := h', toks := tk } ∧ h'.SetOf (PySem.strKind prog w) s.heap.objs.size (fun k => (xs.take xs.length).any (· == k)) xs.length ∧
          (∀ b o, b < s.heap.objs.size → s.heap.get? b = some o → h'.get? b = some o)) E) PySem.F.called_set.init.plain PySem.F.entry_set_init (check_set_init_1 hT ?_)) fun r₂ s₂ hr₂ => ?_
      · obtain ⟨⟨oc, odd, oda, osl⟩, hol, hcl, nl, hdl⟩ := hl
        simp only at hcl hdl
        subst hcl hdl
        have hol' := Heap.get?_push_of_some (emptySet u) hol
        have z1 := PySem.F.sub_tuple_set
        have z2 := PySem.F.sub_tuple_frozenset
        have z3 : (Value.type "tuple" == Value.type "dict") = false := by decide
        have hl1 : (s.heap.push (emptySet u)).IsTuple l items := ⟨_, hol', rfl, nl, rfl⟩
        unfold Builtin.«set.__init__» noKeywords Builtin.Frozenset.updateFrom
        generalize hPI : pyIter = PI
        wp_walk
        subst hPI
        refine wpAny_pyIter_tuple hl1 (wpAny_bind (wpAny_runValue ?_))
        have hlS : l < s.heap.objs.size := Heap.lt_size hol
        have z4 : A.in1.in1.in1.handled = none := by simp [hh]
        have zs : (s.heap.push (emptySet u)).objs.size = s.heap.objs.size + 1 := Heap.size_push _ _
        have hneI : l ≠ (s.heap.push (emptySet u)).objs.size := by rw [zs]; exact Nat.ne_of_lt (Nat.lt_succ_of_lt hlS)
        have hSf : s.heap.objs.size ∉ [(s.heap.push (emptySet u)).objs.size, l] := by
          rw [zs]
          simp only [List.mem_cons, List.not_mem_nil, or_false, not_or]
          exact ⟨Nat.ne_of_lt (Nat.lt_succ_self _), Nat.ne_of_gt hlS⟩
        refine fill_texts ((Walks.tuple z4 _ l hneI items).toS) s.heap.objs.size hSf xs hN hz (by omega) (fun i v hv => SS.strs_at hi i v (by rw [Array.getElem?_toList]; exact hv)) items.size 0 _ (by omega)
          ⟨⟨_, Heap.get?_push_size _ rfl, rfl, rfl⟩, (hl1.push _)⟩ ?hS0 ?hR
        case hS0 => exact PyProof.Rows.SetOf_congr ((PyProof.Rows.setObjOf_fresh (knd := PySem.strKind prog w) u).setOf (Heap.get?_push_of_some _ hS) (by unfold scanBound; omega)) (fun _ => rfl) rfl
        case hR =>
          intro s' hm hS'
          obtain ⟨h', g', d', tk', os'⟩ := s'
          have eg : g' = s.gens := hm.gens
          have ed : d' = s.drawn := hm.drawn
          have eo : os' = s.os := hm.os
          subst eg ed eo
          rw [← hz] at hS'
          refine wpAny_pure (wpAny_pure ⟨rfl, h', tk', rfl, hS', fun b o hb e => ?_⟩)
          refine hm.heap b o ?_ (Heap.get?_push_of_some _ (Heap.get?_push_of_some _ e))
          rw [zs]
          simp only [List.mem_cons, List.not_mem_nil, or_false, not_or]
          exact ⟨Nat.ne_of_lt hb, Nat.ne_of_lt (Nat.lt_succ_of_lt hb)⟩
      · cases r₂ with
        | error e => exact hr₂
        | ok fl₂ =>
          cases fl₂ with
          | next => exact hr₂.elim
          | brk => exact hr₂.elim
          | cont => exact hr₂.elim
          | ret r =>
            obtain ⟨rfl, h', tk, rfl, hS', hk'⟩ := hr₂
            repeat (any_goals (first | assumption | wp_step))
            exact q _ _ hS' hk'

end
section
variable {X : Cx}
/-- len(set(xs)), xs a list or tuple of distinct texts -/
def tLenTexts (K : PySem.W.Frag) (ta : TE) : TE := fun σ H Q => ta σ H fun x H1 => ∃ (l : Addr) (xs : List Str), x = .ref l ∧ (SqL K H1 l (xs.map V.str) ∨ SqT K H1 l (xs.map V.str)) ∧ xs.Nodup ∧ xs.length ≤ 1000 ∧ Q (.int xs.length) H1
theorem pe_lenTexts {a : Expr} {ta : TE} {p p2 q pos : Pos} (hc : X.calm = true) (hg : Gl X "len") (hm : X.mg "len" = none) (hg2 : Gl X "set") (hm2 : X.mg "set" = none) (ha : PE X a ta)
    (na : starEach [a] X.env = (false, eval a X.env) :: starEach [] X.env := by rfl) : PE X (.Call (.Name "len" p) [.Call (.Name "set" p2) [a] [] q] [] pos) (tLenTexts X.K ta) := by
  refine ⟨fun pins s σ H Q I h => Call_ (ld_blt I hg hm boot_len (PyProof.Rows.callWith_builtin1 (PyProof.Rows.args_cons ?_ rfl) rfl rfl))⟩
  refine Call_ (ld_blt I hg2 hm2 boot_set (PyProof.Rows.callWith_type1 (PyProof.Rows.args_cons (thn (ha.run pins s σ H _ I h) fun v s1 ⟨x, H1, I1, r1, q1⟩ => PyProof.Rows.args_nil ?_) na) na rfl))
  obtain ⟨l, xs, rfl, hq, hN, hz, q1⟩ := q1
  cases r1
  have hb : xs.length + 1 < scanBound := by unfold scanBound; omega
  have fin : ∀ (h' : Heap) (tk : Nat), h'.SetOf (PySem.strKind X.prog X.w) s1.heap.objs.size (fun k => (xs.take xs.length).any (· == k)) xs.length → (∀ b o, b < s1.heap.objs.size → s1.heap.get? b = some o → h'.get? b = some o) →
      wpAny (model X.prog X.w) X.A (spliced (backTo pos (starEach [] X.env))) (fun vs s₂ => wpAny (model X.prog X.w) X.A (call (.builtin "len") (Value.ref s1.heap.objs.size :: vs)) (EP X pins σ Q) X.xe s₂) X.xe { s1 with heap := h', toks := tk } := fun h' tk hS hk => by
    obtain ⟨o, es, ep, t, ho, hex, hd, _, _, _, hf, hn⟩ := hS
    have I2 : Inv X pins σ H1 { s1 with heap := h', toks := tk } := I1.kept fun b o e => hk b o (Heap.lt_size e) e
    exact PyProof.Rows.args_nil (call_len_set ho hex hd hf (by rw [hn] <;> omega) ⟨.int xs.length, H1, I2.tok _, ⟨_, by rw [hn]⟩, q1⟩)
  rcases hq with hq | hq
  · obtain ⟨its, r, pl, _⟩ := I1.list hq
    exact set_of_list (I1.ok.hd hc) pl.isList (by simpa using strsAre_of r) hN hb fin
  · obtain ⟨its, r, pl, _⟩ := I1.tuple hq
    exact set_of_tuple (I1.ok.hd hc) pl (by simpa using strsAre_of r) hN hb fin
end
end HG

namespace HG
open PySem PySem.Spec PyProof.Rows L2
/-! ### the text -/
def topS (i : Nat) : Stmt := PySem.Challenge.pw_heightgames_k15_rows_walked.main.body.getD i (.Pass ⟨0, 0, 0, 0⟩)
abbrev s_wall : Stmt := topS 0
abbrev s_Wrong___init : Stmt := inClass (topS 3) 0
abbrev s_NoChooser___init : Stmt := inClass (topS 4) 0
abbrev s_NoStanding___init : Stmt := inClass (topS 5) 0
abbrev s_NoChange___init : Stmt := inClass (topS 6) 0
abbrev s_NoStep___init : Stmt := inClass (topS 7) 0
abbrev s_is_integer : Stmt := topS 13
abbrev s_is_name : Stmt := topS 14
abbrev s_are_names : Stmt := topS 15
abbrev s_is_shape : Stmt := topS 16
abbrev s_is_change : Stmt := topS 17
abbrev s_is_row : Stmt := topS 18
abbrev s_sorted_ways : Stmt := topS 20
abbrev s_standings_of : Stmt := topS 21
abbrev s_put : Stmt := topS 22
abbrev s_is_one_of : Stmt := topS 23
abbrev s_are_integers : Stmt := topS 24
abbrev s_is_table : Stmt := topS 25
abbrev s_led : Stmt := topS 27
abbrev s_walked : Stmt := topS 28
abbrev s_row_sum : Stmt := topS 29
abbrev s_is_ring : Stmt := topS 30
abbrev s_Game___init : Stmt := inClass (topS 32) 0
abbrev s_Game___eq : Stmt := inClass (topS 32) 1
abbrev s_Game___len : Stmt := inClass (topS 32) 2
abbrev s_Game___contains : Stmt := inClass (topS 32) 3
abbrev s_Game___iter : Stmt := inClass (topS 32) 4
abbrev s_Game_choosers : Stmt := inClass (topS 32) 5
abbrev s_Game_ways : Stmt := inClass (topS 32) 6
abbrev s_Game_shape : Stmt := inClass (topS 32) 7
abbrev s_Game_standings : Stmt := inClass (topS 32) 8
abbrev s_Game_gain : Stmt := inClass (topS 32) 9
abbrev s_Game_gains : Stmt := inClass (topS 32) 10
abbrev s_Game_goal : Stmt := inClass (topS 32) 11
abbrev s_Game_own : Stmt := inClass (topS 32) 12
abbrev s_Game_changes : Stmt := inClass (topS 32) 13
abbrev s_Game_with_gains : Stmt := inClass (topS 32) 14
abbrev s_Game_plus : Stmt := inClass (topS 32) 15
abbrev s_Game_times : Stmt := inClass (topS 32) 16
abbrev s_Game_with_extra : Stmt := inClass (topS 32) 17
abbrev s_Game_kept : Stmt := inClass (topS 32) 18
abbrev s_Game_has_chooser : Stmt := inClass (topS 32) 19
abbrev s_Game_has_line : Stmt := inClass (topS 32) 20
abbrev s_Game_can_do : Stmt := inClass (topS 32) 21
abbrev s_Game_can_keep : Stmt := inClass (topS 32) 22
abbrev s_Game_seat : Stmt := inClass (topS 32) 23
abbrev s_Game_check_chooser : Stmt := inClass (topS 32) 24
abbrev s_Game_check_standing : Stmt := inClass (topS 32) 25
abbrev s_law_bag : Stmt := topS 34
abbrev s_law_take : Stmt := topS 35
abbrev s_law_one : Stmt := topS 36
abbrev s_law_mixed : Stmt := topS 37
abbrev s_law_names : Stmt := topS 38
abbrev s_law_sizes : Stmt := topS 39
abbrev s_law_product : Stmt := topS 40
abbrev s_law_shape : Stmt := topS 41
abbrev s_law_wider : Stmt := topS 42
abbrev s_law_standings : Stmt := topS 43
abbrev s_law_number : Stmt := topS 44
abbrev s_law_gains : Stmt := topS 45
abbrev s_law_moved : Stmt := topS 46
abbrev s_law_can : Stmt := topS 47
abbrev s_law_changes : Stmt := topS 48
abbrev s_law_row : Stmt := topS 49
abbrev s_law_back : Stmt := topS 50
abbrev s_law_loose : Stmt := topS 51
abbrev s_law_due : Stmt := topS 52
abbrev s_law_tried : Stmt := topS 53
abbrev s_law_near : Stmt := topS 54
abbrev s_law_refused : Stmt := topS 55
abbrev s_law : Stmt := topS 56
end HG

namespace HG
open PySem PySem.Spec PyProof.Rows L2
open C8 (pss_cut tCut)
/-! ### values of any kind, as isinstance sees them -/
inductive Tg | non | bl | int | str | lst | tup | dct | ins
  deriving DecidableEq
def Tg.isa : Tg → String → Bool
  | .bl, T => T == "bool" || T == "int"
  | .int, T => T == "int"
  | .str, T => T == "str"
  | .lst, T => T == "list"
  | .tup, T => T == "tuple"
  | .dct, T => T == "dict"
  | _, _ => false
abbrev six : List String := ["str", "int", "bool", "list", "tuple", "dict"]
structure AnyV (K : PySem.W.Frag) (H : Hp) (x : V) (t : Tg) : Prop where
  ty : ∃ ty, TyX K H x ty ∧ ∀ T ∈ six, PySem.W.kitOne K ty (.type T) = some (t.isa T)
  st : t = .str → ∃ z, x = .str z ∧ z.length ≤ sizeLine
  ns : t ≠ .str → ∀ z, x ≠ .str z
theorem six_of {K : PySem.W.Frag} {ty : Value} {t : Tg} (h1 : PySem.W.kitOne K ty (.type "str") = some (t.isa "str")) (h2 : PySem.W.kitOne K ty (.type "int") = some (t.isa "int")) (h3 : PySem.W.kitOne K ty (.type "bool") = some (t.isa "bool"))
    (h4 : PySem.W.kitOne K ty (.type "list") = some (t.isa "list")) (h5 : PySem.W.kitOne K ty (.type "tuple") = some (t.isa "tuple")) (h6 : PySem.W.kitOne K ty (.type "dict") = some (t.isa "dict")) : ∀ T ∈ six, PySem.W.kitOne K ty (.type T) = some (t.isa T) := by
  intro T hT
  simp only [List.mem_cons, List.not_mem_nil, or_false] at hT
  rcases hT with rfl | rfl | rfl | rfl | rfl | rfl <;> assumption
theorem six_ty {K : PySem.W.Frag} {a : String} {t : Tg} (h : (six.all fun T => decide (kitB a T = some (t.isa T))) = true) : ∀ T ∈ six, PySem.W.kitOne K (.type a) (.type T) = some (t.isa T) := by
  intro T hT
  exact kit_ty (of_decide_eq_true (List.all_eq_true.mp h T hT))
section
variable {K : PySem.W.Frag} {H : Hp}
theorem AnyV.non : AnyV K H .non .non := ⟨⟨_, .base .non, six_ty (by decide +kernel)⟩, (fun z => nomatch z), (fun _ z e => nomatch e)⟩
theorem AnyV.bl (b : Bool) : AnyV K H (.bl b) .bl := ⟨⟨_, .base (.bl b), six_ty (by decide +kernel)⟩, (fun z => nomatch z), (fun _ z e => nomatch e)⟩
theorem AnyV.int (i : Int) : AnyV K H (.int i) .int := ⟨⟨_, .base (.int i), six_ty (by decide +kernel)⟩, (fun z => nomatch z), (fun _ z e => nomatch e)⟩
theorem AnyV.str (z : Str) (h : z.length ≤ sizeLine) : AnyV K H (.str z) .str := ⟨⟨_, .base (.str z), six_ty (by decide +kernel)⟩, fun _ => ⟨z, rfl, h⟩, fun n => (n rfl).elim⟩
theorem AnyV.lst {a : Addr} {xs : List V} (h : H a = some (.lst xs)) : AnyV K H (.ref a) .lst := ⟨⟨_, .base (.lst h), six_ty (by decide +kernel)⟩, (fun z => nomatch z), (fun _ z e => nomatch e)⟩
theorem AnyV.tup {a : Addr} {xs : List V} (h : H a = some (.tup xs)) : AnyV K H (.ref a) .tup := ⟨⟨_, .base (.tup h), six_ty (by decide +kernel)⟩, (fun z => nomatch z), (fun _ z e => nomatch e)⟩
theorem AnyV.dK {a : Addr} {xs : List (Key × V)} (h : H a = some (.dK xs)) : AnyV K H (.ref a) .dct := ⟨⟨_, .base (.dK h), six_ty (by decide +kernel)⟩, (fun z => nomatch z), (fun _ z e => nomatch e)⟩
theorem AnyV.dT {a : Addr} {xs : List (List Key × V)} (h : H a = some (.dT xs)) : AnyV K H (.ref a) .dct := ⟨⟨_, .base (.dT h), six_ty (by decide +kernel)⟩, (fun z => nomatch z), (fun _ z e => nomatch e)⟩
theorem AnyV.same {H' : Hp} {x : V} {t : Tg} (h : AnyV K H x t) (s : Same H H') : AnyV K H' x t := by
  obtain ⟨⟨ty, hty, q⟩, h1, h2⟩ := h
  refine ⟨⟨ty, ?_, q⟩, h1, h2⟩
  cases hty with
  | base b =>
    refine .base ?_
    cases b with
    | non => exact .non
    | bl z => exact .bl z
    | int z => exact .int z
    | str z => exact .str z
    | flt z => exact .flt z
    | lst e => exact .lst (s _ _ e)
    | frz e => exact .frz (s _ _ e)
    | tup e => exact .tup (s _ _ e)
    | dK e => exact .dK (s _ _ e)
    | dT e => exact .dT (s _ _ e)
    | ins e c a n t m => exact .ins (s _ _ e) c a n t m
  | byt b => exact .byt b
  | set e => exact .set (s _ _ e)
  | kList e c => exact .kList e c
  | kTuple e c => exact .kTuple e c
  | kDict e c => exact .kDict e c
  | fTuple e => exact .fTuple (s _ _ e)
  | fDict e => exact .fDict (s _ _ e)
end
/-- a list or a tuple, of these -/
inductive SeqV (K : PySem.W.Frag) (H : Hp) : V → List V → Prop
  | lst {a : Addr} {xs : List V} (h : SqL K H a xs) (t : AnyV K H (.ref a) .lst) : SeqV K H (.ref a) xs
  | tup {a : Addr} {xs : List V} (h : SqT K H a xs) (t : AnyV K H (.ref a) .tup) : SeqV K H (.ref a) xs
theorem same_sqt {K : PySem.W.Frag} {H H' : Hp} {a : Addr} {xs : List V} (e : Same H H') (h : SqT K H a xs) : SqT K H' a xs := by
  rcases h with (h | ⟨o, h⟩) | h
  · exact .inl (.inl (e _ _ h))
  · exact .inl (.inr ⟨o, e _ _ h⟩)
  · exact .inr h
theorem SeqV.same {K : PySem.W.Frag} {H H' : Hp} {x : V} {xs : List V} (h : SeqV K H x xs) (s : Same H H') : SeqV K H' x xs := by
  cases h with
  | lst h t => exact .lst (s.seq h) (t.same s)
  | tup h t => exact .tup (same_sqt s h) (t.same s)
/-- isinstance(x, (list, tuple)) -/
theorem kit_lt {K : PySem.W.Frag} {ty : Value} {t : Tg} (q : ∀ T ∈ six, PySem.W.kitOne K ty (.type T) = some (t.isa T)) : PySem.W.kitAny K ty [.type "list", .type "tuple"] = some (t.isa "list" || t.isa "tuple") := by
  have h1 := q "list" (by decide)
  have h2 := q "tuple" (by decide)
  unfold PySem.W.kitAny
  rw [h1]
  cases e : t.isa "list" with
  | true => rfl
  | false =>
    show PySem.W.kitAny K ty [.type "tuple"] = _
    unfold PySem.W.kitAny
    rw [h2]
    cases e2 : t.isa "tuple" <;> rfl
theorem kit_tl {K : PySem.W.Frag} {ty : Value} {t : Tg} (q : ∀ T ∈ six, PySem.W.kitOne K ty (.type T) = some (t.isa T)) : PySem.W.kitAny K ty [.type "tuple", .type "list"] = some (t.isa "tuple" || t.isa "list") := by
  have h1 := q "list" (by decide)
  have h2 := q "tuple" (by decide)
  unfold PySem.W.kitAny
  rw [h2]
  cases e : t.isa "tuple" with
  | true => rfl
  | false =>
    show PySem.W.kitAny K ty [.type "list"] = _
    unfold PySem.W.kitAny
    rw [h1]
    cases e2 : t.isa "list" <;> rfl
theorem pi_or {X : Cx} {tg iter : Expr} {w1 w2 : TI} (h1 : PI X tg iter w1) (h2 : PI X tg iter w2) : PI X tg iter (fun σ H R => w1 σ H R ∨ w2 σ H R) :=
  ⟨fun pins s σ H R I h => h.elim (fun q => h1.run pins s σ H R I q) (fun q => h2.run pins s σ H R I q)⟩
/-! ### kinds -/
def isNm (z : Str) : Bool := decide (z.length ≤ 8) && (Txt.isascii z && (Txt.isalpha z && Txt.islower z))
def nameV : V → Bool
  | .str z => isNm z
  | _ => false
theorem nameV_no {x : V} (h : ∀ z, x ≠ .str z) : nameV x = false := by
  cases x <;> first | rfl | exact absurd rfl (h _)
section
variable {X : Cx}
/-- isinstance(x, T), T one of the six; isinstance(x, (list, tuple)) -/
def rIsi6 (K : PySem.W.Frag) : List V → Hp → VK → Prop := fun xs H Q => ∃ (x : V) (t : Tg) (n : String), xs = [x, .ty n] ∧ AnyV K H x t ∧ n ∈ six ∧ Q (.bl (t.isa n)) H
theorem call_isi6 : CallR X (.builtin "isinstance") (rIsi6 X.K) := by
  intro pins s σ H xs us Q I r h
  obtain ⟨x, t, n, rfl, ⟨⟨ty, hty, k⟩, _, _⟩, hn, q⟩ := h
  exact call_isi pins s σ H _ us Q I r ⟨x, .ty n, ty, _, _, rfl, .ty n, hty, k n hn, q⟩
def rIsiLT (K : PySem.W.Frag) : List V → Hp → VK → Prop := fun xs H Q => ∃ (x : V) (t : Tg) (p : Addr) (a b : String), xs = [x, .ref p] ∧ H p = some (.tup [.ty a, .ty b]) ∧ (a = "list" ∧ b = "tuple" ∨ a = "tuple" ∧ b = "list") ∧ AnyV K H x t ∧ Q (.bl (t.isa "list" || t.isa "tuple")) H
theorem call_isiLT : CallR X (.builtin "isinstance") (rIsiLT X.K) := by
  intro pins s σ H xs us Q I r h
  obtain ⟨x, t, p, a, b, rfl, hp, hab, ⟨⟨ty, hty, k⟩, _, _⟩, q⟩ := h
  rcases hab with ⟨rfl, rfl⟩ | ⟨rfl, rfl⟩
  · exact call_isiT pins s σ H _ us Q I r ⟨x, p, _, ty, _, _, rfl, hp, .cons (.ty _) (.cons (.ty _) .nil), hty, kit_lt k, q⟩
  · rw [Bool.or_comm] at q
    exact call_isiT pins s σ H _ us Q I r ⟨x, p, _, ty, _, _, rfl, hp, .cons (.ty _) (.cons (.ty _) .nil), hty, kit_tl k, q⟩
end
def spIsName (K : PySem.W.Frag) : Sp := fun vs H Q _ => ∃ x t, vs = [x] ∧ AnyV K H x t ∧ Q (.bl (nameV x)) H
structure KT (K : PySem.W.Frag) (mg : Str → Option Value) : Prop where
  m_isinstance : mg "isinstance" = none
  m_len : mg "len" = none
  m_all : mg "all" = none
  m_set : mg "set" = none
  m_list : mg "list" = none
  m_tuple : mg "tuple" = none
  m_dict : mg "dict" = none
  m_str : mg "str" = none
  m_int : mg "int" = none
  m_bool : mg "bool" = none
  g_letters : ∃ t, mg "MOST_LETTERS" = some (.int 8 t)
  g_names : ∃ t, mg "MOST_NAMES" = some (.int 4 t)
  g_standings : ∃ t, mg "MOST_STANDINGS" = some (.int 81 t)
structure Df (K : PySem.W.Frag) (mg : Str → Option Value) (x : Str) (st : Stmt) (f : Addr) (fd : FuncData) : Prop where
  g : mg x = some (.ref f)
  F : Fun K x x st f fd
section
variable {P : Program} {w : World} {K : PySem.W.Frag} {mg : Str → Option Value} {base : Heap}
theorem ok_is_name {f : Addr} {fd : FuncData} (D : Df K mg "is_name" s_is_name f fd) (T : KT K mg) : FnOk P w K mg base CX0 1 f fd ["thing"] (spIsName K) := by
  have S : FnScope ["thing"] ["thing"] (defScope s_is_name) := ⟨rfl, rfl, rfl, by decide +kernel, rfl, by decide +kernel, by decide +kernel⟩
  refine D.F.ok S (fun vs H Q E h => ?_) (fun cdv A outer s H vs Q E hr h => ?_)
  · obtain ⟨x, t, rfl, _⟩ := h
    rfl
  · obtain ⟨x, t, rfl, hx, q⟩ := h
    obtain ⟨tk, gL⟩ := T.g_letters
    refine ⟨_, pss_cons (ps_if (PW.pt (pw_or (pt_not (pt_val (pe_callB call_isi6 (by rfl) T.m_isinstance (by decide +kernel) (pa_cons (pv 0) (pa_cons (pe_bltn (v := .ty "str") (by rfl) T.m_str (by decide +kernel) rfl) pa_nil)))))
        (pw_or1 (pt_cmpR op_gt (pe_callB call_len_str (by rfl) T.m_len PySem.boot_len (pa_cons (pv 0) pa_nil)) (pe_glob (v := .int 8) (by rfl) gL ⟨_, rfl⟩) (nomark _))))) (pss_one (ps_ret pe_bl)) pss_nil)
      (pss_one (ps_ret (pe_and (pe_m0 PySem.F.slot_str_isascii PySem.F.type_str_isascii mt_isascii (pv 0)) (pe_and (pe_m0 PySem.F.slot_str_isalpha PySem.F.type_str_isalpha mt_isalpha (pv 0)) (pe_one (pe_m0 PySem.F.slot_str_islower PySem.F.type_str_islower mt_islower (pv 0))))))), ?_⟩
    refine ⟨_, rfl, x, t, _, rfl, hx, by decide, _, rfl, ?_⟩
    by_cases ht : t = .str
    · subst ht
      obtain ⟨z, rfl, hz⟩ := hx.st rfl
      refine iteF ⟨_, rfl, z, rfl, hz, _, _, rfl, rfl, _, rfl, ite2 (fun h8 => ?_) (fun h8 => ?_)⟩
      · have h8' := of_decide_eq_true h8
        have e : nameV (.str z) = false := by
          show isNm z = false
          unfold isNm
          rw [decide_eq_false (by omega)]
          rfl
        rw [e] at q
        exact q
      · have h8' : ¬ (8 : Int) < z.length := fun z => h8 (decide_eq_true z)
        have e : nameV (.str z) = (Txt.isascii z && (Txt.isalpha z && Txt.islower z)) := by
          show isNm z = _
          unfold isNm
          rw [decide_eq_true (by omega)]
          rfl
        rw [e] at q
        refine ⟨_, rfl, ⟨_, rfl⟩, z, rfl, rfl, trivial, _, rfl, ?_⟩
        cases e1 : Txt.isascii z with
        | false =>
          rw [e1] at q
          exact q
        | true =>
          rw [e1] at q
          refine ⟨_, rfl, ⟨_, rfl⟩, z, rfl, rfl, trivial, _, rfl, ?_⟩
          cases e2 : Txt.isalpha z with
          | false =>
            rw [e2] at q
            exact q
          | true =>
            rw [e2] at q
            exact ⟨_, rfl, ⟨_, rfl⟩, z, rfl, rfl, trivial, q⟩
    · have hb : t.isa "str" = false := by cases t <;> first | rfl | exact absurd rfl ht
      rw [hb]
      refine iteT ?_
      rw [nameV_no (hx.ns ht)] at q
      exact q
end
end HG

namespace HG
open PySem PySem.Spec PyProof.Rows L2
open C8 (pss_cut tCut)
theorem same_upd {H : Hp} {p : Addr} {o : HO} (h : H p = none) : Same H (upd H p o) := fun b x e => by
  rw [upd_ne (ne_of_none e h)]
  exact e
def namesV (xs : List V) : Bool := (decide (1 ≤ xs.length) && decide (xs.length ≤ 4)) && xs.all nameV
def spAreNames (K : PySem.W.Frag) : Sp := fun vs H Q _ => ∃ x, vs = [x] ∧
  ((∃ xs, SeqV K H x xs ∧ (1 ≤ xs.length → xs.length ≤ 4 → ∀ y ∈ xs, ∃ t, AnyV K H y t) ∧ ∀ H', Same H H' → Q (.bl (namesV xs)) H') ∨
   (∃ t, AnyV K H x t ∧ t ≠ .lst ∧ t ≠ .tup ∧ ∀ H', Same H H' → Q (.bl false) H'))
section
variable {P : Program} {w : World} {K : PySem.W.Frag} {mg : Str → Option Value} {base : Heap}
theorem SeqV.any {H : Hp} {x : V} {xs : List V} (h : SeqV K H x xs) : ∃ t, AnyV K H x t ∧ (t.isa "list" || t.isa "tuple") = true := by
  cases h with
  | lst h t => exact ⟨_, t, rfl⟩
  | tup h t => exact ⟨_, t, rfl⟩
theorem SeqV.len {H : Hp} {x : V} {xs : List V} (h : SeqV K H x xs) : ∃ p, x = .ref p ∧ (SqL K H p xs ∨ SqT K H p xs) := by
  cases h with
  | lst h t => exact ⟨_, rfl, .inl h⟩
  | tup h t => exact ⟨_, rfl, .inr h⟩
theorem ok_are_names {f fN : Addr} {fd fdN : FuncData} (D : Df K mg "are_names" s_are_names f fd) (N : Df K mg "is_name" s_is_name fN fdN) (bN : Binds K fdN ["thing"] []) (T : KT K mg) : FnOk P w K mg base CX0 2 f fd ["thing"] (spAreNames K) := by
  have S : FnScope ["thing", "item"] ["thing"] (defScope s_are_names) := ⟨rfl, rfl, rfl, by decide +kernel, rfl, by decide +kernel, by decide +kernel⟩
  refine D.F.ok S (fun vs H Q E h => ?_) (fun cdv A outer s H vs Q E hr h => ?_)
  · obtain ⟨x, rfl, _⟩ := h
    rfl
  · obtain ⟨x, rfl, q⟩ := h
    have nd := S.nd
    obtain ⟨tk, gN⟩ := T.g_names
    refine ⟨_, pss_cons (ps_if (PW.pt (pw_or (pt_not (pt_val (pe_callB call_isiLT (by rfl) T.m_isinstance (by decide +kernel) (pa_cons (pv 0) (pa_cons (pe_tup (pa_cons (pe_bltn (v := .ty "list") (by rfl) T.m_list (by decide +kernel) rfl) (pa_cons (pe_bltn (v := .ty "tuple") (by rfl) T.m_tuple (by decide +kernel) rfl) pa_nil))) pa_nil)))))
        (pw_or1 (pt_not (pt_chain op_le op_le pe_int (pe_callB call_len_seq (by rfl) T.m_len PySem.boot_len (pa_cons (pv 0) pa_nil)) (pe_glob (v := .int 4) (by rfl) gN ⟨_, rfl⟩)))))) (pss_one (ps_ret pe_bl)) pss_nil)
      (pss_one (ps_ret (pe_callB (cr_all rfl) (by rfl) T.m_all (by decide +kernel) (pa_cons (pe_lc (own := [("item", 1)]) (g := gName 1) (tt := tYes) rfl nd (pi_or (pi_list (pv 0)) (pi_tup (pv 0))) (blkOk_by (N := ["thing", "item"]) (sc := defScope s_are_names) (by decide +kernel)) (fun _ _ _ _ _ => pg_name (i := 1) nd rfl (Or.inl rfl)) (fun _ _ _ _ _ => pts_nil)
        (fun _ _ _ _ _ => pe_call (ok_is_name N T) hr (by rfl) N.g N.F.kp bN .nil pass0 (pa_cons (pv 1) pa_nil))) pa_nil)))), ?_⟩
    rcases q with ⟨xs, hx, ha, q⟩ | ⟨t, ht, n1, n2, q⟩
    · obtain ⟨t, ht, hb⟩ := hx.any
      obtain ⟨p, rfl, hl⟩ := hx.len
      refine ⟨_, rfl, (by show 2 ≤ sizeLine; decide), fun pt npt => ?_⟩
      have st := same_upd (o := .tup [.ty "list", .ty "tuple"]) npt
      refine ⟨_, t, pt, _, _, rfl, upd_same, .inl ⟨rfl, rfl⟩, ht.same st, _, rfl, ?_⟩
      rw [hb]
      have hl' : SqL K (upd H pt (.tup [.ty "list", .ty "tuple"])) p xs ∨ SqT K (upd H pt (.tup [.ty "list", .ty "tuple"])) p xs := hl.imp st.seq (same_sqt st)
      refine iteF ⟨_, rfl, p, xs, rfl, hl', _, _, rfl, rfl, _, rfl, ?_⟩
      refine ite2 (fun h1 => ?_) (fun h1 => ?_)
      · have h1' := of_decide_eq_true h1
        refine ⟨_, _, rfl, rfl, _, rfl, ite2 (fun h2 => ?_) (fun h2 => ?_)⟩
        · have z : ¬ (xs.length : Int) ≤ 4 := by simpa using h2
          have e : namesV xs = false := by
            unfold namesV
            rw [decide_eq_false (show ¬ xs.length ≤ 4 by omega)]
            simp
          rw [e] at q
          exact q _ st
        · have z : (xs.length : Int) ≤ 4 := by simpa using h2
          have e : namesV xs = (xs.map nameV).all id := by
            unfold namesV
            rw [decide_eq_true (show xs.length ≤ 4 by omega), decide_eq_true (show 1 ≤ xs.length by omega), List.all_map]
            rfl
          rw [e] at q
          have hx' := hx.same st
          have ha' := fun y hy => let ⟨t, h⟩ := ha (by omega) (by omega) y hy; (⟨t, h.same st⟩ : ∃ t, AnyV K (upd H pt (.tup [.ty "list", .ty "tuple"])) y t)
          cases hx' with
          | lst hs _ =>
            refine .inl ⟨_, rfl, p, rfl, ⟨_, hs⟩, fun D hD => ?_⟩
            refine lc_list (K := K) (a := p) (xs := xs) (fun i H' => H' D = some (.lst (((xs.take i).map nameV).map V.bl)) ∧ Same (upd H pt (.tup [.ty "list", .ty "tuple"])) H') ⟨upd_same, same_upd hD⟩ (fun i H' _ ⟨_, sm⟩ => sm.seq hs) ?_ ?_
            · rintro i y H' hi ⟨hz, sm⟩
              obtain ⟨hlt, ey⟩ := List.getElem?_eq_some_iff.mp hi
              obtain ⟨t', hy⟩ := ha' y (ey ▸ List.getElem_mem hlt)
              refine ⟨rfl, _, rfl, y, t', rfl, hy.same sm, _, hz, small1000 (by rw [List.length_map, List.length_map, List.length_take]; omega), ?_, fun b o e => ?_⟩
              · rw [upd_same, List.take_add_one, hi, List.map_append, List.map_append]
                rfl
              · rw [upd_ne (ne_of_none e hD)]
                exact sm _ _ e
            · rintro H' ⟨hz, sm⟩
              rw [List.take_length] at hz
              exact ⟨D, _, rfl, SqL.of hz, q _ (st.trans sm)⟩
          | tup hs _ =>
            refine .inr ⟨_, rfl, p, rfl, ⟨_, hs⟩, fun D hD => ?_⟩
            refine lc_tup (K := K) (a := p) (xs := xs) (fun i H' => H' D = some (.lst (((xs.take i).map nameV).map V.bl)) ∧ Same (upd H pt (.tup [.ty "list", .ty "tuple"])) H') ⟨upd_same, same_upd hD⟩ (fun i H' _ ⟨_, sm⟩ => same_sqt sm hs) ?_ ?_
            · rintro i y H' hi ⟨hz, sm⟩
              obtain ⟨hlt, ey⟩ := List.getElem?_eq_some_iff.mp hi
              obtain ⟨t', hy⟩ := ha' y (ey ▸ List.getElem_mem hlt)
              refine ⟨rfl, _, rfl, y, t', rfl, hy.same sm, _, hz, small1000 (by rw [List.length_map, List.length_map, List.length_take]; omega), ?_, fun b o e => ?_⟩
              · rw [upd_same, List.take_add_one, hi, List.map_append, List.map_append]
                rfl
              · rw [upd_ne (ne_of_none e hD)]
                exact sm _ _ e
            · rintro H' ⟨hz, sm⟩
              rw [List.take_length] at hz
              exact ⟨D, _, rfl, SqL.of hz, q _ (st.trans sm)⟩
      · have z : ¬ 1 ≤ (xs.length : Int) := fun z => h1 (decide_eq_true z)
        have e : namesV xs = false := by
          unfold namesV
          rw [decide_eq_false (show ¬ 1 ≤ xs.length by omega)]
          rfl
        rw [e] at q
        exact ⟨_, rfl, iteT (q _ st)⟩
    · have hb : (t.isa "list" || t.isa "tuple") = false := by cases t <;> first | rfl | exact absurd rfl n1 | exact absurd rfl n2
      refine ⟨_, rfl, (by show 2 ≤ sizeLine; decide), fun pt npt => ?_⟩
      have st := same_upd (o := .tup [.ty "list", .ty "tuple"]) npt
      refine ⟨_, t, pt, _, _, rfl, upd_same, .inl ⟨rfl, rfl⟩, ht.same st, _, rfl, ?_⟩
      rw [hb]
      exact iteT (q _ st)
/-! ### integers -/
def intV : V → Bool
  | .int _ => true
  | _ => false
def spIsInt (K : PySem.W.Frag) : Sp := fun vs H Q _ => ∃ x t, vs = [x] ∧ AnyV K H x t ∧ Q (.bl (t.isa "int" && !t.isa "bool")) H
theorem ok_is_integer {f : Addr} {fd : FuncData} (D : Df K mg "is_integer" s_is_integer f fd) (T : KT K mg) : FnOk P w K mg base CX0 1 f fd ["thing"] (spIsInt K) := by
  have S : FnScope ["thing"] ["thing"] (defScope s_is_integer) := ⟨rfl, rfl, rfl, by decide +kernel, rfl, by decide +kernel, by decide +kernel⟩
  refine D.F.ok S (fun vs H Q E h => ?_) (fun cdv A outer s H vs Q E hr h => ?_)
  · obtain ⟨x, t, rfl, _⟩ := h
    rfl
  · obtain ⟨x, t, rfl, hx, q⟩ := h
    refine ⟨_, pss_one (ps_ret (pe_and (pe_callB call_isi6 (by rfl) T.m_isinstance (by decide +kernel) (pa_cons (pv 0) (pa_cons (pe_bltn (v := .ty "int") (by rfl) T.m_int (by decide +kernel) rfl) pa_nil)))
      (pe_one (pe_not (pe_callB call_isi6 (by rfl) T.m_isinstance (by decide +kernel) (pa_cons (pv 0) (pa_cons (pe_bltn (v := .ty "bool") (by rfl) T.m_bool (by decide +kernel) rfl) pa_nil))))))), ?_⟩
    refine ⟨_, rfl, x, t, _, rfl, hx, by decide, _, rfl, ?_⟩
    cases e : t.isa "int" with
    | false =>
      rw [e] at q
      exact q
    | true =>
      rw [e] at q
      exact ⟨_, rfl, x, t, _, rfl, hx, by decide, _, rfl, q⟩
end
end HG

namespace HG
open PySem PySem.Spec PyProof.Rows L2
open C8 (pss_cut tCut)
/-! ### tuples, by what stands behind -/
section
variable {X : Cx}
def rCatB : R2 := fun x y H Q => ∃ a b xs ys, x = .ref a ∧ y = .ref b ∧ H a = some (.tup xs) ∧ H b = some (.tup ys) ∧ xs.length + ys.length ≤ 1000 ∧ ∀ H' p, Same H H' → H' p = some (.tup (xs ++ ys)) → Q (.ref p) H'
theorem op_catB : OpR X (binaryOp .Add) rCatB := by
  intro pins s σ H x y v u Q I rx ry h
  obtain ⟨a, b, xs, ys, rfl, rfl, ha, hb, hz, q⟩ := h
  refine op_catA pins s σ H _ _ v u Q I rx ry ⟨a, b, xs, ys, rfl, rfl, SqT.of ha, SqT.of hb, Nat.le_of_lt (small1000 hz), fun e => ?_, fun _ e => ?_, fun _ _ p hp => ?_⟩
  · subst e
    exact q H b (Same.refl H) hb
  · subst e
    rw [List.append_nil] at q
    exact q H a (Same.refl H) ha
  · exact q _ p (same_upd hp) upd_same
def rSlB : V → Option Int → Option Int → Hp → VK → Prop := fun x lo hi H Q => ∃ a xs, x = .ref a ∧ H a = some (.tup xs) ∧ ∀ H' p, Same H H' → H' p = some (.tup (cutV xs lo hi)) → Q (.ref p) H'
theorem sl_tupB : SlR X rSlB := by
  intro pins s σ H x v vl vu lo hi sl Q I rx hs pl pu h
  obtain ⟨a, xs, rfl, ha, q⟩ := h
  refine sl_tupA pins s σ H _ v vl vu lo hi sl Q I rx hs pl pu ⟨a, xs, rfl, SqT.of ha, fun ⟨e1, e2⟩ => ?_, fun _ p hp => q _ p (same_upd hp) upd_same⟩
  refine q H a (Same.refl H) ?_
  unfold cutV
  rw [e1, e2, List.drop_zero, Nat.sub_zero, List.take_length]
  exact ha
theorem cut_to (xs : List V) (j : Nat) : cutV xs none (some (j : Int)) = xs.take j := by
  unfold cutV
  rw [show HT.sIx xs.length 0 none = 0 from rfl, HT.sIx_nat, List.drop_zero, Nat.sub_zero]
  by_cases h : j ≤ xs.length
  · rw [Nat.min_eq_left h]
  · rw [Nat.min_eq_right (by omega), List.take_of_length_le (Nat.le_refl _), List.take_of_length_le (by omega)]
theorem cut_from (xs : List V) (j : Nat) : cutV xs (some (j : Int)) none = xs.drop j := by
  unfold cutV
  rw [show HT.sIx xs.length xs.length none = xs.length from rfl, HT.sIx_nat]
  by_cases h : j ≤ xs.length
  · rw [Nat.min_eq_left h, List.take_of_length_le (by rw [List.length_drop]; omega)]
  · rw [Nat.min_eq_right (by omega), Nat.sub_self, List.take_zero, List.drop_eq_nil_of_le (by omega)]
end
def spPut : Sp := fun vs H Q _ => ∃ (p : Addr) (j : Nat) (x : V) (xs : List V), vs = [.ref p, .int (j : Int), x] ∧ H p = some (.tup xs) ∧ j < xs.length ∧ xs.length ≤ 100 ∧ ∀ H' q, Same H H' → H' q = some (.tup (xs.set j x)) → Q (.ref q) H'
def spAreInts (K : PySem.W.Frag) : Sp := fun vs H Q _ => ∃ x n, vs = [x, .int n] ∧
  ((∃ xs, SeqV K H x xs ∧ xs.length < sizeLine ∧ (∀ y ∈ xs, ∃ t, AnyV K H y t ∧ (t.isa "int" && !t.isa "bool") = intV y) ∧ ∀ H', Same H H' → Q (.bl (decide ((xs.length : Int) = n) && xs.all intV)) H') ∨
   (∃ t, AnyV K H x t ∧ t ≠ .lst ∧ t ≠ .tup ∧ ∀ H', Same H H' → Q (.bl false) H'))
/-- a tuple of names as a key -/
abbrev kS (st : List Str) : List Key := st.map Sum.inr
theorem kS_v (st : List Str) : (kS st).map kV = st.map V.str := by
  unfold kS
  rw [List.map_map]
  rfl
section
variable {P : Program} {w : World} {K : PySem.W.Frag} {mg : Str → Option Value} {base : Heap}
theorem ok_put {f : Addr} {fd : FuncData} (D : Df K mg "put" s_put f fd) : FnOk P w K mg base CX0 1 f fd ["items", "at", "item"] spPut := by
  have S : FnScope ["items", "at", "item"] ["items", "at", "item"] (defScope s_put) := ⟨rfl, rfl, rfl, by decide +kernel, rfl, by decide +kernel, by decide +kernel⟩
  refine D.F.ok S (fun vs H Q E h => ?_) (fun cdv A outer s H vs Q E hr h => ?_)
  · obtain ⟨p, j, x, xs, rfl, _⟩ := h
    rfl
  · obtain ⟨p, j, x, xs, rfl, hp, hj, hz, q⟩ := h
    refine ⟨_, pss_one (ps_ret (pe_op op_catB (pe_op op_catB (pe_slice sl_tupB (pv 0) po_none (po_some (pv 1))) (pe_tup (pa_cons (pv 2) pa_nil))) (pe_slice sl_tupB (pv 0) (po_some (pe_op op_add (pv 1) pe_int)) po_none))), ?_⟩
    refine ⟨_, rfl, .int j, rfl, (j : Int), rfl, p, xs, rfl, hp, fun H1 p1 s1 h1 => ?_⟩
    refine ⟨_, rfl, (by show 1 ≤ sizeLine; decide), fun p2 n2 => ?_⟩
    have s2 := same_upd (o := .tup [x]) n2
    rw [cut_to] at h1
    refine ⟨p1, p2, _, _, rfl, rfl, s2 _ _ h1, upd_same, (by rw [List.length_take]; show min j xs.length + 1 ≤ 1000; omega), fun H3 p3 s3 h3 => ?_⟩
    have hp3 := s3 _ _ (s2 _ _ (s1 _ _ hp))
    refine ⟨_, rfl, _, rfl, _, _, rfl, rfl, ((j + 1 : Nat) : Int), rfl, p, xs, rfl, hp3, fun H4 p4 s4 h4 => ?_⟩
    rw [cut_from] at h4
    refine ⟨p3, p4, _, _, rfl, rfl, s4 _ _ h3, h4, (by rw [List.length_append, List.length_take, List.length_drop]; show min j xs.length + 1 + (xs.length - (j + 1)) ≤ 1000; omega), fun H5 p5 s5 h5 => ?_⟩
    refine q H5 p5 (s1.trans (s2.trans (s3.trans (s4.trans s5)))) ?_
    rw [h5, List.set_eq_take_append_cons_drop, if_pos hj, List.append_assoc]
    rfl
theorem ok_are_integers {f fN : Addr} {fd fdN : FuncData} (D : Df K mg "are_integers" s_are_integers f fd) (N : Df K mg "is_integer" s_is_integer fN fdN) (bN : Binds K fdN ["thing"] []) (T : KT K mg) : FnOk P w K mg base CX0 2 f fd ["thing", "many"] (spAreInts K) := by
  have S : FnScope ["thing", "many", "item"] ["thing", "many"] (defScope s_are_integers) := ⟨rfl, rfl, rfl, by decide +kernel, rfl, by decide +kernel, by decide +kernel⟩
  refine D.F.ok S (fun vs H Q E h => ?_) (fun cdv A outer s H vs Q E hr h => ?_)
  · obtain ⟨x, n, rfl, _⟩ := h
    rfl
  · obtain ⟨x, n, rfl, q⟩ := h
    have nd := S.nd
    refine ⟨_, pss_cons (ps_if (PW.pt (pw_or (pt_not (pt_val (pe_callB call_isiLT (by rfl) T.m_isinstance (by decide +kernel) (pa_cons (pv 0) (pa_cons (pe_tup (pa_cons (pe_bltn (v := .ty "list") (by rfl) T.m_list (by decide +kernel) rfl) (pa_cons (pe_bltn (v := .ty "tuple") (by rfl) T.m_tuple (by decide +kernel) rfl) pa_nil))) pa_nil)))))
        (pw_or1 (pt_cmpR op_ne (pe_callB call_len_seq (by rfl) T.m_len PySem.boot_len (pa_cons (pv 0) pa_nil)) (pv 1) (nomark _))))) (pss_one (ps_ret pe_bl)) pss_nil)
      (pss_one (ps_ret (pe_callB (cr_all rfl) (by rfl) T.m_all (by decide +kernel) (pa_cons (pe_lc (own := [("item", 2)]) (g := gName 2) (tt := tYes) rfl nd (pi_or (pi_list (pv 0)) (pi_tup (pv 0))) (blkOk_by (N := ["thing", "many", "item"]) (sc := defScope s_are_integers) (by decide +kernel)) (fun _ _ _ _ _ => pg_name (i := 2) nd rfl (Or.inl rfl)) (fun _ _ _ _ _ => pts_nil)
        (fun _ _ _ _ _ => pe_call (ok_is_integer N T) (hr.mono (by decide)) (by rfl) N.g N.F.kp bN .nil pass0 (pa_cons (pv 2) pa_nil))) pa_nil)))), ?_⟩
    rcases q with ⟨xs, hx, hsz, ha, q⟩ | ⟨t, ht, n1, n2, q⟩
    · obtain ⟨t, ht, hb⟩ := hx.any
      obtain ⟨p, rfl, hl⟩ := hx.len
      refine ⟨_, rfl, (by show 2 ≤ sizeLine; decide), fun pt npt => ?_⟩
      have st := same_upd (o := .tup [.ty "list", .ty "tuple"]) npt
      refine ⟨_, t, pt, _, _, rfl, upd_same, .inl ⟨rfl, rfl⟩, ht.same st, _, rfl, ?_⟩
      rw [hb]
      have hl' : SqL K (upd H pt (.tup [.ty "list", .ty "tuple"])) p xs ∨ SqT K (upd H pt (.tup [.ty "list", .ty "tuple"])) p xs := hl.imp st.seq (same_sqt st)
      refine iteF ⟨_, rfl, p, xs, rfl, hl', _, rfl, rfl, _, rfl, ?_⟩
      by_cases hn : (xs.length : Int) = n
      · have e0 : (!decide (V.int (xs.length : Int) = V.int n)) = false := by rw [decide_eq_true (by rw [hn])]; rfl
        rw [e0]
        refine iteF ?_
        have e : (decide ((xs.length : Int) = n) && xs.all intV) = (xs.map intV).all id := by
          rw [decide_eq_true hn, List.all_map]
          rfl
        rw [e] at q
        have hx' := hx.same st
        have ha' := fun y hy => let ⟨t, h, e⟩ := ha y hy; (⟨t, h.same st, e⟩ : ∃ t, AnyV K (upd H pt (.tup [.ty "list", .ty "tuple"])) y t ∧ (t.isa "int" && !t.isa "bool") = intV y)
        cases hx' with
        | lst hs _ =>
          refine .inl ⟨_, rfl, p, rfl, ⟨_, hs⟩, fun D hD => ?_⟩
          refine lc_list (K := K) (a := p) (xs := xs) (fun i H' => H' D = some (.lst (((xs.take i).map intV).map V.bl)) ∧ Same (upd H pt (.tup [.ty "list", .ty "tuple"])) H') ⟨upd_same, same_upd hD⟩ (fun i H' _ ⟨_, sm⟩ => sm.seq hs) ?_ ?_
          · rintro i y H' hi ⟨hz, sm⟩
            obtain ⟨hlt, ey⟩ := List.getElem?_eq_some_iff.mp hi
            obtain ⟨t', hy, ei⟩ := ha' y (ey ▸ List.getElem_mem hlt)
            refine ⟨rfl, _, rfl, y, t', rfl, hy.same sm, _, hz, ?_, ?_, fun b o e => ?_⟩
            · rw [List.length_map, List.length_map, List.length_take]
              exact Nat.lt_of_le_of_lt (Nat.min_le_right _ _) hsz
            · rw [upd_same, List.take_add_one, hi, List.map_append, List.map_append, ei]
              rfl
            · rw [upd_ne (ne_of_none e hD)]
              exact sm _ _ e
          · rintro H' ⟨hz, sm⟩
            rw [List.take_length] at hz
            exact ⟨D, _, rfl, SqL.of hz, q _ (st.trans sm)⟩
        | tup hs _ =>
          refine .inr ⟨_, rfl, p, rfl, ⟨_, hs⟩, fun D hD => ?_⟩
          refine lc_tup (K := K) (a := p) (xs := xs) (fun i H' => H' D = some (.lst (((xs.take i).map intV).map V.bl)) ∧ Same (upd H pt (.tup [.ty "list", .ty "tuple"])) H') ⟨upd_same, same_upd hD⟩ (fun i H' _ ⟨_, sm⟩ => same_sqt sm hs) ?_ ?_
          · rintro i y H' hi ⟨hz, sm⟩
            obtain ⟨hlt, ey⟩ := List.getElem?_eq_some_iff.mp hi
            obtain ⟨t', hy, ei⟩ := ha' y (ey ▸ List.getElem_mem hlt)
            refine ⟨rfl, _, rfl, y, t', rfl, hy.same sm, _, hz, ?_, ?_, fun b o e => ?_⟩
            · rw [List.length_map, List.length_map, List.length_take]
              exact Nat.lt_of_le_of_lt (Nat.min_le_right _ _) hsz
            · rw [upd_same, List.take_add_one, hi, List.map_append, List.map_append, ei]
              rfl
            · rw [upd_ne (ne_of_none e hD)]
              exact sm _ _ e
          · rintro H' ⟨hz, sm⟩
            rw [List.take_length] at hz
            exact ⟨D, _, rfl, SqL.of hz, q _ (st.trans sm)⟩
      · have e0 : (!decide (V.int (xs.length : Int) = V.int n)) = true := by rw [decide_eq_false (fun z => hn (V.int.inj z))]; rfl
        rw [e0]
        rw [decide_eq_false hn] at q
        exact iteT (q _ st)
    · have hb : (t.isa "list" || t.isa "tuple") = false := by cases t <;> first | rfl | exact absurd rfl n1 | exact absurd rfl n2
      refine ⟨_, rfl, (by show 2 ≤ sizeLine; decide), fun pt npt => ?_⟩
      have st := same_upd (o := .tup [.ty "list", .ty "tuple"]) npt
      refine ⟨_, t, pt, _, _, rfl, upd_same, .inl ⟨rfl, rfl⟩, ht.same st, _, rfl, ?_⟩
      rw [hb]
      exact iteT (q _ st)
end
end HG

namespace HG
open PySem PySem.Spec PyProof.Rows L2
open C8 (pss_cut tCut)
/-! ### shapes as dicts -/
abbrev Way := Str × List Str
def WayAt (H : Hp) (v : V) (ws : List Str) : Prop := ∃ a, v = .ref a ∧ (H a = some (.lst (ws.map V.str)) ∨ H a = some (.tup (ws.map V.str)))
def KvW (H : Hp) (q : Way) (kv : Key × V) : Prop := kv.1 = Sum.inr q.1 ∧ WayAt H kv.2 q.2
def ShAt (H : Hp) (d : Addr) (W : List Way) : Prop := ∃ kvs, H d = some (.dK kvs) ∧ Paired (KvW H) W kvs
def wprod (W : List Way) : Int := W.foldl (fun m q => m * (q.2.length : Int)) 1
structure WOk (W : List Way) : Prop where
  nd : (W.map (·.1)).Nodup
  n1 : 1 ≤ W.length
  n4 : W.length ≤ 4
  nm : ∀ q ∈ W, isNm q.1 = true
  wd : ∀ q ∈ W, q.2.Nodup
  w1 : ∀ q ∈ W, 1 ≤ q.2.length
  w4 : ∀ q ∈ W, q.2.length ≤ 4
  wn : ∀ q ∈ W, ∀ z ∈ q.2, isNm z = true
  most : wprod W ≤ 81
theorem WayAt.same {H H' : Hp} {v : V} {ws : List Str} (h : WayAt H v ws) (s : Same H H') : WayAt H' v ws := by
  obtain ⟨a, e, h⟩ := h
  exact ⟨a, e, h.imp (s _ _) (s _ _)⟩
theorem paired_imp {α β : Type} {F G : α → β → Prop} {l : List α} {m : List β} (h : Paired F l m) (f : ∀ a b, F a b → G a b) : Paired G l m := Paired.mapP h f
theorem ShAt.same {H H' : Hp} {d : Addr} {W : List Way} (h : ShAt H d W) (s : Same H H') : ShAt H' d W := by
  obtain ⟨kvs, e, p⟩ := h
  exact ⟨kvs, s _ _ e, paired_imp p fun a b q => ⟨q.1, q.2.same s⟩⟩
theorem paired_keys {H : Hp} : ∀ {W : List Way} {kvs : List (Key × V)}, Paired (KvW H) W kvs → kvs.map (fun kv => kV kv.1) = (W.map (·.1)).map V.str
  | _, _, .nil => rfl
  | _, _, .cons r t => by
    rw [List.map_cons, List.map_cons, List.map_cons, paired_keys t, r.1]
    rfl
theorem paired_get {α β : Type} {F : α → β → Prop} : ∀ {l : List α} {m : List β} {i : Nat} {b : β}, Paired F l m → m[i]? = some b → ∃ a, l[i]? = some a ∧ F a b
  | _, _, _, _, .nil, e => by simp at e
  | _, _, 0, b, .cons r _, e => by
    simp at e
    subst e
    exact ⟨_, rfl, r⟩
  | _, _, i + 1, b, .cons _ t, e => by
    obtain ⟨a, h1, h2⟩ := paired_get (i := i) t (by simpa using e)
    exact ⟨a, by simpa using h1, h2⟩
theorem nm_any {K : PySem.W.Frag} {H : Hp} {z : Str} (h : isNm z = true) : AnyV K H (.str z) .str := by
  refine .str z ?_
  unfold isNm at h
  have h1 := of_decide_eq_true (Bool.and_eq_true_iff.mp h).1
  exact Nat.le_of_lt (small1000 (by omega))
theorem names_any {K : PySem.W.Frag} {H : Hp} {xs : List Str} (h : ∀ z ∈ xs, isNm z = true) : ∀ y ∈ xs.map V.str, ∃ t, AnyV K H y t := by
  intro y hy
  obtain ⟨z, hz, rfl⟩ := List.mem_map.mp hy
  exact ⟨_, nm_any (h z hz)⟩
theorem names_all {xs : List Str} (h : ∀ z ∈ xs, isNm z = true) : (xs.map V.str).all nameV = true := by
  rw [List.all_eq_true]
  intro y hy
  obtain ⟨z, hz, rfl⟩ := List.mem_map.mp hy
  exact h z hz
theorem namesV_yes {xs : List Str} (h : ∀ z ∈ xs, isNm z = true) (h1 : 1 ≤ xs.length) (h4 : xs.length ≤ 4) : namesV (xs.map V.str) = true := by
  unfold namesV
  rw [names_all h, List.length_map, decide_eq_true h1, decide_eq_true h4]
  rfl
theorem WayAt.seq {K : PySem.W.Frag} {H : Hp} {v : V} {ws : List Str} (h : WayAt H v ws) : SeqV K H v (ws.map V.str) := by
  obtain ⟨a, rfl, h | h⟩ := h
  · exact .lst (SqL.of h) (.lst h)
  · exact .tup (SqT.of h) (.tup h)
theorem WayAt.sq {K : PySem.W.Frag} {H : Hp} {v : V} {ws : List Str} (h : WayAt H v ws) : ∃ a, v = .ref a ∧ (SqL K H a (ws.map V.str) ∨ SqT K H a (ws.map V.str)) := by
  obtain ⟨a, rfl, h | h⟩ := h
  · exact ⟨a, rfl, .inl (SqL.of h)⟩
  · exact ⟨a, rfl, .inr (SqT.of h)⟩
/-- the dict is locked: what else was there stands -/
theorem WayAt.lock {H : Hp} {v : V} {ws : List Str} {d : Addr} {kvs : List (Key × V)} {o : HO} (h : WayAt H v ws) (hd : H d = some (.dK kvs)) : WayAt (upd H d o) v ws := by
  obtain ⟨a, e, h⟩ := h
  refine ⟨a, e, h.imp (fun h => ?_) (fun h => ?_)⟩
  · rw [upd_ne (ne_of h hd (by intro z; cases z))]
    exact h
  · rw [upd_ne (ne_of h hd (by intro z; cases z))]
    exact h
theorem unlock {H H' : Hp} {d : Addr} {u o : HO} (hd : H d = some u) (s : Same (upd H d o) H') : Same H (upd H' d u) := fun b x e => by
  by_cases hb : b = d
  · subst hb
    rw [upd_same]
    exact hd.symm.trans e
  · rw [upd_ne hb]
    exact s b x (by rw [upd_ne hb]; exact e)
theorem wprod_more {W : List Way} {i : Nat} {q : Way} (h : W[i]? = some q) : wprod (W.take (i + 1)) = wprod (W.take i) * (q.2.length : Int) := by
  unfold wprod
  rw [List.take_add_one, h, List.foldl_append]
  rfl
def spIsShape : Sp := fun vs H Q _ => ∃ d W, vs = [.ref d] ∧ ShAt H d W ∧ WOk W ∧ ∀ H', Same H H' → Q (.bl true) H'
section
variable {P : Program} {w : World} {K : PySem.W.Frag} {mg : Str → Option Value} {base : Heap}
theorem ok_is_shape {f fA fN : Addr} {fd fdA fdN : FuncData} (D : Df K mg "is_shape" s_is_shape f fd) (A : Df K mg "are_names" s_are_names fA fdA) (bA : Binds K fdA ["thing"] []) (N : Df K mg "is_name" s_is_name fN fdN) (bN : Binds K fdN ["thing"] []) (T : KT K mg) :
    FnOk P w K mg base CX0 3 f fd ["thing"] spIsShape := by
  have S : FnScope ["thing", "many", "ways"] ["thing"] (defScope s_is_shape) := ⟨rfl, rfl, rfl, by decide +kernel, rfl, by decide +kernel, by decide +kernel⟩
  refine D.F.ok S (fun vs H Q E h => ?_) (fun cdv Ar outer s H vs Q E hr h => ?_)
  · obtain ⟨d, W, rfl, _⟩ := h
    rfl
  · obtain ⟨d, W, rfl, ⟨kvs, hd, hp⟩, ok, q⟩ := h
    have nd := S.nd
    obtain ⟨tk, gS⟩ := T.g_standings
    have G := ok_are_names (P := P) (w := w) (base := base) A N bN T
    refine ⟨_, pss_cons (ps_if (PW.pt (pw_or (pt_not (pt_val (pe_callB call_isi6 (by rfl) T.m_isinstance (by decide +kernel) (pa_cons (pv 0) (pa_cons (pe_bltn (v := .ty "dict") (by rfl) T.m_dict (by decide +kernel) rfl) pa_nil)))))
        (pw_or1 (pt_not (pt_val (pe_call G hr (by rfl) A.g A.F.kp bA .nil pass0 (pa_cons (pe_callTy (call_listD rfl) (by rfl) T.m_list (by decide +kernel) (pa_cons (pv 0) pa_nil)) pa_nil))))))) (pss_one (ps_ret pe_bl)) pss_nil)
      (pss_cons (ps_set (i := 1) nd rfl (Or.inl rfl) pe_int)
      (pss_cons (ps_lock (ps_for PassesOwn.never rfl (pi_values (pv 0)) (pg_name (i := 2) nd rfl (Or.inl rfl))
        (pss_cons (ps_if (PW.pt (pw_or (pt_not (pt_val (pe_call G hr (by rfl) A.g A.F.kp bA .nil pass0 (pa_cons (pv 2) pa_nil))))
            (pw_or1 (pt_cmpR op_lt (pe_lenTexts rfl (by rfl) T.m_len (by rfl) T.m_set (pv 2)) (pe_callB call_len_seq (by rfl) T.m_len PySem.boot_len (pa_cons (pv 2) pa_nil)) (nomark _))))) (pss_one (ps_ret pe_bl)) pss_nil)
        (pss_one (ps_set (i := 1) nd rfl (Or.inl rfl) (pe_op op_mul (pv 1) (pe_callB call_len_seq (by rfl) T.m_len PySem.boot_len (pa_cons (pv 2) pa_nil))))))))
      (pss_one (ps_ret (pe_cmpR op_le (pv 1) (pe_glob (v := .int 81) (by rfl) gS ⟨_, rfl⟩) (nomark _)))))), ?_⟩
    refine ⟨_, rfl, _, _, _, rfl, AnyV.dK hd, by decide, _, rfl, iteF ?_⟩
    refine ⟨_, rfl, d, kvs, rfl, .inl hd, fun p np => ?_⟩
    rw [paired_keys hp]
    have s1 := same_upd (o := .lst ((W.map (·.1)).map V.str)) np
    have hnm : ∀ z ∈ W.map (·.1), isNm z = true := fun z hz => by
      obtain ⟨q, hq, rfl⟩ := List.mem_map.mp hz
      exact ok.nm q hq
    refine ⟨.ref p, rfl, .inl ⟨_, .lst (SqL.of upd_same) (.lst upd_same), fun _ _ => names_any hnm, fun H1 s2 => ?_⟩⟩
    rw [namesV_yes hnm (by rw [List.length_map]; exact ok.n1) (by rw [List.length_map]; exact ok.n4)]
    refine ⟨_, rfl, iteF ?_⟩
    have hd1 := s2 _ _ (s1 _ _ hd)
    have hp1 := paired_imp hp fun a b (q : KvW H a b) => (⟨q.1, q.2.same (s1.trans s2)⟩ : KvW H1 a b)
    have hlen : W.length = kvs.length := Paired.length hp
    refine ⟨d, .dK kvs, hd1, trivial, fun od => ?_⟩
    refine ⟨_, rfl, d, od, kvs, rfl, upd_same, for_it walk_values (fun i σ H' => ∃ v2, σ = [some (.ref d), some (.int (wprod (W.take i))), v2] ∧ Same (upd H1 d (.frz od (.dK kvs))) H') ⟨none, rfl, Same.refl _⟩ (fun i σ H' _ ⟨_, _, sm⟩ => sm _ _ upd_same) ?_ ?_⟩
    · rintro i x σ H' H'' hi ⟨v2, rfl, sm⟩ ⟨rfl, k, hk⟩
      obtain ⟨qw, hq, _, hx⟩ := paired_get hp1 hk
      have hm : qw ∈ W := List.mem_of_getElem? hq
      have hx' : WayAt H'' x qw.2 := (hx.lock hd1).same sm
      refine ⟨_, rfl, x, rfl, .inl ⟨_, hx'.seq, fun _ _ => names_any (ok.wn qw hm), fun H3 s3 => ?_⟩⟩
      rw [namesV_yes (ok.wn qw hm) (ok.w1 qw hm) (ok.w4 qw hm)]
      refine ⟨_, rfl, iteF ?_⟩
      obtain ⟨a, rfl, ha⟩ := (hx'.same s3).sq (K := K)
      have l4 := ok.w4 qw hm
      refine ⟨_, rfl, a, qw.2, rfl, ha, ok.wd qw hm, by omega, _, rfl, a, _, rfl, ha, _, _, rfl, rfl, _, rfl, ?_⟩
      rw [List.length_map]
      refine ite2 (fun z => absurd (of_decide_eq_true z) (Int.lt_irrefl _)) (fun _ => ?_)
      refine ⟨_, rfl, _, rfl, a, _, rfl, ha, _, _, rfl, rfl, .inr ⟨by omega, by rw [List.length_map]; omega⟩, ?_⟩
      rw [List.length_map]
      exact ⟨_, by rw [wprod_more hq]; rfl, sm.trans s3⟩
    · rintro σ H' ⟨v2, rfl, sm⟩
      refine ⟨sm _ _ upd_same, ?_⟩
      rw [← hlen, List.take_length]
      refine ⟨_, rfl, _, _, rfl, rfl, ?_⟩
      have e : decide (wprod W ≤ 81) = true := decide_eq_true ok.most
      have q1 := q _ (s1.trans (s2.trans (unlock hd1 sm)))
      rw [← e] at q1
      exact q1
end
end HG

namespace HG
open PySem PySem.Spec PyProof.Rows L2
/-! ### texts in order -/
abbrev leS (a b : Str) : Prop := a.cps.toList ≤ b.cps.toList
theorem ext_cps {a b : Str} (h : a.cps.toList = b.cps.toList) : a = b := by
  cases a
  cases b
  simp only [Array.toList_inj] at h
  rw [h]
theorem rising_pw : ∀ (l : List Str) (p : Str), risingS p l = true → (∀ x ∈ l, leS p x) ∧ l.Pairwise leS
  | [], _, _ => ⟨(fun _ h => nomatch h), List.Pairwise.nil⟩
  | x :: r, p, h => by
    have h' : (!ltCps x.cps.toList p.cps.toList && risingS x r) = true := h
    obtain ⟨h1, h2⟩ := Bool.and_eq_true_iff.mp h'
    have hp : leS p x := by
      rw [ltCps_eq] at h1
      have : ¬ x.cps.toList < p.cps.toList := by simpa using h1
      exact List.not_lt.mp this
    obtain ⟨a, b⟩ := rising_pw r x h2
    refine ⟨fun y hy => ?_, .cons a b⟩
    rcases List.mem_cons.mp hy with rfl | hy
    · exact hp
    · exact List.le_trans hp (a y hy)
theorem sorted_pw {l : List Str} (h : sortedS l = true) : l.Pairwise leS := by
  cases l with
  | nil => exact .nil
  | cons x r =>
    obtain ⟨a, b⟩ := rising_pw r x h
    exact .cons a b
def srt (l : List Str) : List Str := l.mergeSort fun a b => decide (leS a b)
theorem srt_perm (l : List Str) : (srt l).Perm l := List.mergeSort_perm _ _
theorem srt_pw (l : List Str) : (srt l).Pairwise leS := by
  have := List.pairwise_mergeSort (le := fun a b : Str => decide (leS a b)) (fun a b c h1 h2 => decide_eq_true (List.le_trans (of_decide_eq_true h1) (of_decide_eq_true h2)))
    (fun a b => by
      rcases List.le_total a.cps.toList b.cps.toList with h | h
      · simp [leS, h]
      · simp [leS, h]) l
  exact this.imp fun h => of_decide_eq_true h
theorem srt_uniq {l ys : List Str} (hp : ys.Perm l) (hs : sortedS ys = true) : ys = srt l :=
  List.Perm.eq_of_pairwise (le := leS) (fun a b _ _ h1 h2 => ext_cps (List.le_antisymm h1 h2)) (sorted_pw hs) (srt_pw l) (hp.trans (srt_perm l).symm)
theorem srt_len (l : List Str) : (srt l).length = l.length := (srt_perm l).length_eq
theorem srt_mem {l : List Str} {z : Str} : z ∈ srt l ↔ z ∈ l := (srt_perm l).mem_iff
theorem srt_nd {l : List Str} (h : l.Nodup) : (srt l).Nodup := (srt_perm l).nodup_iff.mpr h
theorem srt_of_perm {l m : List Str} (h : l.Perm m) : srt l = srt m :=
  List.Perm.eq_of_pairwise (le := leS) (fun a b _ _ h1 h2 => ext_cps (List.le_antisymm h1 h2)) (srt_pw l) (srt_pw m) ((srt_perm l).trans (h.trans (srt_perm m).symm))
end HG

namespace HG
open PySem PySem.Spec PyProof.Rows L2
open C8 (pss_cut tCut)
section
variable {X : Cx}
/-- sorted of a tuple of texts -/
theorem sort_tup : CallR X (.builtin "sorted") (fun vs H Q => ∃ (a : Addr) (xs : List Str), vs = [V.ref a] ∧ SqT X.K H a (xs.map V.str) ∧ xs.length < 64 ∧ ∀ (ys : List Str) (p : Addr), ys.Perm xs → sortedS ys = true → H p = none → Q (.ref p) (upd H p (.lst (ys.map V.str)))) := by
  intro pins s σ H vs us Q I r h
  obtain ⟨a, xs, rfl, hs, h64, q⟩ := h
  obtain ⟨its, rv, hl, _⟩ := I.tuple hs
  rw [Vals.ref1 r]
  have hS : StrsAre its xs := strsAre_of rv
  have hlen : its.length = xs.length := hS.len_eq
  obtain ⟨o, ho, hc, n, hd⟩ := id hl
  refine Calls.call_function_entry PyProof.Rows.kind_sorted PyProof.Rows.plain_sorted PyProof.Rows.entry_sorted (PyProof.Rows.args_sorted1 _) ?_
  unfold Builtin.«sorted»
  refine wpAny_bind (m := checkCount "sorted" 1 1 _) (wpAny_pure ?_)
  refine wpAny_bind (wpAny_collect_seq a (T := "tuple") (.inr rfl) ho hc hd (fun h' hk => ?_) (by rw [List.size_toArray, hlen, sizeLine_eq]; omega))
  have I1 : Inv X pins σ H { s with heap := h' } := I.kept (t' := s.toks) hk
  refine wpAny_bind (wpAny_newList ?_ (by rw [hlen, sizeLine_eq]; omega))
  have hoL : (h'.push (seqObj "list" its.toArray 0)).get? h'.objs.size = some (seqObj "list" its.toArray 0) := Heap.get?_push_size _ rfl
  show wpAny _ _ _ _ _ { s with heap := h'.push (seqObj "list" its.toArray 0) }
  refine wpAny_bind (wpAny_holding (wpAny_call_entry PyProof.Rows.slot_list_sort ⟨_, hoL, rfl⟩ PyProof.Rows.entry_list_sort
    (list_sort_treeK strKind_oneLt (s := { s with heap := h'.push (seqObj "list" its.toArray 0) }) hoL hS.keysOf (fun v₁ v₂ rest e => keyKind_strs (by rw [← e]; exact hS)) (by rw [hlen]; exact h64) fun st' hp hs => ⟨_, rfl, ?_⟩)
    (PyProof.Rows.args_list_sort _)))
  obtain ⟨ys, g1, g2, g3⟩ := sorted_out_str hS hp hs
  obtain ⟨e', he'⟩ := PyProof.Rows.sortedHeap_at (vs := its) (out := (arrOf st').map (·.2)) hoL
  have hle : (ys.map V.str).length ≤ sizeLine := by
    rw [List.length_map, g2.length_eq, sizeLine_eq]
    omega
  refine wpAny_pure ⟨_, rfl, .ref h'.objs.size, upd H h'.objs.size (.lst (ys.map V.str)), I1.laid (t' := s.toks) (fun b u e => ?_) (Nat.le_refl _)
    (show ObjOk X.prog X.w _ _ _ (.lst (ys.map V.str)) from ⟨hle, ((arrOf st').map (·.2)).toList, e', vals_of_strs g1, by rw [Array.toArray_toList]; exact he'⟩), rfl, q ys _ g2 g3 (I1.hok.fresh (Nat.le_refl _))⟩
  have hb : b < h'.objs.size := Heap.lt_size e
  rw [PyProof.Rows.sortedHeap_old (Nat.ne_of_lt hb) (by rw [size_push']; exact Nat.lt_succ_of_lt hb)]
  exact Heap.get?_push_of_some _ e
def rSrt (K : PySem.W.Frag) : List V → Hp → VK → Prop := fun vs H Q => ∃ (a : Addr) (xs : List Str), vs = [.ref a] ∧ (SqL K H a (xs.map V.str) ∨ SqT K H a (xs.map V.str)) ∧ xs.length < 64 ∧ ∀ p, H p = none → Q (.ref p) (upd H p (.lst ((srt xs).map V.str)))
theorem call_srt : CallR X (.builtin "sorted") (rSrt X.K) := by
  intro pins s σ H vs us Q I r h
  obtain ⟨a, xs, rfl, hs | hs, h64, q⟩ := h
  · exact cr_sortedS pins s σ H _ us Q I r ⟨a, xs, rfl, hs, h64, fun ys p h1 h2 h3 => by rw [srt_uniq h1 h2]; exact q p h3⟩
  · exact sort_tup pins s σ H _ us Q I r ⟨a, xs, rfl, hs, h64, fun ys p h1 h2 h3 => by rw [srt_uniq h1 h2]; exact q p h3⟩
/-- sorted(d), the keys texts -/
def rSrtD : List V → Hp → VK → Prop := fun vs H Q => ∃ (a : Addr) (kvs : List (Key × V)) (ks : List Str), vs = [.ref a] ∧ H a = some (.dK kvs) ∧ kvs.map (·.1) = ks.map Sum.inr ∧ ks.length < 64 ∧ ∀ p, H p = none → Q (.ref p) (upd H p (.lst ((srt ks).map V.str)))
theorem call_srtD (hc : X.calm = true) : CallR X (.builtin "sorted") rSrtD := by
  intro pins s σ H vs us Q I r h
  obtain ⟨a, kvs, ks, rfl, hd, hk, h64, q⟩ := h
  exact call_sortedD hc pins s σ H _ us Q I r ⟨a, kvs, ks, rfl, .inl hd, hk, h64, fun ys p h1 h2 h3 => by rw [srt_uniq h1 h2]; exact q p h3⟩
end
/-! ### a shape's ways, sorted -/
def lookW (W : List Way) (k : Str) : List Str := ((W.find? fun q => decide (q.1 = k)).map (·.2)).getD []
def sh (W : List Way) : List Way := (srt (W.map (·.1))).map fun k => (k, srt (lookW W k))
theorem lookW_of {W : List Way} (hN : (W.map (·.1)).Nodup) {q : Way} (hq : q ∈ W) : lookW W q.1 = q.2 := by
  unfold lookW
  induction W with
  | nil => cases hq
  | cons a r ih =>
    rw [List.map_cons, List.nodup_cons] at hN
    rw [List.find?_cons]
    rcases List.mem_cons.mp hq with rfl | hq
    · rw [decide_eq_true rfl]
      rfl
    · have hne : ¬ a.1 = q.1 := fun e => hN.1 (List.mem_map.mpr ⟨q, hq, e.symm⟩)
      rw [decide_eq_false hne]
      exact ih hN.2 hq
theorem keysK {H : Hp} : ∀ {W : List Way} {kvs : List (Key × V)}, Paired (KvW H) W kvs → kvs.map (·.1) = (W.map (·.1)).map Sum.inr
  | _, _, .nil => rfl
  | _, _, .cons r t => by
    rw [List.map_cons, List.map_cons, List.map_cons, keysK t, r.1]
theorem valV_of {H : Hp} : ∀ {W : List Way} {kvs : List (Key × V)} {q : Way}, Paired (KvW H) W kvs → (W.map (·.1)).Nodup → q ∈ W → ∃ v, valV kvs (Sum.inr q.1) = some v ∧ WayAt H v q.2
  | _, _, _, .nil, _, h => nomatch h
  | a :: W, kv :: kvs, q, .cons r t, hN, h => by
    rw [List.map_cons, List.nodup_cons] at hN
    rcases List.mem_cons.mp h with rfl | h
    · exact ⟨kv.2, valV_pos r.1, r.2⟩
    · obtain ⟨v, h1, h2⟩ := valV_of t hN.2 h
      refine ⟨v, ?_, h2⟩
      rw [valV_neg (fun e => ?_)]
      · exact h1
      · have e2 : a.1 = q.1 := Sum.inr.inj (r.1.symm.trans e)
        exact hN.1 (List.mem_map.mpr ⟨q, h, e2.symm⟩)
theorem putK_new {κ : Type} [DecidableEq κ] {kvs : List (κ × V)} {k : κ} {v : V} (h : k ∉ kvs.map (·.1)) : putK kvs k v = kvs ++ [(k, v)] := by
  unfold putK
  rw [if_neg]
  intro z
  obtain ⟨x, hx, e⟩ := List.any_eq_true.mp z
  exact h (List.mem_map.mpr ⟨x, hx, of_decide_eq_true e⟩)
/-- lists alone, new where N says so -/
def KvL (N : Addr → Prop) (H : Hp) (q : Way) (kv : Key × V) : Prop := kv.1 = Sum.inr q.1 ∧ ∃ a, kv.2 = .ref a ∧ N a ∧ H a = some (.lst (q.2.map V.str))
def ShL (N : Addr → Prop) (H : Hp) (d : Addr) (S : List Way) : Prop := ∃ kvs, H d = some (.dK kvs) ∧ Paired (KvL N H) S kvs
theorem KvL.same {N : Addr → Prop} {H H' : Hp} {q : Way} {kv : Key × V} (h : KvL N H q kv) (s : Same H H') : KvL N H' q kv := by
  obtain ⟨e, a, ev, n, h⟩ := h
  exact ⟨e, a, ev, n, s _ _ h⟩
theorem KvL.at {N : Addr → Prop} {H : Hp} {q : Way} {kv : Key × V} (h : KvL N H q kv) : KvW H q kv := by
  obtain ⟨e, a, ev, n, h⟩ := h
  exact ⟨e, a, ev, .inl h⟩
theorem ShL.at {N : Addr → Prop} {H : Hp} {d : Addr} {S : List Way} (h : ShL N H d S) : ShAt H d S := by
  obtain ⟨kvs, e, p⟩ := h
  exact ⟨kvs, e, paired_imp p fun _ _ q => q.at⟩
theorem ShL.same {N : Addr → Prop} {H H' : Hp} {d : Addr} {S : List Way} (h : ShL N H d S) (s : Same H H') : ShL N H' d S := by
  obtain ⟨kvs, e, p⟩ := h
  exact ⟨kvs, s _ _ e, paired_imp p fun _ _ q => q.same s⟩
theorem paired_append {α β : Type} {F : α → β → Prop} : ∀ {l : List α} {m : List β} {l' : List α} {m' : List β}, Paired F l m → Paired F l' m' → Paired F (l ++ l') (m ++ m')
  | _, _, _, _, .nil, h => h
  | _, _, _, _, .cons r t, h => .cons r (paired_append t h)
theorem keysL {N : Addr → Prop} {H : Hp} {S : List Way} {kvs : List (Key × V)} (h : Paired (KvL N H) S kvs) : kvs.map (·.1) = (S.map (·.1)).map Sum.inr := keysK (paired_imp h fun _ _ q => q.at)
def spSorted : Sp := fun vs H Q _ => ∃ d W, vs = [.ref d] ∧ ShAt H d W ∧ (W.map (·.1)).Nodup ∧ W.length < 64 ∧ (∀ q ∈ W, q.2.length < 64) ∧ ∀ H' p, Same H H' → H p = none → ShL (fun a => H a = none) H' p (sh W) → Q (.ref p) H'
section
variable {P : Program} {w : World} {K : PySem.W.Frag} {mg : Str → Option Value} {base : Heap}
theorem ok_sorted_ways {f : Addr} {fd : FuncData} (D : Df K mg "sorted_ways" s_sorted_ways f fd) (ms : mg "sorted" = none) : FnOk P w K mg base CX0 1 f fd ["ways"] spSorted := by
  have S : FnScope ["ways", "chooser"] ["ways"] (defScope s_sorted_ways) := ⟨rfl, rfl, rfl, by decide +kernel, rfl, by decide +kernel, by decide +kernel⟩
  refine D.F.ok S (fun vs H Q E h => ?_) (fun cdv Ar outer s H vs Q E hr h => ?_)
  · obtain ⟨d, W, rfl, _⟩ := h
    rfl
  · obtain ⟨d, W, rfl, ⟨kvs, hd, hp⟩, hN, h64, hw, q⟩ := h
    have nd := S.nd
    have hu := hu_of hr
    refine ⟨_, pss_one (ps_ret (pe_dc (own := [("chooser", 1)]) (g := gName 1) (tt := tYes) rfl nd (pi_list (pe_callB (call_srtD rfl) (by rfl) ms (by decide +kernel) (pa_cons (pv 0) pa_nil))) (blkOk_by (N := ["ways", "chooser"]) (sc := defScope s_sorted_ways) (by decide +kernel)) (fun _ _ _ _ _ => pg_name (i := 1) nd rfl (Or.inl rfl)) (fun _ _ _ _ _ => pts_nil)
      (fun _ _ _ _ _ => pv 1) (fun _ _ _ _ _ => pe_callB (id := "sorted") (r := rSrt K) call_srt (by rfl) ms (by decide +kernel) (pa_cons (pe_dget hu (pv 0) (pv 1) (fun _ _ => rfl)) pa_nil)))), ?_⟩
    refine ⟨_, rfl, d, kvs, W.map (·.1), rfl, hd, keysK hp, (by rw [List.length_map]; exact h64), fun p np => ?_⟩
    have s1 := same_upd (o := .lst ((srt (W.map (·.1))).map V.str)) np
    refine ⟨p, rfl, ⟨_, SqL.of upd_same⟩, fun D nD => ?_⟩
    refine ⟨fun i m H' => m = (sh W).length - i ∧ i ≤ (sh W).length ∧ (∃ ks, H' D = some (.dK ks) ∧ Paired (KvL (fun a => H a = none) H') ((sh W).take i) ks) ∧ Same (upd H p (.lst ((srt (W.map (·.1))).map V.str))) H', ⟨_, rfl, Nat.zero_le _, ⟨[], upd_same, .nil⟩, same_upd nD⟩, ?_⟩
    rintro i m H1 ⟨rfl, hi, ⟨ks, hD, hks⟩, sm⟩
    have sl : (sh W).length = (srt (W.map (·.1))).length := List.length_map ..
    by_cases hlt : i < (sh W).length
    · have hlt2 : i < (srt (W.map (·.1))).length := by omega
      have hx : ((srt (W.map (·.1))).map V.str)[i]? = some (.str (srt (W.map (·.1)))[i]) := by rw [List.getElem?_map, List.getElem?_eq_getElem hlt2]; rfl
      refine .inr ⟨⟨_, _, SqL.of (sm _ _ upd_same), hx⟩, fun H' => (∃ ks, H' D = some (.dK ks) ∧ Paired (KvL (fun a => H a = none) H') ((sh W).take (i + 1)) ks) ∧ Same (upd H p (.lst ((srt (W.map (·.1))).map V.str))) H', fun H' hN' => ⟨_, Nat.sub_lt_sub_left hlt (Nat.lt_succ_self i), rfl, hlt, hN'⟩, fun x H' y => ?_⟩
      obtain ⟨rfl, y⟩ := y
      have ex : x = .str (srt (W.map (·.1)))[i] := Option.some.inj ((y _ (SqL.of (sm _ _ upd_same))).symm.trans hx)
      subst ex
      obtain ⟨qw, hqw, ek⟩ := List.mem_map.mp (srt_mem.mp (List.getElem_mem hlt2))
      have e0 : (sh W)[i]? = some (qw.1, srt qw.2) := by
        unfold sh
        rw [List.getElem?_map, List.getElem?_eq_getElem hlt2, ← ek]
        show some (qw.1, srt (lookW W qw.1)) = _
        rw [lookW_of hN hqw]
      have hd1 := sm _ _ (s1 _ _ hd)
      have hp1 := paired_imp hp fun a b (q : KvW H a b) => (⟨q.1, q.2.same (s1.trans sm)⟩ : KvW H' a b)
      obtain ⟨v, hv, hw1⟩ := valV_of hp1 hN hqw
      obtain ⟨a, rfl, ha⟩ := hw1.sq (K := K)
      have hg : DGet H' d (.str (srt (W.map (·.1)))[i]) (some (.ref a)) := by
        rw [← ek, ← hv]
        exact DGet.k (k := Sum.inr qw.1) hd1
      refine ⟨rfl, _, rfl, _, rfl, _, rfl, d, _, rfl, hg, a, qw.2, rfl, ha, hw qw hqw, fun a2 n2 => ?_⟩
      have s2 := same_upd (o := .lst ((srt qw.2).map V.str)) n2
      have hD2 := s2 _ _ hD
      have hks2 := paired_imp hks fun a b (q : KvL (fun a => H a = none) H' a b) => q.same s2
      have hlk : ks.length = i := by
        rw [← Paired.length hks, List.length_take]
        omega
      have hnew : Sum.inr qw.1 ∉ ks.map (·.1) := by
        rw [keysL hks]
        intro z
        obtain ⟨y, hy, e⟩ := List.mem_map.mp z
        have ey : y = qw.1 := Sum.inr.inj e
        rw [List.map_take, show (sh W).map (·.1) = srt (W.map (·.1)) by unfold sh; rw [List.map_map]; exact List.map_id _] at hy
        obtain ⟨j, hj, ej⟩ := List.getElem_of_mem hy
        rw [List.length_take] at hj
        rw [List.getElem_take] at ej
        have := (List.getElem_inj (srt_nd hN)).mp (ej.trans (ey.trans ek))
        omega
      refine ⟨ks, Sum.inr qw.1, (by rw [← ek]; rfl), hD2, small1000 (by rw [hlk]; have := srt_len (W.map (·.1)); rw [List.length_map] at this; omega), ⟨_, upd_same, ?_⟩, fun b o e => ?_⟩
      · rw [putK_new hnew, List.take_add_one, e0]
        have up : ∀ (a : Way) (b : Key × V), KvL (fun a => H a = none) (upd H' a2 (.lst ((srt qw.2).map V.str))) a b → KvL (fun a => H a = none) (upd (upd H' a2 (.lst ((srt qw.2).map V.str))) D (.dK (ks ++ [(Sum.inr qw.1, .ref a2)]))) a b := fun a b ⟨e, c, ev, n, h⟩ => ⟨e, c, ev, n, by
          rw [upd_ne (ne_of h hD2 (by intro z; cases z))]
          exact h⟩
        refine paired_append (paired_imp hks2 up) (.cons (up _ _ ⟨rfl, a2, rfl, (s1.trans sm).free n2, upd_same⟩) .nil)
      · rw [upd_ne (ne_of_none e nD)]
        exact s2 _ _ (sm _ _ e)
    · have ei : i = (sh W).length := by omega
      subst ei
      refine .inl ⟨⟨_, SqL.of (sm _ _ upd_same), by rw [List.length_map, sl]; exact Nat.le_refl _⟩, q H1 D (s1.trans sm) (s1.free nD) ⟨ks, hD, by rw [List.take_length] at hks; exact hks⟩⟩
end
end HG

namespace HG
open PySem PySem.Spec PyProof.Rows L2
open C8 (pss_cut tCut)
/-- one clause of a comprehension, by its own walk -/
theorem walk_run {J : It} {n : Nat} {G : Hp → Prop} {Y : Nat → Hp → V → Hp → Prop} (w : Walk J n G Y) {H0 : Hp} {Qd : Hp → Prop} {B : V → Hp → (Hp → Prop) → Prop} (Pv : Nat → Hp → Prop) (h0 : Pv 0 H0) (hG : ∀ i H, i ≤ n → Pv i H → G H)
    (hs : ∀ i x H H', i < n → Pv i H → Y i H x H' → B x H' (Pv (i + 1))) (hd : ∀ H, Pv n H → Qd H) :
    ∃ W : Nat → Nat → Hp → Prop, (∃ m, W 0 m H0) ∧ ∀ i m H, W i m H →
      (J.stop i H ∧ Qd H) ∨ (J.go i H ∧ ∃ Nx : Hp → Prop, (∀ H', Nx H' → ∃ m', m' < m ∧ W (i + 1) m' H') ∧ ∀ x H', J.yld i H x H' → B x H' Nx) := by
  refine ⟨fun i m H => m = n - i ∧ i ≤ n ∧ Pv i H, ⟨n, by simp, Nat.zero_le _, h0⟩, ?_⟩
  rintro i m H ⟨rfl, hi, p⟩
  have q := hG i H hi p
  by_cases hlt : i < n
  · refine .inr ⟨w.goes i H hlt q, Pv (i + 1), fun H' p' => ⟨n - (i + 1), by omega, rfl, hlt, p'⟩, fun x H' y => hs i x H H' hlt p (w.yields i H x H' hlt q y)⟩
  · have e : i = n := by omega
    subst e
    exact .inl ⟨w.stops H q, hd H p⟩
/-- tuples of texts -/
def TupsAt (H : Hp) (sts : List (List Str)) (vs : List V) : Prop := Paired (fun st v => ∃ a, v = .ref a ∧ H a = some (.tup (st.map V.str))) sts vs
theorem TupsAt.same {H H' : Hp} {sts : List (List Str)} {vs : List V} (h : TupsAt H sts vs) (s : Same H H') : TupsAt H' sts vs := paired_imp h fun _ _ ⟨a, e, h⟩ => ⟨a, e, s _ _ h⟩
/-- a list changed: tuples stand -/
theorem TupsAt.upd {H : Hp} {sts : List (List Str)} {vs : List V} {D : Addr} {xs : List V} {o : HO} (h : TupsAt H sts vs) (hD : H D = some (.lst xs)) : TupsAt (upd H D o) sts vs := paired_imp h fun _ _ ⟨a, e, h⟩ => ⟨a, e, by
  rw [upd_ne (ne_of h hD (by intro z; cases z))]
  exact h⟩
def mul1 (sts : List (List Str)) (ws : List Str) : List (List Str) := sts.flatMap fun st => ws.map fun w => st ++ [w]
def stds (S : List Way) : List (List Str) := S.foldl (fun sts q => mul1 sts q.2) [[]]
theorem mul1_len (sts : List (List Str)) (ws : List Str) : (mul1 sts ws).length = sts.length * ws.length := by
  unfold mul1
  induction sts with
  | nil => simp
  | cons a r ih => rw [List.flatMap_cons, List.length_append, ih, List.length_map, List.length_cons, Nat.succ_mul, Nat.add_comm]
theorem mul1_more {sts : List (List Str)} {ws : List Str} {i : Nat} {st : List Str} (h : sts[i]? = some st) : mul1 (sts.take (i + 1)) ws = mul1 (sts.take i) ws ++ ws.map fun w => st ++ [w] := by
  unfold mul1
  rw [List.take_add_one, h, List.flatMap_append]
  simp
theorem stds_more {S : List Way} {i : Nat} {q : Way} (h : S[i]? = some q) : stds (S.take (i + 1)) = mul1 (stds (S.take i)) q.2 := by
  unfold stds
  rw [List.take_add_one, h, List.foldl_append]
  rfl
theorem stds_mem {S : List Way} {st : List Str} (h : st ∈ stds S) : st.length = S.length := by
  have key : ∀ (S : List Way) (sts : List (List Str)) (n : Nat), (∀ x ∈ sts, x.length = n) → ∀ x ∈ S.foldl (fun sts q => mul1 sts q.2) sts, x.length = n + S.length := by
    intro S
    induction S with
    | nil => exact fun sts n h x hx => h x hx
    | cons q r ih =>
      intro sts n h x hx
      have := ih (mul1 sts q.2) (n + 1) (fun y hy => by
        obtain ⟨z, hz, hy⟩ := List.mem_flatMap.mp hy
        obtain ⟨w, _, rfl⟩ := List.mem_map.mp hy
        rw [List.length_append, h z hz]
        rfl) x hx
      rw [this, List.length_cons]
      omega
  have := key S [[]] 0 (fun x hx => by rw [List.mem_singleton.mp hx]; rfl) st h
  omega
def spStds : Sp := fun vs H Q _ => ∃ d S N, vs = [.ref d] ∧ ShL N H d S ∧ (∀ i, i ≤ S.length → (stds (S.take i)).length ≤ 256) ∧ (∀ q ∈ S, q.2.length ≤ 4) ∧ S.length ≤ 4 ∧
  ∀ H' p vs, Same H H' → H p = none → H' p = some (.lst vs) → TupsAt H' (stds S) vs → Q (.ref p) H'
section
variable {P : Program} {w : World} {K : PySem.W.Frag} {mg : Str → Option Value} {base : Heap}
/-- (x,) behind a tuple, by what stands behind: new where not empty -/
theorem mul1_bound {sts : List (List Str)} {ws : List Str} {i j : Nat} (hi : i < sts.length) (hj : j < ws.length) : (mul1 (sts.take i) ws).length + j < sts.length * ws.length := by
  rw [mul1_len, List.length_take, Nat.min_eq_left (Nat.le_of_lt hi)]
  calc i * ws.length + j < i * ws.length + ws.length := by omega
    _ = (i + 1) * ws.length := by rw [Nat.succ_mul]
    _ ≤ sts.length * ws.length := Nat.mul_le_mul_right _ hi
theorem ok_standings_of {f : Addr} {fd : FuncData} (D : Df K mg "standings_of" s_standings_of f fd) : FnOk P w K mg base CX0 1 f fd ["way_lists"] spStds := by
  have S : FnScope ["way_lists", "standings", "ways", "standing", "way"] ["way_lists"] (defScope s_standings_of) := ⟨rfl, rfl, rfl, by decide +kernel, rfl, by decide +kernel, by decide +kernel⟩
  refine D.F.ok S (fun vs H Q E h => ?_) (fun cdv Ar outer s H vs Q E hr h => ?_)
  · obtain ⟨d, W, N, rfl, _⟩ := h
    rfl
  · obtain ⟨d, W, N, rfl, ⟨kvs, hd, hp⟩, hB, h4, hl4, q⟩ := h
    have nd := S.nd
    refine ⟨_, pss_cons (ps_set (i := 1) nd rfl (Or.inl rfl) (pe_lst (pa_cons (pe_tup pa_nil) pa_nil)))
      (pss_cons (ps_lock (ps_for PassesOwn.never rfl (pi_values (pv 0)) (pg_name (i := 2) nd rfl (Or.inr rfl))
        (pss_one (ps_setLc2 (i := 1) (own := [("standing", 3), ("way", 4)]) (vs1 := [4]) (g := gName 3) (g1 := gName 4) (tt := tYes) (tt1 := tYes) (wi1 := iList K (tVar 2)) rfl nd rfl rfl (sw_true rfl rfl rfl (by decide +kernel)) (pi_list (pv 1)) (blkOk_by (N := ["way_lists", "standings", "ways", "standing", "way"]) (sc := defScope s_standings_of) (by decide +kernel)) (by decide)
          (fun _ _ _ _ _ => pg_name (i := 3) nd rfl (Or.inl rfl)) (fun _ _ _ _ _ => pts_nil) (fun _ _ _ _ _ => pi_list (pv 2)) (fun _ _ _ _ _ => pg_name (i := 4) nd rfl (Or.inl rfl)) (fun _ _ _ _ _ => pts_nil)
          (fun _ _ _ _ _ => pe_op op_catB (pv 3) (pe_tup (pa_cons (pv 4) pa_nil)))))))
      (pss_one (ps_ret (pv 1)))), ?_⟩
    refine ⟨(by show 0 ≤ sizeLine; decide), fun p0 n0 => ?_⟩
    have s0 := same_upd (o := .tup []) n0
    refine ⟨(by show 1 ≤ sizeLine; decide), fun p1 n1 => ?_⟩
    have s1 := same_upd (o := .lst [V.ref p0]) n1
    have s01 := s0.trans s1
    have hd1 := s01 _ _ hd
    have hp1 := paired_imp hp fun a b (q : KvL N H a b) => q.same s01
    have hlen : W.length = kvs.length := Paired.length hp
    refine ⟨d, .dK kvs, hd1, trivial, fun od => ?_⟩
    generalize hHL : upd (upd (upd H p0 (.tup [])) p1 (.lst [V.ref p0])) d (.frz od (.dK kvs)) = HL
    have hL1 : HL p1 = some (.lst [V.ref p0]) := by
      subst hHL
      rw [upd_ne (fun z => by subst z; rw [upd_same] at hd1; cases hd1)]
      exact upd_same
    have hLs : ∀ {v : V} {a : Addr} {xs : List V}, v = .ref a → (upd (upd H p0 (.tup [])) p1 (.lst [V.ref p0])) a = some (.lst xs) → HL a = some (.lst xs) := fun {v a xs} _ e => by
      subst hHL
      rw [upd_ne (ne_of e hd1 (by intro z; cases z))]
      exact e
    refine ⟨_, rfl, d, od, kvs, rfl, (by subst hHL; exact upd_same), for_it walk_values (fun i σ H' => ∃ p vs v2 v3 v4, σ = [some (.ref d), some (.ref p), v2, v3, v4] ∧ H p = none ∧ H' p = some (.lst vs) ∧ TupsAt H' (stds (W.take i)) vs ∧ Same HL H') ⟨p1, [.ref p0], none, none, none, rfl, s0.free n1, hL1, .cons ⟨p0, rfl, (by
      subst hHL
      rw [upd_ne (ne_of (s1 _ _ upd_same) hd1 (by intro z; cases z))]
      exact s1 _ _ upd_same)⟩ .nil, Same.refl _⟩ (fun i σ H' _ ⟨_, _, _, _, _, _, _, _, _, sm⟩ => sm _ _ (by subst hHL; exact upd_same)) ?_ ?_⟩
    · rintro i x σ H' H'' hi ⟨pp, vs, v2, v3, v4, rfl, np, hvs, ht, sm⟩ ⟨rfl, k, hk⟩
      obtain ⟨qw, hq, ek, a, rfl, na, ha⟩ := paired_get hp1 hk
      have hm : qw ∈ W := List.mem_of_getElem? hq
      have ha' : H'' a = some (.lst (qw.2.map V.str)) := sm _ _ (hLs rfl ha)
      have hsl : (stds (W.take i)).length = vs.length := Paired.length ht
      have hb : (stds (W.take (i + 1))).length ≤ 256 := hB (i + 1) (by omega)
      rw [stds_more hq, mul1_len] at hb
      refine ⟨_, rfl, pp, rfl, ⟨_, SqL.of hvs⟩, fun D hD => ?_⟩
      have sD := same_upd (o := .lst []) hD
      refine walk_run (walk_list (K := K) (a := pp) (xs := vs)) (fun j H3 => ∃ ws, H3 D = some (.lst ws) ∧ TupsAt H3 (mul1 ((stds (W.take i)).take j) qw.2) ws ∧ Same H'' H3) ⟨[], upd_same, .nil, sD⟩ (fun j H3 _ ⟨_, _, _, s3⟩ => SqL.of (s3 _ _ hvs)) ?_ ?_
      · rintro j x H3 H3' hj ⟨ws, hD3, ht3, s3⟩ ⟨rfl, hx⟩
        obtain ⟨st, hst, c, rfl, hc⟩ := paired_get ht hx
        have hc3 := s3 _ _ hc
        refine ⟨rfl, _, rfl, a, rfl, ⟨_, SqL.of (s3 _ _ ha')⟩, walk_run (walk_list (K := K) (a := a) (xs := qw.2.map V.str)) (fun k H4 => ∃ ws, H4 D = some (.lst ws) ∧ TupsAt H4 (mul1 ((stds (W.take i)).take j) qw.2 ++ (qw.2.take k).map fun w => st ++ [w]) ws ∧ Same H'' H4) ⟨ws, hD3, by simpa using ht3, s3⟩ (fun k H4 _ ⟨_, _, _, s4⟩ => SqL.of (s4 _ _ ha')) ?_ ?_⟩
        · rintro k x H4 H4' hk4 ⟨ws4, hD4, ht4, s4⟩ ⟨rfl, hx4⟩
          rw [List.length_map] at hk4
          have ex : x = .str (qw.2[k]) := by
            rw [List.getElem?_map, List.getElem?_eq_getElem hk4] at hx4
            exact (Option.some.inj hx4).symm
          subst ex
          have hstl : st.length ≤ 100 := by
            rw [stds_mem (List.mem_of_getElem? hst), List.length_take]
            omega
          refine ⟨rfl, _, rfl, _, rfl, (by show 1 ≤ sizeLine; decide), fun p5 n5 => ?_⟩
          have s5 := same_upd (o := .tup [V.str (qw.2[k])]) n5
          refine ⟨c, p5, _, _, rfl, rfl, s5 _ _ (s4 _ _ hc), upd_same, (by rw [List.length_map]; show st.length + 1 ≤ 1000; omega), fun H6 p6 s6 h6 => ?_⟩
          have hD6 := s6 _ _ (s5 _ _ hD4)
          have ht6 := (ht4.same (s5.trans s6)).upd (o := .lst (ws4 ++ [.ref p6])) hD6
          refine ⟨ws4, hD6, small1000 ?_, _, upd_same, ?_, fun b o e => ?_⟩
          · rw [← Paired.length ht4, List.length_append, List.length_map, List.length_take, Nat.min_eq_left (Nat.le_of_lt hk4)]
            have := mul1_bound (sts := stds (W.take i)) (ws := qw.2) (by omega : j < _) hk4
            omega
          · rw [List.take_add_one, List.getElem?_eq_getElem hk4, List.map_append, ← List.append_assoc]
            refine paired_append ht6 (.cons ⟨p6, rfl, ?_⟩ .nil)
            rw [upd_ne (ne_of h6 hD6 (by intro z; cases z)), h6, List.map_append]
            rfl
          · rw [upd_ne (ne_of_none e hD)]
            exact s6 _ _ (s5 _ _ (s4 _ _ e))
        · rintro H4 ⟨ws4, hD4, ht4, s4⟩
          rw [List.length_map, List.take_length] at ht4
          exact ⟨ws4, hD4, by rw [mul1_more hst]; exact ht4, s4⟩
      · rintro H3 ⟨ws, hD3, ht3, s3⟩
        rw [← hsl, List.take_length] at ht3
        refine ⟨D, ws, _, _, _, rfl, ?_, hD3, by rw [stds_more hq]; exact ht3, sm.trans s3⟩
        have hd' : H'' d = some (.frz od (.dK kvs)) := sm _ _ (by subst hHL; exact upd_same)
        subst hHL
        exact (s01.trans (unlock hd1 sm)).free (by rw [upd_ne (fun z => by rw [z, hd'] at hD; cases hD)]; exact hD)
    · rintro σ H' ⟨p, vs, v2, v3, v4, rfl, np, hvs, ht, sm⟩
      refine ⟨sm _ _ (by subst hHL; exact upd_same), ?_⟩
      rw [← hlen, List.take_length] at ht
      refine ⟨_, rfl, q _ p vs ?_ np ?_ ?_⟩
      · subst hHL
        exact s01.trans (unlock hd1 sm)
      · rw [upd_ne (fun z => by rw [z] at np; rw [hd] at np; cases np)]
        exact hvs
      · refine paired_imp ht fun _ _ ⟨a, e, h⟩ => ⟨a, e, ?_⟩
        rw [upd_ne (ne_of h (sm _ _ (by subst hHL; exact upd_same)) (by intro z; cases z))]
        exact h
end
end HG

namespace HG
open PySem PySem.Spec PyProof.Rows L2
open C8 (pss_cut tCut)
/-- whether a value is a key, as a tuple of texts -/
def textsV : List V → Option (List Key)
  | [] => some []
  | .str z :: r => (textsV r).map (Sum.inr z :: ·)
  | _ :: _ => none
theorem textsV_names : ∀ {xs : List V}, xs.all nameV = true → ∃ st : List Str, xs = st.map V.str ∧ (∀ z ∈ st, isNm z = true)
  | [], _ => ⟨[], rfl, fun _ h => nomatch h⟩
  | x :: r, h => by
    rw [List.all_cons, Bool.and_eq_true] at h
    obtain ⟨st, e, hn⟩ := textsV_names h.2
    cases x with
    | str z => exact ⟨z :: st, by rw [e]; rfl, fun y hy => by
        rcases List.mem_cons.mp hy with rfl | hy
        · exact h.1
        · exact hn y hy⟩
    | _ => exact absurd h.1 (by intro z; cases z)
/-- whether x is a key of kvs, all texts -/
def oneOf (kvs : List (List Key × V)) (xs : List V) : Bool := xs.all nameV && kvs.any fun kv => decide (kv.1.map kV = xs)
theorem kV_inj : ∀ {a b : Key}, kV a = kV b → a = b
  | .inl a, .inl b, h => by rw [V.int.inj h]
  | .inr a, .inr b, h => by rw [V.str.inj h]
  | .inl _, .inr _, h => nomatch h
  | .inr _, .inl _, h => nomatch h
theorem kVs_inj : ∀ {a b : List Key}, a.map kV = b.map kV → a = b
  | [], [], _ => rfl
  | _ :: _, _ :: _, h => by
    rw [List.map_cons, List.map_cons, List.cons.injEq] at h
    rw [kV_inj h.1, kVs_inj h.2]
  | [], _ :: _, h => nomatch h
  | _ :: _, [], h => nomatch h
theorem oneOf_key (kvs : List (List Key × V)) (st : List Str) (h : ∀ z ∈ st, isNm z = true) : oneOf kvs (st.map V.str) = (valV kvs (kS st)).isSome := by
  unfold oneOf
  rw [names_all h, ← valV_any, Bool.true_and, ← kS_v]
  congr 1
  funext kv
  by_cases e : kv.1 = kS st
  · rw [e, decide_eq_true rfl, decide_eq_true rfl]
  · rw [decide_eq_false e, decide_eq_false fun z => e (kVs_inj z)]
def spOneOf (K : PySem.W.Frag) : Sp := fun vs H Q _ => ∃ x d kvs, vs = [x, .ref d] ∧ H d = some (.dT kvs) ∧
  ((∃ a xs, x = .ref a ∧ H a = some (.tup xs) ∧ xs.length ≤ 10000 ∧ (∀ y ∈ xs, ∃ t, AnyV K H y t) ∧ ∀ H', Same H H' → Q (.bl (oneOf kvs xs)) H') ∨ (∃ t, AnyV K H x t ∧ t ≠ .tup ∧ Q (.bl false) H))
def CellOk (K : PySem.W.Frag) (H : Hp) (o : Option V) (n : Int) (b : Bool) : Prop := (o = none ∧ b = false) ∨ ∃ v, o = some v ∧
  ((∃ xs, SeqV K H v xs ∧ xs.length < sizeLine ∧ (∀ y ∈ xs, ∃ t, AnyV K H y t ∧ (t.isa "int" && !t.isa "bool") = intV y) ∧ b = (decide ((xs.length : Int) = n) && xs.all intV)) ∨ (∃ t, AnyV K H v t ∧ t ≠ .lst ∧ t ≠ .tup ∧ b = false))
theorem CellOk.same {K : PySem.W.Frag} {H H' : Hp} {o : Option V} {n : Int} {b : Bool} (h : CellOk K H o n b) (s : Same H H') : CellOk K H' o n b := by
  rcases h with h | ⟨v, e, ⟨xs, h, hz, ha, eb⟩ | ⟨t, h, n1, n2, eb⟩⟩
  · exact .inl h
  · exact .inr ⟨v, e, .inl ⟨xs, h.same s, hz, (fun y hy => let ⟨t, q, e⟩ := ha y hy; ⟨t, q.same s, e⟩), eb⟩⟩
  · exact .inr ⟨v, e, .inr ⟨t, h.same s, n1, n2, eb⟩⟩
def spIsTable (K : PySem.W.Frag) : Sp := fun args H Q _ => ∃ x p sts vs n, ∃ good : List Str → Bool, args = [x, .ref p, .int n] ∧ H p = some (.lst vs) ∧ TupsAt H sts vs ∧ sts.length ≤ 256 ∧
  ((∃ d kvs, x = .ref d ∧ H d = some (.dT kvs) ∧ (∀ st ∈ sts, CellOk K H (valV kvs (kS st)) n (good st)) ∧ ∀ H', Same H H' → Q (.bl (decide (kvs.length = sts.length) && sts.all good)) H') ∨
   (∃ t, AnyV K H x t ∧ t ≠ .dct ∧ ∀ H', Same H H' → Q (.bl false) H'))
theorem dim_dct {K : PySem.W.Frag} {H : Hp} {x : V} {t : Tg} (h : t ≠ .dct) : t.isa "dict" = false := by cases t <;> first | rfl | exact absurd rfl h
section
variable {P : Program} {w : World} {K : PySem.W.Frag} {mg : Str → Option Value} {base : Heap}
theorem ok_is_one_of {f fN : Addr} {fd fdN : FuncData} (D : Df K mg "is_one_of" s_is_one_of f fd) (N : Df K mg "is_name" s_is_name fN fdN) (bN : Binds K fdN ["thing"] []) (T : KT K mg) : FnOk P w K mg base CX0 2 f fd ["thing", "tuples"] (spOneOf K) := by
  have S : FnScope ["thing", "tuples", "item"] ["thing", "tuples"] (defScope s_is_one_of) := ⟨rfl, rfl, rfl, by decide +kernel, rfl, by decide +kernel, by decide +kernel⟩
  refine D.F.ok S (fun vs H Q E h => ?_) (fun cdv A outer s H vs Q E hr h => ?_)
  · obtain ⟨x, d, kvs, rfl, _⟩ := h
    rfl
  · obtain ⟨x, d, kvs, rfl, hd, q⟩ := h
    have nd := S.nd
    have hu := hu_of hr
    refine ⟨_, pss_one (ps_ret (pe_and (pe_callB call_isi6 (by rfl) T.m_isinstance (by decide +kernel) (pa_cons (pv 0) (pa_cons (pe_bltn (v := .ty "tuple") (by rfl) T.m_tuple (by decide +kernel) rfl) pa_nil)))
      (pe_and (pe_callB (cr_all rfl) (by rfl) T.m_all (by decide +kernel) (pa_cons (pe_lc (own := [("item", 2)]) (g := gName 2) (tt := tYes) rfl nd (pi_tup (pv 0)) (blkOk_by (N := ["thing", "tuples", "item"]) (sc := defScope s_is_one_of) (by decide +kernel)) (fun _ _ _ _ _ => pg_name (i := 2) nd rfl (Or.inl rfl)) (fun _ _ _ _ _ => pts_nil)
        (fun _ _ _ _ _ => pe_call (ok_is_name N T) (hr.mono (by decide)) (by rfl) N.g N.F.kp bN .nil pass0 (pa_cons (pv 2) pa_nil))) pa_nil))
        (pe_one (pe_cmp (pc_din hu (pv 0) (pv 1))))))), ?_⟩
    rcases q with ⟨a, xs, rfl, ha, hz, hany, q⟩ | ⟨t, ht, nt, q⟩
    · refine ⟨_, rfl, _, .tup, _, rfl, AnyV.tup ha, by decide, _, rfl, ?_⟩
      refine ⟨_, rfl, a, rfl, ⟨_, SqT.of ha⟩, fun D hD => ?_⟩
      have sD := same_upd (o := .lst []) hD
      refine lc_it (walk_tup (K := K) (a := a) (xs := xs)) (fun i H' => H' D = some (.lst (((xs.take i).map nameV).map V.bl)) ∧ Same H H') ⟨upd_same, sD⟩ (fun i H' _ ⟨_, sm⟩ => SqT.of (sm _ _ ha)) ?_ ?_
      · rintro i y H' _ hi ⟨hz', sm⟩ ⟨rfl, hy⟩
        obtain ⟨t', hy'⟩ := hany y (List.mem_of_getElem? hy)
        refine ⟨rfl, _, rfl, y, t', rfl, hy'.same sm, _, hz', ?_, ?_, fun b o e => ?_⟩
        · rw [List.length_map, List.length_map, List.length_take, sizeLine_eq]
          omega
        · rw [upd_same, List.take_add_one, hy, List.map_append, List.map_append]
          rfl
        · rw [upd_ne (ne_of_none e hD)]
          exact sm _ _ e
      · rintro H' ⟨hz', sm⟩
        rw [List.take_length] at hz'
        refine ⟨D, _, rfl, SqL.of hz', _, rfl, ?_⟩
        have ea : ((xs.map nameV).all id) = xs.all nameV := by
          rw [List.all_map]
          rfl
        rw [ea]
        cases e : xs.all nameV with
        | false =>
          have q' := q H' sm
          unfold oneOf at q'
          rw [e] at q'
          exact q'
        | true =>
          obtain ⟨st, rfl, hst⟩ := textsV_names e
          have q' := q H' sm
          rw [oneOf_key kvs st hst] at q'
          exact ⟨_, rfl, _, rfl, d, _, rfl, DGet.t (k := kS st) (sm _ _ hd) (by rw [kS_v]; exact sm _ _ ha), q'⟩
    · have hb : t.isa "tuple" = false := by cases t <;> first | rfl | exact absurd rfl nt
      refine ⟨_, rfl, _, t, _, rfl, ht, by decide, _, rfl, ?_⟩
      rw [hb]
      exact q
theorem ok_is_table {f fI fN : Addr} {fd fdI fdN : FuncData} (D : Df K mg "is_table" s_is_table f fd) (I : Df K mg "are_integers" s_are_integers fI fdI) (bI : Binds K fdI ["thing", "many"] []) (N : Df K mg "is_integer" s_is_integer fN fdN) (bN : Binds K fdN ["thing"] []) (T : KT K mg) : FnOk P w K mg base CX0 3 f fd ["thing", "wanted", "many"] (spIsTable K) := by
  have S : FnScope ["thing", "wanted", "many", "key"] ["thing", "wanted", "many"] (defScope s_is_table) := ⟨rfl, rfl, rfl, by decide +kernel, rfl, by decide +kernel, by decide +kernel⟩
  refine D.F.ok S (fun vs H Q E h => ?_) (fun cdv A outer s H vs Q E hr h => ?_)
  · obtain ⟨x, p, sts, vs, n, good, rfl, _⟩ := h
    rfl
  · obtain ⟨x, p, sts, vs, n, good, rfl, hp, ht, hz, q⟩ := h
    have nd := S.nd
    have hu := hu_of hr
    have G := ok_are_integers (P := P) (w := w) (base := base) I N bN T
    refine ⟨_, pss_cons (ps_if (PW.pt (pw_or (pt_not (pt_val (pe_callB call_isi6 (by rfl) T.m_isinstance (by decide +kernel) (pa_cons (pv 0) (pa_cons (pe_bltn (v := .ty "dict") (by rfl) T.m_dict (by decide +kernel) rfl) pa_nil)))))
        (pw_or1 (pt_cmpR op_ne (pe_callB call_len_dT (by rfl) T.m_len PySem.boot_len (pa_cons (pv 0) pa_nil)) (pe_callB call_len_seq (by rfl) T.m_len PySem.boot_len (pa_cons (pv 1) pa_nil)) (nomark _))))) (pss_one (ps_ret pe_bl)) pss_nil)
      (pss_one (ps_ret (pe_callB (cr_all rfl) (by rfl) T.m_all (by decide +kernel) (pa_cons (pe_lc (own := [("key", 3)]) (g := gName 3) (tt := tYes) rfl nd (pi_list (pv 1)) (blkOk_by (N := ["thing", "wanted", "many", "key"]) (sc := defScope s_is_table) (by decide +kernel)) (fun _ _ _ _ _ => pg_name (i := 3) nd rfl (Or.inl rfl)) (fun _ _ _ _ _ => pts_nil)
        (fun _ _ _ _ _ => pe_and (pe_cmp (pc_din hu (pv 3) (pv 0))) (pe_one (pe_call G hr (by rfl) I.g I.F.kp bI .nil pass0 (pa_cons (pe_dget hu (pv 0) (pv 3) (fun _ _ => rfl)) (pa_cons (pv 2) pa_nil)))))) pa_nil)))), ?_⟩
    rcases q with ⟨d, kvs, rfl, hd, hc, q⟩ | ⟨t, htt, nt, q⟩
    · refine ⟨_, rfl, _, .dct, _, rfl, AnyV.dT hd, by decide, _, rfl, iteF ?_⟩
      refine ⟨_, rfl, d, kvs, rfl, hd, _, rfl, p, vs, rfl, .inl (SqL.of hp), rfl, _, rfl, ?_⟩
      have hl : sts.length = vs.length := Paired.length ht
      by_cases hn : kvs.length = sts.length
      · have e0 : (!decide (V.int ((kvs.length : Nat) : Int) = V.int (vs.length : Int))) = false := by rw [decide_eq_true (by rw [hn, hl])]; rfl
        rw [e0]
        refine iteF ⟨_, rfl, p, rfl, ⟨_, SqL.of hp⟩, fun D hD => ?_⟩
        have sD := same_upd (o := .lst []) hD
        refine lc_it (walk_list (K := K) (a := p) (xs := vs)) (fun i H' => H' D = some (.lst (((sts.take i).map good).map V.bl)) ∧ Same H H') ⟨upd_same, sD⟩ (fun i H' _ ⟨_, sm⟩ => SqL.of (sm _ _ hp)) ?_ ?_
        · rintro i y H0 H' hi ⟨hz', sm⟩ ⟨rfl, hy⟩
          obtain ⟨st, hst, a, rfl, ha⟩ := paired_get ht hy
          have fin : ∀ H2, Same H' H2 → ∃ acc, H2 D = some (.lst acc) ∧ acc.length < sizeLine ∧ (upd H2 D (.lst (acc ++ [V.bl (good st)]))) D = some (.lst (((sts.take (i + 1)).map good).map V.bl)) ∧ Same H (upd H2 D (.lst (acc ++ [V.bl (good st)]))) := fun H2 s2 => by
            refine ⟨_, s2 _ _ hz', small1000 ?_, ?_, fun b o e => ?_⟩
            · rw [List.length_map, List.length_map, List.length_take]
              omega
            · rw [upd_same, List.take_add_one, hst, List.map_append, List.map_append]
              rfl
            · rw [upd_ne (ne_of_none e hD)]
              exact s2 _ _ (sm _ _ e)
          have hd' := sm _ _ hd
          have ha' := sm _ _ ha
          have hg : DGet H' d (.ref a) (valV kvs (kS st)) := DGet.t (k := kS st) hd' (by rw [kS_v]; exact ha')
          refine ⟨rfl, _, rfl, _, rfl, d, _, rfl, hg, ?_⟩
          rcases (hc st (List.mem_of_getElem? hst)).same sm with ⟨e, eb⟩ | ⟨v, e, hv⟩
          · refine ⟨_, rfl, ?_⟩
            rw [e]
            have := fin H' (Same.refl _)
            rw [eb] at this
            exact this
          · refine ⟨_, rfl, ?_⟩
            rw [e]
            rw [e] at hg
            refine ⟨_, rfl, _, rfl, d, v, rfl, hg, _, rfl, v, n, rfl, ?_⟩
            rcases hv with ⟨xs, h1, h2, h3, eb⟩ | ⟨t, h1, n1, n2, eb⟩
            · refine .inl ⟨xs, h1, h2, h3, fun H2 s2 => ?_⟩
              have := fin H2 s2
              rw [eb] at this
              exact this
            · refine .inr ⟨t, h1, n1, n2, fun H2 s2 => ?_⟩
              have := fin H2 s2
              rw [eb] at this
              exact this
        · rintro H' ⟨hz', sm⟩
          rw [← hl, List.take_length] at hz'
          refine ⟨D, _, rfl, SqL.of hz', ?_⟩
          have q' := q H' sm
          rw [decide_eq_true hn, Bool.true_and] at q'
          have ea : ((sts.map good).all id) = sts.all good := by
            rw [List.all_map]
            rfl
          rw [ea]
          exact q'
      · have e0 : (!decide (V.int ((kvs.length : Nat) : Int) = V.int (vs.length : Int))) = true := by
          rw [decide_eq_false (fun z => hn (by have := V.int.inj z; omega))]
          rfl
        rw [e0]
        have q' := q H (Same.refl _)
        rw [decide_eq_false hn] at q'
        exact iteT q'
    · refine ⟨_, rfl, _, t, _, rfl, htt, by decide, _, rfl, ?_⟩
      rw [dim_dct (K := K) (H := H) (x := x) nt]
      exact iteT (q H (Same.refl _))
end
end HG

namespace HG
open PySem PySem.Spec PyProof.Rows L2
/-! ### a dict made by a comprehension, keys of either kind: what is put in is told by DPut -/
section
variable {X : Cx}
/-- dictSet, as DPut tells -/
theorem put_by {pins : List (Addr × Obj)} {σ : L2.St} {H H' : Hp} {s : Shared} {E : Value → Shared → Prop} {D : Addr} {y v : V} {u r : Value} {Q : Unit → Shared → Prop} (hu : X.A.units < cLine) (I : Inv X pins σ H s) (g : DPut H D y v H') (ry : RelV y u) (rv : RelV v r)
    (h : ∀ s', Inv X pins σ H' s' → Q () s') : wpAny (model X.prog X.w) X.A (dictSet D u r) Q E s := by
  rcases g with ⟨kvs, k, e, ey, l, eH⟩ | ⟨kvs, k, b, e, ey, eb, l, eH⟩
  · subst ey eH
    exact d_dictSet I e l ry rv h
  · subst ey eH
    cases (show u = Value.ref b from ry)
    obtain ⟨z, hd, xs, rel, dd⟩ := dt_of I.hok e
    have hx : xs.length < sizeLine := (Paired.length rel) ▸ l
    refine wpAny_dictSet_heap (hsz := Nat.le_of_lt hx) (show (tupleKind (mixKind X.prog X.w)).room X.A from hu) (key_of I.hok eb) dd fun h' ⟨q, es, ep, hq, h2, h3, h4, _, h5⟩ hs => h _ ?_
    have few := length_putK kvs k v
    refine d_write I (by rw [e]; exact True.intro) hs ⟨q, hq⟩ ⟨by omega, hd, _, (rel.put k eb rv).keeps fun c ys ec => ?_, q, es, ep, hq, h2, h3, h4, h5⟩
    rw [upd_ne (ne_of ec e (fun z => nomatch z))]
    exact ec
/-- one turn: the target's store, the tests, key and value, what is put in -/
def tTurn (g : TG) (tt : TT) (tk tv : TE) (D : Addr) (σ0 : L2.St) (vs : List Nat) : V → Hp → (Hp → Prop) → Prop := fun x H Nx => g x σ0 H fun σ2 H2 => wipe σ2 vs = σ0 ∧ tt σ2 H2 fun b H3 =>
  match b with
  | true => tk σ2 H3 fun y H4 => tv σ2 H4 fun z H5 => ∃ H6, DPut H5 D y z H6 ∧ Nx H6
  | false => Nx H3
/-- the whole of it, begun with o0 -/
def tDcP (o0 : HO) (wi : TI) (g : TG) (tt : TT) (tk tv : TE) (vs : List Nat) : TE := fun σ H Q => wi σ H fun J H1 => ∀ D, H1 D = none → ∃ W : Nat → Nat → Hp → Prop, (∃ m, W 0 m (upd H1 D o0)) ∧ ∀ i m H, W i m H →
  (J.stop i H ∧ Q (.ref D) H) ∨ (J.go i H ∧ ∃ Nx : Hp → Prop, (∀ H', Nx H' → ∃ m', m' < m ∧ W (i + 1) m' H') ∧ ∀ x H', J.yld i H x H' → tTurn g tt tk tv D (wipe σ vs) vs x H' Nx)
abbrev HB (X : Cx) (scope : Scope) (f : Shared → Hp → Env → List Addr → Prop) : Prop := ∀ (s : Shared) (H : Hp) (C : Addr) (cl : List (Str × Addr)) (fp : List Addr), f s H (compEnvC scope cl C X.env) fp
theorem pe_dcP {o0 : HO} {kx vx tg iter : Expr} {ifs : List Expr} {scope : Scope} {own : List (Str × Nat)} {pos : Pos} {wi : TI} {g : TG} {tt : TT} {tk tv : TE} (h0 : o0 = .dK [] ∨ o0 = .dT []) (hu : X.A.units < cLine) (hc : X.calm = true) (hN : X.N.Nodup) (hi : PI X tg iter wi) (ok : BlkOk X.N X.env.scope scope own)
    (hg : HB X scope fun s H e fp => PG (X.blk s H scope e fp) tg g) (ht : HB X scope fun s H e fp => PTs (X.blk s H scope e fp) ifs tt)
    (hk : HB X scope fun s H e fp => PE (X.blk s H scope e fp) kx tk) (hv : HB X scope fun s H e fp => PE (X.blk s H scope e fp) vx tv) (hs : ∀ x, foldedSetIterable iter X.env x = pure x := by intro _; rfl) :
    PE X (.DictComp kx vx [⟨tg, iter, ifs, 0⟩] scope pos) (tDcP o0 wi g tt tk tv (own.map (·.2))) := by
  refine ⟨fun pins s σ H Q I h => ?_⟩
  rw [arm_eval_DictComp]
  have free : ∀ y ∈ scope.names, y.2 = .free → ∃ c, X.env.cells.lookup y.1 = some c := fun y hy e => (ok.free y hy e).elim (fun k => I.ok.has _ (.inl k)) (fun k => I.ok.has _ (.inr k))
  refine wpAny_comprehension_free rfl hs (closure_ok free) ok.kind (fun y hy e => by rw [ok.uniq y hy, e])
    (thn (hi.run pins s σ H _ I h) fun xv s1 hx => thn hx fun itv s2 ⟨it, fp, tn, J, H2, e, I2, T, st2, f2, q⟩ => ?_)
  subst e
  refine wpAny_newObj_type (newEnv_comp ?_)
  have nD : H2 s2.heap.objs.size = none := I2.hok.fresh (Nat.le_refl _)
  obtain ⟨W, ⟨m0, w0⟩, turn⟩ := q _ nD
  -- the new dict
  have I3 : Inv X pins σ (upd H2 s2.heap.objs.size o0) ({ s2 with heap := s2.heap.push { cls := .type "dict", data := .dict #[] } } : Shared) := by
    refine I2.laid (t' := s2.toks) (fun b o e => Heap.get?_push_of_some _ e) (Nat.le_refl _) ?_
    rcases h0 with rfl | rfl
    · exact dk_empty s2.heap I2.big
    · exact dt_empty s2.heap I2.big
  generalize hD : s2.heap.objs.size = D at I3 w0 turn ⊢
  generalize hs3 : ({ s2 with heap := s2.heap.push { cls := .type "dict", data := .dict #[] } } : Shared) = s3 at I3
  have e3 : s3.heap = s2.heap.push { cls := .type "dict", data := .dict #[] } := by rw [← hs3]
  have f3 : ∀ b ∈ fp, FpOk X pins (upd H2 D o0) b ∧ b < s3.heap.objs.size := fun b hb => by
    obtain ⟨o, eo, _⟩ := T.obj _ _ st2 b hb
    have lt := Heap.lt_size eo
    refine ⟨⟨?_, (f2 b hb).2⟩, by rw [e3, Heap.size_push]; exact Nat.lt_succ_of_lt lt⟩
    rw [upd_ne (by rw [← hD]; exact Nat.ne_of_lt lt)]
    exact (f2 b hb).1
  have I4 := block_start I3 ok hN f3
  have pg := hg s3 (upd H2 D o0) s3.heap.objs.size (cellsFrom (s3.heap.objs.size + 1) scope.names (cloFrom X.env.cells scope.names [])) fp
  have pt := ht s3 (upd H2 D o0) s3.heap.objs.size (cellsFrom (s3.heap.objs.size + 1) scope.names (cloFrom X.env.cells scope.names [])) fp
  have pk := hk s3 (upd H2 D o0) s3.heap.objs.size (cellsFrom (s3.heap.objs.size + 1) scope.names (cloFrom X.env.cells scope.names [])) fp
  have pv := hv s3 (upd H2 D o0) s3.heap.objs.size (cellsFrom (s3.heap.objs.size + 1) scope.names (cloFrom X.env.cells scope.names [])) fp
  show codeAny _ _ (.compStart (.DictComp kx vx [⟨tg, iter, ifs, 0⟩] scope pos) 0 (.ref it) (.ref D) (compEnvC scope (cellsFrom (s3.heap.objs.size + 1) scope.names (cloFrom X.env.cells scope.names [])) s3.heap.objs.size X.env)) (compPost (model X.prog X.w) X.A X.xe _ _ (.ref D) s3.heap.objs.size) { s3 with heap := pushCells (s3.heap.push { cls := .type "dict", data := .dict #[] }) scope.names }
  generalize hce : compEnvC scope (cellsFrom (s3.heap.objs.size + 1) scope.names (cloFrom X.env.cells scope.names [])) s3.heap.objs.size X.env = ce at I4 pg pt pk pv ⊢
  have cL : ce.locals = s3.heap.objs.size := by subst hce; rfl
  generalize hH3 : upd H2 D o0 = H3 at I3 I4 pg pt pk pv w0 f3
  generalize hs4 : ({ s3 with heap := pushCells (s3.heap.push { cls := .type "dict", data := .dict #[] }) scope.names } : Shared) = s4 at I4 ⊢
  have st4 : tn 0 s4.heap := by
    refine T.keep _ _ _ st2 fun b _ o e => ?_
    rw [← hs4]
    exact pushCells_keeps _ _ _ _ (Heap.get?_push_of_some _ (by rw [e3]; exact Heap.get?_push_of_some _ e))
  -- what holds between the turns
  let B : Nat → Nat → L2.St → Hp → Shared → Prop := fun i m τ H' s' => Inv (X.blk s3 H3 scope ce fp) [] τ H' s' ∧ tn i s'.heap ∧ (∀ b ∈ fp, H' b = none) ∧ W i m H'
  have fps : ∀ {τ H' s'}, Inv (X.blk s3 H3 scope ce fp) [] τ H' s' → (∀ b ∈ fp, H' b = none) → ∀ b ∈ fp, FpOk (X.blk s3 H3 scope ce fp) [] H' b := fun {τ H' s'} I' n' b hb =>
    ⟨n' b hb, (I'.ok.exf b hb).1, I'.ok.exfs b hb, .inl hb, fun x c e => (I'.ok.exf b hb).2 x c e, fun p hp => absurd (show p ∈ ([] : List (Addr × Obj)) ++ [] from hp) (by simp)⟩
  refine (fun loop => codeAny_compStart_dict loop (T.self X.A 0 _ _ _ st4 loop)) ?_
  refine compLoop_anyD (fun m s' => ∃ i H', B i m (wipe σ (own.map (·.2))) H' s') ?_ m0 ⟨0, H3, I4, st4, fun b hb => (f3 b hb).1.1, w0⟩
  rintro m s5 ⟨i, H5, I5, st5, n5, w5⟩
  have F5 := fps I5 n5
  rcases turn i m H5 w5 with ⟨stop, last⟩ | ⟨go, Nx, next, step⟩
  · refine thnF (T.done (X.blk s3 H3 scope ce fp) rfl rfl rfl hc i [] s5 _ H5 (fun _ _ => False) I5 F5 st5 stop) fun r s6 ⟨hr, I6⟩ => ?_
    subst hr
    have I7 : Inv X pins σ H5 s6 := I3.call' (ch := fp) I6.os I6.base I6.hok I6.bare fun b hb => ⟨(f3 b hb).1.2.2.2.1, (f3 b hb).1.2.1, (f3 b hb).1.2.2.2.2.1, (f3 b hb).1.2.2.2.2.2⟩
    have nC : H5 s3.heap.objs.size = none := cL ▸ (show H5 ce.locals = none from I6.free)
    obtain ⟨k, hk6, _⟩ := I6.loc
    have hk6 : s6.heap.Ns s3.heap.objs.size k := cL ▸ (show s6.heap.Ns ce.locals k from hk6)
    refine ⟨k, hk6, fun h'' sb => ?_⟩
    obtain ⟨g0, g1, g2, g3, g4, g5⟩ := I3.fpOk (Nat.le_refl _) nC
    exact ⟨.ref D, H5, I7.turned (t' := s6.toks) (fun b o hb e => (sb.2 b hb).trans e) g0 g1 g3 g4 g5, rfl, last⟩
  · refine thnF (T.item (X.blk s3 H3 scope ce fp) rfl rfl rfl hc i [] s5 _ H5 (fun _ _ => False) I5 F5 st5 go) fun r s6 ⟨u, hr, h6⟩ => ?_
    subst hr
    refine thnF h6 fun _ s7 ⟨x, H7, I7, r7, y7, st7, n7⟩ => ?_
    have P7 := I7.pinned (fps I7 n7) (T.obj _ _ st7)
    refine thnF (pg.run _ s7 _ H7 x u _ P7 r7 (step x H7 y7)) fun _ s8 ⟨σ8, H8, I8, e8, q8⟩ => ?_
    refine thnF (pt.run _ s8 σ8 H8 _ I8 q8) fun b s9 ⟨H9, I9, q9⟩ => ?_
    have fin : ∀ {s' : Shared} {H' : Hp}, Inv (X.blk s3 H3 scope ce fp) ([] ++ pinsAt fp s7.heap) σ8 H' s' → Nx H' → ∃ m', m' < m ∧ ∃ i H', B i m' (wipe σ (own.map (·.2))) H' s' := fun {s' H'} I' nx => by
      obtain ⟨m', lt, w'⟩ := next H' nx
      have same : ∀ b ∈ fp, ∀ o, s7.heap.get? b = some o → s'.heap.get? b = some o ∧ H' b = none := fun b hb o e =>
        let z := I'.pin (b, o) (List.mem_append_right _ (List.mem_append_right _ (mem_pinsAt hb e)))
        ⟨z.1, z.2.1⟩
      refine ⟨m', lt, i + 1, H', (I'.unpinned (pins := [])).weak (by rw [← e8, wipe_length]) (fun j v e => by rw [← e8] at e; exact (wipe_some e).1), T.keep _ _ _ st7 fun b hb o e => (same b hb o e).1, fun b hb => ?_, w'⟩
      obtain ⟨o, e, _⟩ := T.obj _ _ st7 b hb
      exact (same b hb o e).2
    cases b with
    | false => exact fin I9 q9
    | true =>
      refine thnF (pk.run _ s9 σ8 H9 _ I9 q9) fun z s10 ⟨yk, H10, I10, r10, q10⟩ => ?_
      refine thnF (pv.run _ s10 σ8 H10 _ I10 q10) fun z2 s11 ⟨yv, H11, I11, r11, H12, pu, nx⟩ => ?_
      exact put_by (X := X.blk s3 H3 scope ce fp) hu I11 pu r10 r11 fun s12 I12 => fin I12 nx
end
end HG

namespace HG
open PySem PySem.Spec PyProof.Rows L2
open C8 (pss_cut tCut)
/-! ### standings -/
theorem mul1_nd {sts : List (List Str)} {ws : List Str} (h : sts.Nodup) (hw : ws.Nodup) : (mul1 sts ws).Nodup := by
  unfold mul1
  induction sts with
  | nil => exact List.nodup_nil
  | cons a r ih =>
    rw [List.nodup_cons] at h
    rw [List.flatMap_cons, List.nodup_append]
    refine ⟨?_, ih h.2, ?_⟩
    · rw [List.Nodup, List.pairwise_map]
      exact List.Pairwise.imp (fun {x y} hne e => hne (by simpa using e)) hw
    · intro x hx y hy e
      subst e
      obtain ⟨w, _, rfl⟩ := List.mem_map.mp hx
      obtain ⟨z, hz, hy⟩ := List.mem_flatMap.mp hy
      obtain ⟨v, _, e⟩ := List.mem_map.mp hy
      have := (List.append_inj' e rfl).1
      subst this
      exact h.1 hz
theorem stds_nd {S : List Way} (h : ∀ q ∈ S, q.2.Nodup) : (stds S).Nodup := by
  have key : ∀ (S : List Way) (sts : List (List Str)), (∀ q ∈ S, q.2.Nodup) → sts.Nodup → (S.foldl (fun sts q => mul1 sts q.2) sts).Nodup := by
    intro S
    induction S with
    | nil => exact fun sts _ h => h
    | cons q r ih => exact fun sts h hs => ih _ (fun q hq => h q (List.mem_cons_of_mem _ hq)) (mul1_nd hs (h q List.mem_cons_self))
  exact key S _ h (List.nodup_cons.mpr ⟨List.not_mem_nil, List.nodup_nil⟩)
theorem stds_len {S : List Way} (h : ∀ q ∈ S, q.2.length ≤ 4) : (stds S).length ≤ 4 ^ S.length := by
  have key : ∀ (S : List Way) (sts : List (List Str)), (∀ q ∈ S, q.2.length ≤ 4) → (S.foldl (fun sts q => mul1 sts q.2) sts).length ≤ sts.length * 4 ^ S.length := by
    intro S
    induction S with
    | nil => exact fun sts _ => by simp
    | cons q r ih =>
      intro sts h
      refine Nat.le_trans (ih _ fun q hq => h q (List.mem_cons_of_mem _ hq)) ?_
      rw [mul1_len, List.length_cons, Nat.pow_succ, Nat.mul_assoc, Nat.mul_comm q.2.length, Nat.mul_comm (4 ^ r.length) 4, ← Nat.mul_assoc, ← Nat.mul_assoc]
      have h4 := h q List.mem_cons_self
      calc sts.length * 4 ^ r.length * q.2.length ≤ sts.length * 4 ^ r.length * 4 := Nat.mul_le_mul_left _ h4
        _ = sts.length * 4 * 4 ^ r.length := by rw [Nat.mul_assoc, Nat.mul_comm (4 ^ r.length), ← Nat.mul_assoc]
  have := key S [[]] h
  simpa [stds] using this
theorem stds_names {S : List Way} (h : ∀ q ∈ S, ∀ z ∈ q.2, isNm z = true) {st : List Str} (hm : st ∈ stds S) : ∀ z ∈ st, isNm z = true := by
  have key : ∀ (S : List Way) (sts : List (List Str)), (∀ q ∈ S, ∀ z ∈ q.2, isNm z = true) → (∀ st ∈ sts, ∀ z ∈ st, isNm z = true) → ∀ st ∈ S.foldl (fun sts q => mul1 sts q.2) sts, ∀ z ∈ st, isNm z = true := by
    intro S
    induction S with
    | nil => exact fun sts _ h => h
    | cons q r ih =>
      refine fun sts h hs => ih _ (fun q hq => h q (List.mem_cons_of_mem _ hq)) fun st hst z hz => ?_
      obtain ⟨y, hy, hst⟩ := List.mem_flatMap.mp hst
      obtain ⟨w, hw, rfl⟩ := List.mem_map.mp hst
      rcases List.mem_append.mp hz with hz | hz
      · exact hs y hy z hz
      · rw [List.mem_singleton.mp hz]
        exact h q List.mem_cons_self w hw
  exact key S [[]] h (fun st hst z hz => by rw [List.mem_singleton.mp hst] at hz; cases hz) st hm
theorem sh_len (W : List Way) : (sh W).length = W.length := by
  unfold sh
  rw [List.length_map, srt_len, List.length_map]
theorem sh_of {W : List Way} (hN : (W.map (·.1)).Nodup) {q : Way} (h : q ∈ sh W) : ∃ q0 ∈ W, q = (q0.1, srt q0.2) := by
  obtain ⟨k, hk, rfl⟩ := List.mem_map.mp h
  obtain ⟨q0, h0, rfl⟩ := List.mem_map.mp (srt_mem.mp hk)
  exact ⟨q0, h0, by rw [lookW_of hN h0]⟩
structure SOk (S : List Way) : Prop where
  nd : (S.map (·.1)).Nodup
  n1 : 1 ≤ S.length
  n4 : S.length ≤ 4
  nm : ∀ q ∈ S, isNm q.1 = true
  wd : ∀ q ∈ S, q.2.Nodup
  w1 : ∀ q ∈ S, 1 ≤ q.2.length
  w4 : ∀ q ∈ S, q.2.length ≤ 4
  wn : ∀ q ∈ S, ∀ z ∈ q.2, isNm z = true
theorem WOk.sok {W : List Way} (h : WOk W) : SOk (sh W) where
  nd := by
    rw [show (sh W).map (·.1) = srt (W.map (·.1)) by unfold sh; rw [List.map_map]; exact List.map_id _]
    exact srt_nd h.nd
  n1 := by rw [sh_len]; exact h.n1
  n4 := by rw [sh_len]; exact h.n4
  nm := fun q hq => let ⟨q0, h0, e⟩ := sh_of h.nd hq; e ▸ h.nm q0 h0
  wd := fun q hq => let ⟨q0, h0, e⟩ := sh_of h.nd hq; e ▸ srt_nd (h.wd q0 h0)
  w1 := fun q hq => let ⟨q0, h0, e⟩ := sh_of h.nd hq; by rw [e]; show 1 ≤ (srt q0.2).length; rw [srt_len]; exact h.w1 q0 h0
  w4 := fun q hq => let ⟨q0, h0, e⟩ := sh_of h.nd hq; by rw [e]; show (srt q0.2).length ≤ 4; rw [srt_len]; exact h.w4 q0 h0
  wn := fun q hq z hz => let ⟨q0, h0, e⟩ := sh_of h.nd hq; by rw [e] at hz; exact h.wn q0 h0 z (srt_mem.mp hz)
theorem SOk.take {S : List Way} (h : SOk S) (i : Nat) : (stds (S.take i)).length ≤ 256 := by
  refine Nat.le_trans (stds_len fun q hq => h.w4 q (List.mem_of_mem_take hq)) ?_
  have : (S.take i).length ≤ 4 := Nat.le_trans (by rw [List.length_take]; exact Nat.min_le_right _ _) h.n4
  exact Nat.le_trans (Nat.pow_le_pow_right (by decide) this) (by decide)
theorem SOk.few {S : List Way} (h : SOk S) : (stds S).length ≤ 256 := by
  have := h.take S.length
  rwa [List.take_length] at this
/-! ### games -/
/-- a table handed in: rows of integers, as lists or tuples -/
def TabAt (K : PySem.W.Frag) (H : Hp) (d : Addr) (sts : List (List Str)) (n : Nat) (γ : List Str → List Int) : Prop := ∃ kvs, H d = some (.dT kvs) ∧ kvs.length = sts.length ∧ ∀ st ∈ sts, (γ st).length = n ∧ ∃ v, valV kvs (kS st) = some v ∧ SeqV K H v ((γ st).map V.int)
def KvG (K : PySem.W.Frag) (H : Hp) (γ : List Str → List Int) (st : List Str) (kv : List Key × V) : Prop := kv.1 = kS st ∧ ∃ a, kv.2 = .ref a ∧ SqT K H a ((γ st).map V.int)
/-- a game; N: of its own cells that could be changed -/
structure GameAt (K : PySem.W.Frag) (C : Addr) (N : Addr → Prop) (H : Hp) (g : Addr) (S : List Way) (γ : List Str → List Int) (dx w l t : Addr) (vs : List V) (kvs : List (List Key × V)) : Prop where
  hg : H g = some (.ins C dx [("way_lists", .ref w), ("standing_list", .ref l), ("gain_table", .ref t)])
  ng : N g
  hw : ShL N H w S
  nw : N w
  hl : H l = some (.lst vs)
  nl : N l
  hs : TupsAt H (stds S) vs
  ht : H t = some (.dT kvs)
  nt : N t
  hk : Paired (KvG K H γ) (stds S) kvs
theorem KvG.same {K : PySem.W.Frag} {H H' : Hp} {γ : List Str → List Int} {st : List Str} {kv : List Key × V} (h : KvG K H γ st kv) (s : Same H H') : KvG K H' γ st kv := ⟨h.1, let ⟨a, e, q⟩ := h.2; ⟨a, e, same_sqt s q⟩⟩
def SameX (x : Addr) (H H' : Hp) : Prop := ∀ b o, b ≠ x → H b = some o → H' b = some o
end HG

namespace HG
open PySem PySem.Spec PyProof.Rows L2
open C8 (pss_cut tCut)
/-- a statement that is never reached -/
theorem ps_never {X : Cx} {st : Stmt} : PS X st (fun _ _ _ => False) := ⟨fun _ _ _ _ _ _ h => h.elim⟩
theorem pss_never {X : Cx} {st : List Stmt} : PSs X st (fun _ _ _ => False) := ⟨fun _ _ _ _ _ _ h => h.elim⟩
def rTupOf (K : PySem.W.Frag) : List V → Hp → VK → Prop := fun xs H Q => ∃ p ys, xs = [.ref p] ∧ ((SqL K H p ys ∧ ∀ l, H l = none → Q (.ref l) (upd H l (.tup ys))) ∨ (SqT K H p ys ∧ Q (.ref p) H))
theorem call_tup {X : Cx} : CallR X (.type "tuple") (rTupOf X.K) := call_tuple_of
structure GC (K : PySem.W.Frag) (C : Addr) : Prop where
  cl : Cls K C
  nW : NoAttr K C "way_lists"
  nL : NoAttr K C "standing_list"
  nG : NoAttr K C "gain_table"
def spInit (K : PySem.W.Frag) (C : Addr) : Sp := fun args H Q _ => ∃ (x d gd dx : Addr) (W : List Way) (γ : List Str → List Int), args = [.ref x, .ref d, .ref gd] ∧ H x = some (.ins C dx []) ∧ ShAt H d W ∧ WOk W ∧ TabAt K H gd (stds (sh W)) W.length γ ∧
  ∀ H' w l t vs kvs, SameX x H H' → GameAt K C (fun a => H a = none ∨ a = x) H' x (sh W) γ dx w l t vs kvs → Q .non H'
theorem ints_any {K : PySem.W.Frag} {H : Hp} {xs : List Int} : ∀ y ∈ xs.map V.int, ∃ t, AnyV K H y t ∧ (t.isa "int" && !t.isa "bool") = intV y := by
  intro y hy
  obtain ⟨i, _, rfl⟩ := List.mem_map.mp hy
  exact ⟨.int, .int i, rfl⟩
theorem ints_all (xs : List Int) : (xs.map V.int).all intV = true := by
  rw [List.all_eq_true]
  intro y hy
  obtain ⟨i, _, rfl⟩ := List.mem_map.mp hy
  rfl
theorem SameX.same {x : Addr} {H H' H'' : Hp} (h : SameX x H H') (s : Same H' H'') : SameX x H H'' := fun b o hb e => s _ _ (h b o hb e)
theorem SameX.of {x : Addr} {H H' : Hp} (h : Same H H') : SameX x H H' := fun b o _ e => h _ _ e
theorem SameX.upd {x : Addr} {H H' : Hp} {o : HO} (h : SameX x H H') : SameX x H (upd H' x o) := fun b u hb e => by
  rw [upd_ne hb]
  exact h b u hb e
theorem AnyV.ofL {K : PySem.W.Frag} {H : Hp} {a : Addr} {xs : List V} (h : SqL K H a xs) : AnyV K H (.ref a) .lst := by
  rcases h with (h | ⟨o, h⟩) | ⟨o, its, n, h, c, _⟩
  · exact .lst h
  · exact ⟨⟨_, .base (.frz h), six_ty (by decide +kernel)⟩, (fun z => nomatch z), (fun _ z e => nomatch e)⟩
  · exact ⟨⟨_, .kList h c, six_ty (by decide +kernel)⟩, (fun z => nomatch z), (fun _ z e => nomatch e)⟩
theorem AnyV.ofT {K : PySem.W.Frag} {H : Hp} {a : Addr} {xs : List V} (h : SqT K H a xs) : AnyV K H (.ref a) .tup := by
  rcases h with (h | ⟨o, h⟩) | ⟨o, its, n, h, c, _⟩
  · exact .tup h
  · exact ⟨⟨_, .fTuple h, six_ty (by decide +kernel)⟩, (fun z => nomatch z), (fun _ z e => nomatch e)⟩
  · exact ⟨⟨_, .kTuple h c, six_ty (by decide +kernel)⟩, (fun z => nomatch z), (fun _ z e => nomatch e)⟩
def NotIns (o : HO) : Prop := ∀ C dx fs, o ≠ .ins C dx fs
theorem seqL_keep {K : PySem.W.Frag} {H H' : Hp} {a : Addr} {xs : List V} (h : SqL K H a xs) (k : ∀ b o, NotIns o → H b = some o → H' b = some o) : SqL K H' a xs := by
  rcases h with (h | ⟨o, h⟩) | h
  · exact .inl (.inl (k _ _ (by intro _ _ _ z; cases z) h))
  · exact .inl (.inr ⟨o, k _ _ (by intro _ _ _ z; cases z) h⟩)
  · exact .inr h
theorem seqT_keep {K : PySem.W.Frag} {H H' : Hp} {a : Addr} {xs : List V} (h : SqT K H a xs) (k : ∀ b o, NotIns o → H b = some o → H' b = some o) : SqT K H' a xs := by
  rcases h with (h | ⟨o, h⟩) | h
  · exact .inl (.inl (k _ _ (by intro _ _ _ z; cases z) h))
  · exact .inl (.inr ⟨o, k _ _ (by intro _ _ _ z; cases z) h⟩)
  · exact .inr h
theorem SeqV.keep {K : PySem.W.Frag} {H H' : Hp} {v : V} {xs : List V} (h : SeqV K H v xs) (k : ∀ b o, NotIns o → H b = some o → H' b = some o) : SeqV K H' v xs := by
  cases h with
  | lst h _ => exact .lst (seqL_keep h k) (AnyV.ofL (seqL_keep h k))
  | tup h _ => exact .tup (seqT_keep h k) (AnyV.ofT (seqT_keep h k))
section
variable {P : Program} {w : World} {K : PySem.W.Frag} {mg : Str → Option Value} {base : Heap}
structure GD (K : PySem.W.Frag) (mg : Str → Option Value) (fShape fNames fName fSorted fStds fTable fInts fInt fOne fPut : Addr) (dShape dNames dName dSorted dStds dTable dInts dInt dOne dPut : FuncData) : Prop where
  T : KT K mg
  m_sorted : mg "sorted" = none
  shape : Df K mg "is_shape" s_is_shape fShape dShape
  names : Df K mg "are_names" s_are_names fNames dNames
  name : Df K mg "is_name" s_is_name fName dName
  sorted : Df K mg "sorted_ways" s_sorted_ways fSorted dSorted
  stds : Df K mg "standings_of" s_standings_of fStds dStds
  table : Df K mg "is_table" s_is_table fTable dTable
  aInts : Df K mg "are_integers" s_are_integers fInts dInts
  aInt : Df K mg "is_integer" s_is_integer fInt dInt
  one : Df K mg "is_one_of" s_is_one_of fOne dOne
  put : Df K mg "put" s_put fPut dPut
  bShape : Binds K dShape ["thing"] []
  bNames : Binds K dNames ["thing"] []
  bName : Binds K dName ["thing"] []
  bSorted : Binds K dSorted ["ways"] []
  bStds : Binds K dStds ["way_lists"] []
  bTable : Binds K dTable ["thing", "wanted", "many"] []
  bInts : Binds K dInts ["thing", "many"] []
  bInt : Binds K dInt ["thing"] []
  bOne : Binds K dOne ["thing", "tuples"] []
  bPut : Binds K dPut ["items", "at", "item"] []
variable {fShape fNames fName fSorted fStds fTable fInts fInt fOne fPut : Addr} {dShape dNames dName dSorted dStds dTable dInts dInt dOne dPut : FuncData}
theorem ok_init {C f : Addr} {fd : FuncData} (G : GD K mg fShape fNames fName fSorted fStds fTable fInts fInt fOne fPut dShape dNames dName dSorted dStds dTable dInts dInt dOne dPut) (c : GC K C) (F : Fun K "__init__" "Game.__init__" s_Game___init f fd) :
    FnOk P w K mg base CX0 4 f fd ["self", "ways", "gains"] (spInit K C) := by
  have S : FnScope ["self", "ways", "gains", "way_lists", "standings", "standing"] ["self", "ways", "gains"] (defScope s_Game___init) := ⟨rfl, rfl, rfl, by decide +kernel, rfl, by decide +kernel, by decide +kernel⟩
  refine F.ok S (fun vs H Q E h => ?_) (fun cdv A outer s H vs Q E hr h => ?_)
  · obtain ⟨x, d, gd, dx, W, γ, rfl, _⟩ := h
    rfl
  · obtain ⟨x, d, gd, dx, W, γ, rfl, hx, hsh, ok, ⟨tv, hgd, hgl, hgv⟩, q⟩ := h
    have nd := S.nd
    have hu := hu_of hr
    have T := G.T
    refine ⟨_, pss_cons (ps_if (pt_not (pt_val (pe_call (ok_is_shape (P := P) (w := w) (base := base) G.shape G.names G.bNames G.name G.bName T) hr (by rfl) G.shape.g G.shape.F.kp G.bShape .nil pass0 (pa_cons (pv 1) pa_nil)))) pss_never pss_nil)
      (pss_cons (ps_set (i := 3) nd rfl (Or.inl rfl) (pe_call (ok_sorted_ways G.sorted G.m_sorted) (hr.mono (by decide)) (by rfl) G.sorted.g G.sorted.F.kp G.bSorted .nil pass0 (pa_cons (pv 1) pa_nil)))
      (pss_cons (ps_set (i := 4) nd rfl (Or.inl rfl) (pe_call (ok_standings_of G.stds) (hr.mono (by decide)) (by rfl) G.stds.g G.stds.F.kp G.bStds .nil pass0 (pa_cons (pv 3) pa_nil)))
      (pss_cons (ps_if (pt_not (pt_val (pe_call (ok_is_table G.table G.aInts G.bInts G.aInt G.bInt T) hr (by rfl) G.table.g G.table.F.kp G.bTable .nil pass0 (pa_cons (pv 2) (pa_cons (pv 4) (pa_cons (pe_callB call_lenD (by rfl) T.m_len PySem.boot_len (pa_cons (pv 3) pa_nil)) pa_nil)))))) pss_never pss_nil)
      (pss_cons (ps_fld (pv 0) (pv 3) rfl)
      (pss_cons (ps_fld (pv 0) (pv 4) rfl)
      (pss_one (ps_fld (pv 0) (pe_dcP (o0 := .dT []) (own := [("standing", 5)]) (g := gName 5) (tt := tYes) (.inr rfl) (Nat.lt_of_succ_lt hu) rfl nd (pi_list (pv 4)) (blkOk_by (N := ["self", "ways", "gains", "way_lists", "standings", "standing"]) (sc := defScope s_Game___init) (by decide +kernel))
        (fun _ _ _ _ _ => pg_name (i := 5) nd rfl (Or.inl rfl)) (fun _ _ _ _ _ => pts_nil) (fun _ _ _ _ _ => pv 5)
        (fun _ _ _ _ _ => pe_callTy (T := "tuple") (r := rTupOf K) call_tup (by rfl) T.m_tuple (by decide +kernel) (pa_cons (pe_dget hu (pv 2) (pv 5) (fun _ _ => rfl)) pa_nil))) rfl))))))), ?_⟩
    have sok := ok.sok
    refine ⟨_, rfl, d, W, rfl, hsh, ok, fun H1 s1 => ⟨_, rfl, iteF ?_⟩⟩
    refine ⟨_, rfl, d, W, rfl, hsh.same s1, ok.nd, Nat.lt_of_le_of_lt ok.n4 (by decide), fun q hq => Nat.lt_of_le_of_lt (ok.w4 q hq) (by decide), fun H2 p2 s2 n2 hS => ?_⟩
    refine ⟨_, rfl, p2, sh W, _, rfl, hS, fun i _ => sok.take i, sok.w4, sok.n4, fun H3 p3 vs s3 n3 h3 t3 => ?_⟩
    obtain ⟨kw, hkw, pkw⟩ := hS.same s3
    have hlen : kw.length = W.length := by rw [← Paired.length pkw, sh_len]
    have s13 := s1.trans (s2.trans s3)
    refine ⟨_, rfl, _, rfl, _, rfl, p2, kw, rfl, hkw, .ref gd, p3, stds (sh W), vs, _, fun _ => true, rfl, h3, t3, sok.few, .inl ⟨gd, tv, rfl, s13 _ _ hgd, fun st hst => ?_, fun H4 s4 => ?_⟩⟩
    · obtain ⟨hn, v, hv, hq⟩ := hgv st hst
      refine .inr ⟨v, hv, .inl ⟨_, hq.same s13, small1000 (by rw [List.length_map, hn]; have := ok.n4; omega), ints_any, ?_⟩⟩
      rw [ints_all, List.length_map, hn, hlen, decide_eq_true rfl]
      rfl
    have eT : (decide (tv.length = (stds (sh W)).length) && (stds (sh W)).all fun _ => true) = true := by
      rw [decide_eq_true hgl, Bool.true_and, List.all_eq_true]
      exact fun _ _ => rfl
    rw [eT]
    refine ⟨_, rfl, iteF ?_⟩
    have s14 := s13.trans s4
    have hx4 := s14 _ _ hx
    refine ⟨_, rfl, _, rfl, x, C, dx, _, rfl, hx4, c.cl, c.nW, (by show 0 < 1000; decide), ?_⟩
    refine ⟨_, rfl, _, rfl, x, C, dx, _, rfl, upd_same, c.cl, c.nL, (by show 1 < 1000; decide), ?_⟩
    generalize hHA : upd (upd H4 x _) x _ = HA
    have hxA : HA x = some (.ins C dx [("way_lists", .ref p2), ("standing_list", .ref p3)]) := by rw [← hHA]; exact upd_same
    have sA : SameX x H4 HA := by rw [← hHA]; exact (SameX.of (Same.refl _)).upd.upd
    have sX : SameX x H HA := fun b o hb e => sA b o hb (s14 _ _ e)
    have ne : ∀ {b : Addr} {o : HO}, H4 b = some o → (∀ C dx fs, o ≠ .ins C dx fs) → HA b = some o := fun {b o} e hn => sA b o (fun z => by subst z; rw [hx4] at e; exact hn _ _ _ (Option.some.inj e).symm) e
    have hA3 : HA p3 = some (.lst vs) := ne (s4 _ _ h3) (by intro _ _ _ z; cases z)
    have tA : TupsAt HA (stds (sh W)) vs := paired_imp t3 fun _ _ ⟨a, e, h⟩ => ⟨a, e, ne (s4 _ _ h) (by intro _ _ _ z; cases z)⟩
    have hAg : HA gd = some (.dT tv) := ne (s14 _ _ hgd) (by intro _ _ _ z; cases z)
    have qA : ∀ {v : V} {xs : List V}, SeqV K H v xs → SeqV K HA v xs := fun {v xs} h => by
      exact (h.same s14).keep fun b o hn e => ne e hn
    refine ⟨_, rfl, p3, rfl, ⟨_, SqL.of hA3⟩, fun D nD => ?_⟩
    have sD := same_upd (o := .dT []) nD
    refine walk_run (walk_list (K := K) (a := p3) (xs := vs)) (fun i H' => Same HA H' ∧ ∃ kvs, H' D = some (.dT kvs) ∧ Paired (KvG K H' γ) ((stds (sh W)).take i) kvs) ⟨sD, [], upd_same, .nil⟩ (fun i H' _ ⟨sm, _⟩ => SqL.of (sm _ _ hA3)) ?_ ?_
    · rintro i y H0 H' hi ⟨sm, ks, hD, hks⟩ ⟨rfl, hy⟩
      obtain ⟨st, hst, a, rfl, ha⟩ := paired_get tA hy
      obtain ⟨hn, v, hv, hq⟩ := hgv st (List.mem_of_getElem? hst)
      have ha' := sm _ _ ha
      have hv' := (qA hq).same sm
      have hlt : i < (stds (sh W)).length := (List.getElem?_eq_some_iff.mp hst).1
      have hlk : ks.length = i := by
        rw [← Paired.length hks, List.length_take]
        omega
      have hnew : kS st ∉ ks.map (·.1) := by
        have keys : ∀ {l : List (List Str)} {kv : List (List Key × V)}, Paired (KvG K H' γ) l kv → kv.map (·.1) = l.map kS := by
          intro l kv h
          induction h with
          | nil => rfl
          | cons r _ ih => rw [List.map_cons, List.map_cons, ih, r.1]
        rw [keys hks]
        intro z
        obtain ⟨st', hm, e⟩ := List.mem_map.mp z
        have e' : st' = st := by
          have := congrArg (List.map kV) e
          rw [kS_v, kS_v] at this
          exact List.map_inj_right (fun _ _ h => V.str.inj h) |>.mp this
        subst e'
        obtain ⟨j, hj, ej⟩ := List.getElem_of_mem hm
        rw [List.length_take] at hj
        rw [List.getElem_take] at ej
        have e2 : (stds (sh W))[i] = st' := (List.getElem?_eq_some_iff.mp hst).2
        have := (List.getElem_inj (stds_nd sok.wd)).mp (ej.trans e2.symm)
        omega
      have fin : ∀ H2 a2, Same H' H2 → SqT K H2 a2 ((γ st).map V.int) → ∃ H6, DPut H2 D (.ref a) (.ref a2) H6 ∧ Same HA H6 ∧ ∃ kvs, H6 D = some (.dT kvs) ∧ Paired (KvG K H6 γ) ((stds (sh W)).take (i + 1)) kvs := fun H2 a2 s2 h2 => by
        have hD2 := s2 _ _ hD
        refine ⟨_, DPut.t (k := kS st) hD2 (by rw [kS_v]; exact s2 _ _ ha') (small1000 (by have := sok.few; omega)), fun b o e => ?_, _, upd_same, ?_⟩
        · rw [upd_ne (ne_of_none e nD)]
          exact s2 _ _ (sm _ _ e)
        · have up : ∀ {b : Addr} {xs : List V}, SqT K H2 b xs → SqT K (upd H2 D (.dT (putK ks (kS st) (.ref a2)))) b xs := fun {b xs} h => by
            rcases h with (h | ⟨o, h⟩) | h
            · exact .inl (.inl (by rw [upd_ne (ne_of h hD2 (by intro z; cases z))]; exact h))
            · exact .inl (.inr ⟨o, by rw [upd_ne (ne_of h hD2 (by intro z; cases z))]; exact h⟩)
            · exact .inr h
          rw [putK_new hnew, List.take_add_one, hst]
          rw [putK_new hnew] at up
          exact paired_append (paired_imp hks fun _ _ h => ⟨h.1, let ⟨b, e, q⟩ := h.2; ⟨b, e, up (same_sqt s2 q)⟩⟩) (.cons ⟨rfl, a2, rfl, up h2⟩ .nil)
      have hg : DGet H' gd (.ref a) (some v) := by
        rw [← hv]
        exact DGet.t (k := kS st) (sm _ _ hAg) (by rw [kS_v]; exact ha')
      refine ⟨rfl, _, rfl, _, rfl, _, rfl, gd, v, rfl, hg, ?_⟩
      cases hv' with
      | lst h _ => exact ⟨_, _, rfl, .inl ⟨h, fun l nl => fin _ l (same_upd nl) (SqT.of upd_same)⟩⟩
      | tup h _ => exact ⟨_, _, rfl, .inr ⟨h, fin _ _ (Same.refl _) h⟩⟩
    · rintro H' ⟨sm, ks, hD, hks⟩
      rw [← Paired.length tA, List.take_length] at hks
      have hx5 := sm _ _ hxA
      refine ⟨_, rfl, x, C, dx, _, rfl, hx5, c.cl, c.nG, (by show 2 < 1000; decide), ?_⟩
      have fr : ∀ {b : Addr}, H4 b = none → H b = none := fun h => s14.free h
      have frA : ∀ {b : Addr}, HA b = none → H b = none := fun {b} h => by
        cases e : H b with
        | none => rfl
        | some o =>
          by_cases hb : b = x
          · subst hb
            rw [hxA] at h
            cases h
          · rw [sX b o hb e] at h
            cases h
      have nx : ∀ {b : Addr}, H' b = none → b ≠ x := fun h z => by subst z; rw [hx5] at h; cases h
      have keep : ∀ b o, NotIns o → HA b = some o → (upd H' x (.ins C dx [("way_lists", .ref p2), ("standing_list", .ref p3), ("gain_table", .ref D)])) b = some o := fun b o hn e => by
        have e' := sm _ _ e
        rw [upd_ne (fun z => by subst z; rw [hx5] at e'; exact hn _ _ _ (Option.some.inj e').symm)]
        exact e'
      have all : ∀ {b : Addr} {o : HO}, NotIns o → H3 b = some o → (upd H' x (.ins C dx [("way_lists", .ref p2), ("standing_list", .ref p3), ("gain_table", .ref D)])) b = some o := fun hn e => keep _ _ hn (ne (s4 _ _ e) hn)
      refine q _ p2 p3 D vs ks ((sX.same sm).upd) ⟨upd_same, .inr rfl, ⟨kw, all (by intro _ _ _ z; cases z) hkw, ?_⟩, .inl (s1.free n2), all (by intro _ _ _ z; cases z) h3, .inl ((s1.trans s2).free n3), ?_, ?_, .inl (frA nD), ?_⟩
      · exact paired_imp pkw fun _ _ ⟨e, a, ev, n, h⟩ => ⟨e, a, ev, .inl (s1.free n), all (by intro _ _ _ z; cases z) h⟩
      · exact paired_imp t3 fun _ _ ⟨a, e, h⟩ => ⟨a, e, all (by intro _ _ _ z; cases z) h⟩
      · rw [upd_ne (fun z => by subst z; rw [hx5] at hD; cases hD)]
        exact hD
      · exact paired_imp hks fun _ _ h => ⟨h.1, let ⟨b, e, q⟩ := h.2; ⟨b, e, seqT_keep q fun b o hn e => by
          rw [upd_ne (fun z => by subst z; rw [hx5] at e; exact hn _ _ _ (Option.some.inj e).symm)]
          exact e⟩⟩
end
end HG

namespace HG
open PySem PySem.Spec PyProof.Rows L2
/-! ### an instance's own __contains__, __len__ -/
section
variable {prog : Program} {w : World} {A : Around} {E : Value → Shared → Prop} {s : Shared} {K : PySem.W.Frag} {x C f : Addr} {ox : Obj} {od : Option Obj}
theorem contains_fn {y : Value} {Q : Bool → Shared → Prop} (X : K.In s.heap) (I : PySem.W.InstAt s.heap x ox C od) (hs : PySem.W.findIn K (.ref C) "__contains__" = some (some (.ref f))) (hf : PySem.W.typeIn K (.ref f) = some (.type "function"))
    (h : wpAny (model prog w) A (call (.ref f) [.ref x, y]) (fun v s' => ∃ b, v = .bool b ∧ Q b s') E s) : wpAny (model prog w) A (contains (.ref x) y) Q E s := by
  unfold contains
  refine wpAny_holding ?_
  rw [show stdlibNamesSay? (.ref x) y = none from rfl]
  refine wpAny_bind (m := specialOf (.ref x) "__contains__") (wpAny_bind (I.type.here ((PySem.W.looks_findIn X hs).here ?_)))
  show wpAny _ _ (if (some (Value.ref f) == some Value.none) = true then _ else _) _ _ _
  rw [if_neg (by simp)]
  refine wpAny_bind (m := callSpecialUnlessNone? (.ref x) "__contains__" [y] _) (wpAny_bind (wpAny_bind (I.type.here ((PySem.W.looks_findIn X hs).here (wpAny_holding (wpAny_bind ((PySem.W.bind_fn X _ hf).here ?_)))))))
  show wpAny _ _ (if (Value.ref f == Value.none) = true then _ else _) _ _ _
  rw [if_neg (by simp)]
  refine wpAny_bind (wpAny_mono h (fun v s' hv => ?_) fun _ _ z => z)
  obtain ⟨b, rfl, hq⟩ := hv
  exact wpAny_pure (wpAny_pure hq)
end
section
variable {X : Cx} {CX : CXT} {C g : Addr} {fd : FuncData} {ps : List Str} {n : Nat} {sp : Sp} {E : XK}
def rInOwn (C : Addr) (sp : Sp) (E : XK) (neg : Bool) : R2 := fun y x H Q => ∃ a dx fs, x = .ref a ∧ H a = some (.ins C dx fs) ∧ sp [.ref a, y] H (fun v H' => ∃ b, v = .bl b ∧ Q (.bl (neg ^^ b)) H') E
theorem op_inOwn (hs : PySem.W.findIn X.K (.ref C) "__contains__" = some (some (.ref g))) (hf : PySem.W.isFn X.K (.ref g) = true) (F : FnOk X.prog X.w X.K X.mg X.base CX n g fd ps sp) (hr : Room n X.A) (hb : Binds X.K fd ps []) (hx : Passes CX X E) : OpR X (compareOp .In) (rInOwn C sp E false) := by
  intro pins s σ H y x u v Q I ry rx h
  obtain ⟨a, dx, fs, rfl, ha, q⟩ := h
  cases (show v = Value.ref a from rx)
  obtain ⟨mA, O, _⟩ := ins_get I.hok ha
  obtain ⟨od, J, _⟩ := O.look
  show wpAny _ _ (contains (.ref a) u >>= fun b => pure (Value.bool b)) _ _ _
  refine wpAny_bind (contains_fn I.kIn J hs (beq_iff_eq.mp hf) (thn (run_fn (us := [.ref a, u]) (vs := [.ref a, y]) F hr hb .nil hx I (.cons rfl (.cons ry .nil)) q) fun w s' hw => ?_))
  obtain ⟨z, H', I', rz, b, rfl, qz⟩ := hw
  cases (show w = Value.bool b from rz)
  exact ⟨b, rfl, wpAny_pure ⟨.bl b, H', I', rfl, by simpa using qz⟩⟩
theorem op_notInOwn (hs : PySem.W.findIn X.K (.ref C) "__contains__" = some (some (.ref g))) (hf : PySem.W.isFn X.K (.ref g) = true) (F : FnOk X.prog X.w X.K X.mg X.base CX n g fd ps sp) (hr : Room n X.A) (hb : Binds X.K fd ps []) (hx : Passes CX X E) : OpR X (compareOp .NotIn) (rInOwn C sp E true) := by
  intro pins s σ H y x u v Q I ry rx h
  obtain ⟨a, dx, fs, rfl, ha, q⟩ := h
  cases (show v = Value.ref a from rx)
  obtain ⟨mA, O, _⟩ := ins_get I.hok ha
  obtain ⟨od, J, _⟩ := O.look
  show wpAny _ _ (contains (.ref a) u >>= fun b => pure (Value.bool (!b))) _ _ _
  refine wpAny_bind (contains_fn I.kIn J hs (beq_iff_eq.mp hf) (thn (run_fn (us := [.ref a, u]) (vs := [.ref a, y]) F hr hb .nil hx I (.cons rfl (.cons ry .nil)) q) fun w s' hw => ?_))
  obtain ⟨z, H', I', rz, b, rfl, qz⟩ := hw
  cases (show w = Value.bool b from rz)
  exact ⟨b, rfl, wpAny_pure ⟨.bl (!b), H', I', rfl, by simpa using qz⟩⟩
def rLenOwn (C : Addr) (sp : Sp) (E : XK) : List V → Hp → VK → Prop := fun xs H Q => ∃ a dx fs, xs = [.ref a] ∧ H a = some (.ins C dx fs) ∧ sp [.ref a] H (fun v H' => ∃ k : Nat, v = .int (k : Int) ∧ k ≤ sizeLine ∧ Q (.int (k : Int)) H') E
theorem call_lenOwn (hs : PySem.W.findIn X.K (.ref C) "__len__" = some (some (.ref g))) (hf : PySem.W.isFn X.K (.ref g) = true) (F : FnOk X.prog X.w X.K X.mg X.base CX n g fd ps sp) (hr : Room (n + 1) X.A) (hb : Binds X.K fd ps []) (hx : Passes CX X E) : CallR X (.builtin "len") (rLenOwn C sp E) := by
  intro pins s σ H xs us Q I r h
  obtain ⟨a, dx, fs, rfl, ha, q⟩ := h
  rw [Vals.ref1 r]
  obtain ⟨mA, O, _⟩ := ins_get I.hok ha
  obtain ⟨od, J, _⟩ := O.look
  obtain ⟨m, hF⟩ := I.fr
  refine PySem.W.len_K hF I.ok.mod.kin J hs hf (wpAny_call (codeAny_mono (F.run _ X.stack s H ⟨[.ref a], []⟩ [.ref a] [.ref a] _ E hr.in1 I.env0.in1 (hb s [.ref a] I.kIn (by rw [List.append_nil, ← F.len _ _ _ _ q]; rfl)) (.cons rfl .nil) q) fun r s' hq => ?_))
  cases r with
  | error e => exact hx pins σ H s e s' I hq
  | ok fl =>
    cases fl with
    | ret u =>
      obtain ⟨z, H', I', rz, k, rfl, hk, qz⟩ := I.after hq
      obtain ⟨t, rfl⟩ := (show ∃ t, u = Value.int k t from rz)
      have := line63
      exact ⟨⟨by omega, by omega⟩, .int k, H', I'.tok _, ⟨_, rfl⟩, qz⟩
    | next => exact False.elim hq
    | brk => exact False.elim hq
    | cont => exact False.elim hq
end
end HG

namespace HG
open PySem PySem.Spec PyProof.Rows L2
open C8 (pss_cut tCut)
/-! ### a, b = a list or tuple -/
section
variable {X : Cx}
def gSeq (K : PySem.W.Frag) (n : Nat) (t : TGs) : TG := fun v σ H Q => ∃ a xs, v = .ref a ∧ (SqL K H a xs ∨ SqT K H a xs) ∧ xs.length = n ∧ t xs σ H Q
theorem pg_seq {es : List Expr} {k : Nat} {t : TGs} {n : Nat} {pos : Pos} (hc : X.calm = true) (h : PGs X es t)
    (hn : (assignEach es X.env).length = n := by rfl) (hst : (assignEach es X.env).findIdx? (·.1) = none := by rfl) : PG X (.Tuple es k pos) (gSeq X.K n t) := by
  refine ⟨fun pins s σ H v u Q I r hw => ?_⟩
  obtain ⟨a, xs, e1, hq, hl, hw⟩ := hw
  rcases hq with hq | hq
  · subst e1
    cases r
    obtain ⟨its, rv, pl, hz⟩ := I.list hq
    rw [PyProof.Rows.assign_Tuple]
    refine wpAny_bind (wpAny_standAt ?_)
    unfold unpack
    rw [show (assignEach es X.env).length = its.toArray.size by rw [hn, ← hl, rv.length, List.size_toArray], hst]
    refine wpAny_bind (wpAny_holding (PySem.W.kun_itemsOf (I.ok.hd hc) pl.isList fun h' hx => ?_))
    have I1 : Inv X pins σ H { s with heap := h' } := I.kept (t' := s.toks) fun b o e => hx b o (Nat.ne_of_lt (Heap.lt_size e)) e
    exact h.run pins _ σ H xs _ Q I1 (by simpa using rv) hw
  · exact (pg_tup hc h hn hst).run pins s σ H v u Q I r ⟨a, xs, e1, hq, hl, hw⟩
end
/-! ### what a game's methods tell -/
def IsG (K : PySem.W.Frag) (C : Addr) (N : Addr → Prop) (H : Hp) (g : Addr) (S : List Way) (γ : List Str → List Int) : Prop := ∃ dx w l t vs kvs, GameAt K C N H g S γ dx w l t vs kvs
theorem GameAt.same {K : PySem.W.Frag} {C : Addr} {N : Addr → Prop} {H H' : Hp} {g : Addr} {S : List Way} {γ : List Str → List Int} {dx w l t : Addr} {vs : List V} {kvs : List (List Key × V)} (G : GameAt K C N H g S γ dx w l t vs kvs) (s : Same H H') : GameAt K C N H' g S γ dx w l t vs kvs where
  hg := s _ _ G.hg
  ng := G.ng
  hw := G.hw.same s
  nw := G.nw
  hl := s _ _ G.hl
  nl := G.nl
  hs := G.hs.same s
  ht := s _ _ G.ht
  nt := G.nt
  hk := paired_imp G.hk fun _ _ h => h.same s
theorem IsG.same {K : PySem.W.Frag} {C : Addr} {N : Addr → Prop} {H H' : Hp} {g : Addr} {S : List Way} {γ : List Str → List Int} (G : IsG K C N H g S γ) (s : Same H H') : IsG K C N H' g S γ :=
  let ⟨dx, w, l, t, vs, kvs, G⟩ := G
  ⟨dx, w, l, t, vs, kvs, G.same s⟩
def names (S : List Way) : List Str := S.map (·.1)
def hasCh (S : List Way) : V → Bool
  | .str z => isNm z && decide (z ∈ names S)
  | _ => false
theorem hasCh_no {S : List Way} {x : V} (h : nameV x = false) : hasCh S x = false := by
  cases x with
  | str z =>
    show (isNm z && _) = false
    rw [show isNm z = false from h]
    rfl
  | _ => rfl
theorem way_some {N : Addr → Prop} {H : Hp} {S : List Way} {kw : List (Key × V)} (h : Paired (KvL N H) S kw) (z : Str) : (valV kw (Sum.inr z)).isSome = decide (z ∈ names S) := by
  rw [← valV_any]
  have e := keysL h
  rw [Bool.eq_iff_iff, List.any_eq_true, decide_eq_true_iff]
  constructor
  · rintro ⟨x, h1, h2⟩
    have hx : x.1 ∈ kw.map (·.1) := List.mem_map.mpr ⟨x, h1, rfl⟩
    rw [e] at hx
    obtain ⟨y, hy, ey⟩ := List.mem_map.mp hx
    exact Sum.inr.inj (ey.trans (of_decide_eq_true h2)) ▸ hy
  · intro hz
    have hx : Sum.inr z ∈ kw.map (·.1) := by
      rw [e]
      exact List.mem_map.mpr ⟨z, hz, rfl⟩
    obtain ⟨x, h1, h2⟩ := List.mem_map.mp hx
    exact ⟨x, h1, decide_eq_true h2⟩
theorem way_at {N : Addr → Prop} {H : Hp} : ∀ {S : List Way} {kw : List (Key × V)} {q : Way}, Paired (KvL N H) S kw → (S.map (·.1)).Nodup → q ∈ S → ∃ a, valV kw (Sum.inr q.1) = some (.ref a) ∧ N a ∧ H a = some (.lst (q.2.map V.str))
  | _, _, _, .nil, _, h => nomatch h
  | a :: W, kv :: kvs, q, .cons r t, hN, h => by
    rw [List.map_cons, List.nodup_cons] at hN
    obtain ⟨e, b, eb, nb, hb⟩ := r
    rcases List.mem_cons.mp h with rfl | h
    · exact ⟨b, by rw [valV_pos e, eb], nb, hb⟩
    · obtain ⟨v, h1, h2⟩ := way_at t hN.2 h
      refine ⟨v, ?_, h2⟩
      rw [valV_neg (fun e' => ?_)]
      · exact h1
      · have e2 : a.1 = q.1 := Sum.inr.inj (e.symm.trans e')
        exact hN.1 (List.mem_map.mpr ⟨q, h, e2.symm⟩)
theorem gain_at {K : PySem.W.Frag} {H : Hp} {γ : List Str → List Int} : ∀ {sts : List (List Str)} {kvs : List (List Key × V)} {st : List Str}, Paired (KvG K H γ) sts kvs → st ∈ sts → ∃ a, valV kvs (kS st) = some (.ref a) ∧ SqT K H a ((γ st).map V.int)
  | _, _, _, .nil, h => nomatch h
  | x :: r, kv :: kvs, st, .cons q t, h => by
    obtain ⟨e, b, eb, hb⟩ := q
    by_cases hx : x = st
    · subst hx
      exact ⟨b, by rw [valV_pos e, eb], hb⟩
    · have hm : st ∈ r := by
        rcases List.mem_cons.mp h with h | h
        · exact absurd h.symm hx
        · exact h
      obtain ⟨a, h1, h2⟩ := gain_at t hm
      refine ⟨a, ?_, h2⟩
      rw [valV_neg (fun e' => hx ?_)]
      · exact h1
      · have := congrArg (List.map kV) (e.symm.trans e')
        rw [kS_v, kS_v] at this
        exact List.map_inj_right (fun _ _ h => V.str.inj h) |>.mp this
theorem keysG {K : PySem.W.Frag} {H : Hp} {γ : List Str → List Int} {sts : List (List Str)} {kvs : List (List Key × V)} (h : Paired (KvG K H γ) sts kvs) : kvs.map (·.1) = sts.map kS := by
  induction h with
  | nil => rfl
  | cons r _ ih => rw [List.map_cons, List.map_cons, ih, r.1]
def inG (S : List Way) (xs : List V) : Bool := xs.all nameV && decide (xs ∈ (stds S).map fun st => st.map V.str)
theorem oneOf_G {K : PySem.W.Frag} {H : Hp} {γ : List Str → List Int} {S : List Way} {kvs : List (List Key × V)} (h : Paired (KvG K H γ) (stds S) kvs) (xs : List V) : oneOf kvs xs = inG S xs := by
  unfold oneOf inG
  congr 1
  rw [Bool.eq_iff_iff, List.any_eq_true, decide_eq_true_iff, List.mem_map]
  have e := keysG h
  constructor
  · rintro ⟨kv, h1, h2⟩
    have hk : kv.1 ∈ (stds S).map kS := e ▸ List.mem_map.mpr ⟨kv, h1, rfl⟩
    obtain ⟨st, hst, es⟩ := List.mem_map.mp hk
    exact ⟨st, hst, by rw [← kS_v, es]; exact of_decide_eq_true h2⟩
  · rintro ⟨st, hst, es⟩
    have hk : kS st ∈ kvs.map (·.1) := e ▸ List.mem_map.mpr ⟨st, hst, rfl⟩
    obtain ⟨kv, h1, h2⟩ := List.mem_map.mp hk
    exact ⟨kv, h1, decide_eq_true (by rw [h2, kS_v]; exact es)⟩
theorem inG_yes {S : List Way} (ok : SOk S) {st : List Str} (h : st ∈ stds S) : inG S (st.map V.str) = true := by
  unfold inG
  rw [names_all (stds_names ok.wn h), decide_eq_true (List.mem_map.mpr ⟨st, h, rfl⟩)]
  rfl
structure Mt (K : PySem.W.Frag) (C : Addr) (m qual : Str) (st : Stmt) (ps : List Str) (f : Addr) (fd : FuncData) : Prop where
  me : Meth K C m f
  F : Fun K m qual st f fd
  b : Binds K fd ps []
section
variable {P : Program} {w : World} {K : PySem.W.Frag} {mg : Str → Option Value} {base : Heap}
variable {fShape fNames fName fSorted fStds fTable fInts fInt fOne fPut : Addr} {dShape dNames dName dSorted dStds dTable dInts dInt dOne dPut : FuncData}
variable {C : Addr}
def spHasCh (K : PySem.W.Frag) (C : Addr) : Sp := fun args H Q _ => ∃ (g : Addr) (x : V) (t : Tg) (N : Addr → Prop) (S : List Way) (γ : List Str → List Int), args = [.ref g, x] ∧ IsG K C N H g S γ ∧ AnyV K H x t ∧ Q (.bl (hasCh S x)) H
theorem ok_has_chooser {f : Addr} {fd : FuncData} (G : GD K mg fShape fNames fName fSorted fStds fTable fInts fInt fOne fPut dShape dNames dName dSorted dStds dTable dInts dInt dOne dPut) (c : GC K C) (M : Mt K C "has_chooser" "Game.has_chooser" s_Game_has_chooser ["self", "thing"] f fd) :
    FnOk P w K mg base CX0 2 f fd ["self", "thing"] (spHasCh K C) := by
  have S : FnScope ["self", "thing"] ["self", "thing"] (defScope s_Game_has_chooser) := ⟨rfl, rfl, rfl, by decide +kernel, rfl, by decide +kernel, by decide +kernel⟩
  refine M.F.ok S (fun vs H Q E h => ?_) (fun cdv A outer s H vs Q E hr h => ?_)
  · obtain ⟨g, x, t, N, S, γ, rfl, _⟩ := h
    rfl
  · obtain ⟨g, x, t, N, S, γ, rfl, ⟨dx, wa, l, ta, vs, kvs, hG⟩, hx, q⟩ := h
    have hu := hu_of hr
    refine ⟨_, pss_one (ps_ret (pe_and (pe_call (ok_is_name G.name G.T) (hr.mono (by decide)) (by rfl) G.name.g G.name.F.kp G.bName .nil pass0 (pa_cons (pv 1) pa_nil)) (pe_one (pe_cmp (pc_din hu (pv 1) (pe_fld (pv 0) rfl)))))), ?_⟩
    refine ⟨_, rfl, x, t, rfl, hx, _, rfl, ?_⟩
    cases e : nameV x with
    | false =>
      rw [hasCh_no e] at q
      exact q
    | true =>
      obtain ⟨z, rfl⟩ : ∃ z, x = .str z := by
        cases x <;> first | exact ⟨_, rfl⟩ | exact absurd e Bool.false_ne_true
      obtain ⟨kw, hkw, pkw⟩ := hG.hw
      refine ⟨_, rfl, _, rfl, g, C, dx, _, _, rfl, hG.hg, c.cl, c.nW, rfl, wa, _, rfl, DGet.k (k := Sum.inr z) hkw, ?_⟩
      rw [way_some pkw z]
      rw [show hasCh S (.str z) = decide (z ∈ names S) by show (isNm z && _) = _; rw [show isNm z = true from e]; rfl] at q
      exact q
end
end HG

namespace HG
open PySem PySem.Spec PyProof.Rows L2
open C8 (pss_cut tCut)
theorem str_beq (a b : Str) : (eqV (.str a) (.str b)) = decide (a = b) := by
  show (a == b) = _
  by_cases h : a = b
  · rw [decide_eq_true h, h]
    exact beq_self_eq_true _
  · rw [decide_eq_false h]
    exact beq_eq_false_iff_ne.mpr h
theorem flat_strs (xs : List Str) : (xs.map V.str).all flatV = true := by
  rw [List.all_eq_true]
  intro y hy
  obtain ⟨z, _, rfl⟩ := List.mem_map.mp hy
  rfl
theorem inV_strs (z : Str) (xs : List Str) : inV (.str z) (xs.map V.str) = decide (z ∈ xs) := by
  unfold inV
  rw [Bool.eq_iff_iff, List.any_eq_true, decide_eq_true_iff]
  constructor
  · rintro ⟨y, hy, e⟩
    obtain ⟨u, hu, rfl⟩ := List.mem_map.mp hy
    rw [str_beq] at e
    exact of_decide_eq_true e ▸ hu
  · intro h
    exact ⟨.str z, List.mem_map.mpr ⟨z, h, rfl⟩, by rw [str_beq]; exact decide_eq_true rfl⟩
section
variable {P : Program} {w : World} {K : PySem.W.Frag} {mg : Str → Option Value} {base : Heap}
variable {fShape fNames fName fSorted fStds fTable fInts fInt fOne fPut : Addr} {dShape dNames dName dSorted dStds dTable dInts dInt dOne dPut : FuncData}
variable {C : Addr}
abbrev MtHas (K : PySem.W.Frag) (C f : Addr) (fd : FuncData) := Mt K C "has_chooser" "Game.has_chooser" s_Game_has_chooser ["self", "thing"] f fd
abbrev MtCheck (K : PySem.W.Frag) (C f : Addr) (fd : FuncData) := Mt K C "check_chooser" "Game.check_chooser" s_Game_check_chooser ["self", "chooser"] f fd
abbrev MtSeat (K : PySem.W.Frag) (C f : Addr) (fd : FuncData) := Mt K C "seat" "Game.seat" s_Game_seat ["self", "chooser"] f fd
abbrev MtIn (K : PySem.W.Frag) (C f : Addr) (fd : FuncData) := Mt K C "__contains__" "Game.__contains__" s_Game___contains ["self", "x"] f fd
abbrev MtLen (K : PySem.W.Frag) (C f : Addr) (fd : FuncData) := Mt K C "__len__" "Game.__len__" s_Game___len ["self"] f fd
abbrev MtStand (K : PySem.W.Frag) (C f : Addr) (fd : FuncData) := Mt K C "check_standing" "Game.check_standing" s_Game_check_standing ["self", "standing"] f fd
def spCheck (K : PySem.W.Frag) (C : Addr) : Sp := fun args H Q _ => ∃ (g : Addr) (z : Str) (N : Addr → Prop) (S : List Way) (γ : List Str → List Int), args = [.ref g, .str z] ∧ IsG K C N H g S γ ∧ isNm z = true ∧ z ∈ names S ∧ Q .non H
def spSeat (K : PySem.W.Frag) (C : Addr) : Sp := fun args H Q _ => ∃ (g : Addr) (z : Str) (i : Nat) (N : Addr → Prop) (S : List Way) (γ : List Str → List Int), args = [.ref g, .str z] ∧ IsG K C N H g S γ ∧ (names S).Nodup ∧ (names S)[i]? = some z ∧ ∀ H', Same H H' → Q (.int (i : Int)) H'
def spIn (K : PySem.W.Frag) (C : Addr) : Sp := fun args H Q _ => ∃ (g : Addr) (x : V) (N : Addr → Prop) (S : List Way) (γ : List Str → List Int), args = [.ref g, x] ∧ IsG K C N H g S γ ∧
  ((∃ a xs, x = .ref a ∧ H a = some (.tup xs) ∧ xs.length ≤ 10000 ∧ (∀ y ∈ xs, ∃ t, AnyV K H y t) ∧ ∀ H', Same H H' → Q (.bl (inG S xs)) H') ∨ (∃ t, AnyV K H x t ∧ t ≠ .tup ∧ ∀ H', Same H H' → Q (.bl false) H'))
def spLen (K : PySem.W.Frag) (C : Addr) : Sp := fun args H Q _ => ∃ (g : Addr) (N : Addr → Prop) (S : List Way) (γ : List Str → List Int), args = [.ref g] ∧ IsG K C N H g S γ ∧ Q (.int ((stds S).length : Int)) H
def spStand (K : PySem.W.Frag) (C : Addr) : Sp := fun args H Q _ => ∃ (g a : Addr) (st : List Str) (N : Addr → Prop) (S : List Way) (γ : List Str → List Int), args = [.ref g, .ref a] ∧ IsG K C N H g S γ ∧ SOk S ∧ H a = some (.tup (st.map V.str)) ∧ st ∈ stds S ∧ ∀ H', Same H H' → Q .non H'
theorem ok_check_chooser {f fH : Addr} {fd fdH : FuncData} (G : GD K mg fShape fNames fName fSorted fStds fTable fInts fInt fOne fPut dShape dNames dName dSorted dStds dTable dInts dInt dOne dPut) (c : GC K C) (M : MtCheck K C f fd) (MH : MtHas K C fH fdH) :
    FnOk P w K mg base CX0 3 f fd ["self", "chooser"] (spCheck K C) := by
  have S : FnScope ["self", "chooser"] ["self", "chooser"] (defScope s_Game_check_chooser) := ⟨rfl, rfl, rfl, by decide +kernel, rfl, by decide +kernel, by decide +kernel⟩
  refine M.F.ok S (fun vs H Q E h => ?_) (fun cdv A outer s H vs Q E hr h => ?_)
  · obtain ⟨g, z, N, S, γ, rfl, _⟩ := h
    rfl
  · obtain ⟨g, z, N, S, γ, rfl, hg, hn, hz, q⟩ := h
    refine ⟨_, pss_one (ps_if (pt_not (pt_val (pe_meth (pv 0) c.cl MH.me (ok_has_chooser G c MH) hr MH.b .nil pass0 (pa_cons (pv 1) pa_nil)))) pss_never pss_nil), ?_⟩
    obtain ⟨dx, wa, l, ta, vs, kvs, hG⟩ := id hg
    refine ⟨_, rfl, g, dx, _, rfl, hG.hg, rfl, _, rfl, g, .str z, .str, N, S, γ, rfl, hg, nm_any hn, ?_⟩
    rw [show hasCh S (.str z) = true by show (isNm z && decide (z ∈ names S)) = true; rw [hn, decide_eq_true hz]; rfl]
    exact ⟨_, rfl, iteF q⟩
theorem ok_seat {f : Addr} {fd : FuncData} (T : KT K mg) (c : GC K C) (M : MtSeat K C f fd) : FnOk P w K mg base CX0 1 f fd ["self", "chooser"] (spSeat K C) := by
  have S : FnScope ["self", "chooser"] ["self", "chooser"] (defScope s_Game_seat) := ⟨rfl, rfl, rfl, by decide +kernel, rfl, by decide +kernel, by decide +kernel⟩
  refine M.F.ok S (fun vs H Q E h => ?_) (fun cdv A outer s H vs Q E hr h => ?_)
  · obtain ⟨g, z, i, N, S, γ, rfl, _⟩ := h
    rfl
  · obtain ⟨g, z, i, N, S, γ, rfl, ⟨dx, wa, l, ta, vs, kvs, hG⟩, hnd, hi, q⟩ := h
    refine ⟨_, pss_one (ps_ret (pe_bm PySem.F.plainAttrs_list PySem.F.slot_list_index PySem.F.type_list_index mt_index (pe_callTy (call_listD rfl) (by rfl) T.m_list (by decide +kernel) (pa_cons (pe_fld (pv 0) rfl) pa_nil)) (pa_cons (pv 1) pa_nil))), ?_⟩
    obtain ⟨kw, hkw, pkw⟩ := hG.hw
    refine ⟨_, rfl, g, C, dx, _, _, rfl, hG.hg, c.cl, c.nW, rfl, wa, kw, rfl, .inl hkw, fun p np => ?_⟩
    have e : (kw.map fun kv => kV kv.1) = (names S).map V.str := paired_keys (paired_imp pkw fun _ _ q => q.at)
    rw [e]
    have s1 := same_upd (o := .lst ((names S).map V.str)) np
    refine ⟨.inl ⟨rfl, _, SqL.of upd_same⟩, _, rfl, p, _, .str z, i, .str z, rfl, rfl, SqL.of upd_same, rfl, flat_strs _, by rw [List.getElem?_map, hi]; rfl, by rw [str_beq]; exact decide_eq_true rfl, fun m z' hm hz' => ?_, q _ s1⟩
    rw [List.getElem?_map] at hz'
    obtain ⟨u, hu, rfl⟩ := Option.map_eq_some_iff.mp hz'
    rw [str_beq]
    refine decide_eq_false fun e => ?_
    subst e
    obtain ⟨h1, e1⟩ := List.getElem?_eq_some_iff.mp hu
    obtain ⟨h2, e2⟩ := List.getElem?_eq_some_iff.mp hi
    have := (List.getElem_inj hnd).mp (e1.trans e2.symm)
    omega
theorem ok_in {f : Addr} {fd : FuncData} (G : GD K mg fShape fNames fName fSorted fStds fTable fInts fInt fOne fPut dShape dNames dName dSorted dStds dTable dInts dInt dOne dPut) (c : GC K C) (M : MtIn K C f fd) : FnOk P w K mg base CX0 3 f fd ["self", "x"] (spIn K C) := by
  have S : FnScope ["self", "x"] ["self", "x"] (defScope s_Game___contains) := ⟨rfl, rfl, rfl, by decide +kernel, rfl, by decide +kernel, by decide +kernel⟩
  refine M.F.ok S (fun vs H Q E h => ?_) (fun cdv A outer s H vs Q E hr h => ?_)
  · obtain ⟨g, x, N, S, γ, rfl, _⟩ := h
    rfl
  · obtain ⟨g, x, N, S, γ, rfl, ⟨dx, wa, l, ta, vs, kvs, hG⟩, q⟩ := h
    refine ⟨_, pss_one (ps_ret (pe_call (ok_is_one_of G.one G.name G.bName G.T) hr (by rfl) G.one.g G.one.F.kp G.bOne .nil pass0 (pa_cons (pv 1) (pa_cons (pe_fld (pv 0) rfl) pa_nil)))), ?_⟩
    refine ⟨_, rfl, _, rfl, g, C, dx, _, _, rfl, hG.hg, c.cl, c.nG, rfl, x, ta, kvs, rfl, hG.ht, ?_⟩
    rcases q with ⟨a, xs, rfl, ha, hz, hany, q⟩ | ⟨t, ht, nt, q⟩
    · rw [← oneOf_G hG.hk] at q
      exact .inl ⟨a, xs, rfl, ha, hz, hany, q⟩
    · exact .inr ⟨t, ht, nt, q H (Same.refl _)⟩
theorem ok_len {f : Addr} {fd : FuncData} (T : KT K mg) (c : GC K C) (M : MtLen K C f fd) : FnOk P w K mg base CX0 1 f fd ["self"] (spLen K C) := by
  have S : FnScope ["self"] ["self"] (defScope s_Game___len) := ⟨rfl, rfl, rfl, by decide +kernel, rfl, by decide +kernel, by decide +kernel⟩
  refine M.F.ok S (fun vs H Q E h => ?_) (fun cdv A outer s H vs Q E hr h => ?_)
  · obtain ⟨g, N, S, γ, rfl, _⟩ := h
    rfl
  · obtain ⟨g, N, S, γ, rfl, ⟨dx, wa, l, ta, vs, kvs, hG⟩, q⟩ := h
    refine ⟨_, pss_one (ps_ret (pe_callB call_len_seq (by rfl) T.m_len PySem.boot_len (pa_cons (pe_fld (pv 0) rfl) pa_nil))), ?_⟩
    rw [show (stds S).length = vs.length from Paired.length hG.hs] at q
    exact ⟨_, rfl, g, C, dx, _, _, rfl, hG.hg, c.cl, c.nL, rfl, l, vs, rfl, .inl (SqL.of hG.hl), q⟩
theorem ok_check_standing {f fI : Addr} {fd fdI : FuncData} (G : GD K mg fShape fNames fName fSorted fStds fTable fInts fInt fOne fPut dShape dNames dName dSorted dStds dTable dInts dInt dOne dPut) (c : GC K C) (M : MtStand K C f fd) (MI : MtIn K C fI fdI) :
    FnOk P w K mg base CX0 4 f fd ["self", "standing"] (spStand K C) := by
  have S : FnScope ["self", "standing"] ["self", "standing"] (defScope s_Game_check_standing) := ⟨rfl, rfl, rfl, by decide +kernel, rfl, by decide +kernel, by decide +kernel⟩
  refine M.F.ok S (fun vs H Q E h => ?_) (fun cdv A outer s H vs Q E hr h => ?_)
  · obtain ⟨g, a, st, N, S, γ, rfl, _⟩ := h
    rfl
  · obtain ⟨g, a, st, N, S, γ, rfl, hg, ok, ha, hst, q⟩ := h
    refine ⟨_, pss_one (ps_if (pt_cmpR (op_notInOwn MI.me.at_ MI.me.fn (ok_in G c MI) hr MI.b pass0) (pv 1) (pv 0) (by rfl)) pss_never pss_nil), ?_⟩
    obtain ⟨dx, wa, l, ta, vs, kvs, hG⟩ := id hg
    refine ⟨_, rfl, _, rfl, g, dx, _, rfl, hG.hg, g, .ref a, N, S, γ, rfl, hg, .inl ⟨a, _, rfl, ha, ?_, ?_, fun H' s' => ?_⟩⟩
    · rw [List.length_map, stds_mem hst]
      have := ok.n4
      omega
    · exact names_any (stds_names ok.wn hst)
    · rw [inG_yes ok hst]
      exact ⟨true, rfl, _, rfl, iteF (q _ s')⟩
end
end HG

namespace HG
open PySem PySem.Spec PyProof.Rows L2
open C8 (pss_cut tCut)
/-! ### standings, put -/
theorem stds_at {S : List Way} {st : List Str} (h : st ∈ stds S) : ∀ {i : Nat} {q : Way} {z : Str}, S[i]? = some q → st[i]? = some z → z ∈ q.2 := by
  have key : ∀ (S : List Way) (T : List Way) (sts : List (List Str)), (∀ st ∈ sts, st.length = T.length ∧ ∀ (i : Nat) (q : Way) (z : Str), T[i]? = some q → st[i]? = some z → z ∈ q.2) →
      ∀ st ∈ S.foldl (fun sts q => mul1 sts q.2) sts, ∀ (i : Nat) (q : Way) (z : Str), (T ++ S)[i]? = some q → st[i]? = some z → z ∈ q.2 := by
    intro S
    induction S with
    | nil => exact fun T sts h st hst => by rw [List.append_nil]; exact (h st hst).2
    | cons a r ih =>
      intro T sts h st hst
      have := ih (T ++ [a]) (mul1 sts a.2) (fun y hy => by
        obtain ⟨x, hx, hy⟩ := List.mem_flatMap.mp hy
        obtain ⟨w, hw, rfl⟩ := List.mem_map.mp hy
        obtain ⟨hl, hx⟩ := h x hx
        refine ⟨by rw [List.length_append, List.length_append, hl]; rfl, fun i q z hq hz => ?_⟩
        by_cases hi : i < T.length
        · rw [List.getElem?_append_left hi] at hq
          rw [List.getElem?_append_left (by omega)] at hz
          exact hx i q z hq hz
        · rw [List.getElem?_append_right (by omega)] at hq
          rw [List.getElem?_append_right (by omega)] at hz
          have e1 : i - T.length = 0 := by
            have := (List.getElem?_eq_some_iff.mp hq).1
            simp at this
            omega
          rw [e1] at hq
          rw [hl, e1] at hz
          simp at hq hz
          rw [← hq, ← hz]
          exact hw) st hst
      rwa [List.append_assoc] at this
  intro i q z hq hz
  have := key S [] [[]] (fun st hst => by rw [List.mem_singleton.mp hst]; exact ⟨rfl, fun i q z hq _ => by simp at hq⟩) st h i q z
  exact this (by simpa using hq) hz
theorem stds_of {S : List Way} {st : List Str} (hl : st.length = S.length) (h : ∀ (i : Nat) (q : Way) (z : Str), S[i]? = some q → st[i]? = some z → z ∈ q.2) : st ∈ stds S := by
  have key : ∀ (S : List Way) (sts : List (List Str)) (p st : List Str), p ∈ sts → st.length = S.length → (∀ (i : Nat) (q : Way) (z : Str), S[i]? = some q → st[i]? = some z → z ∈ q.2) → p ++ st ∈ S.foldl (fun sts q => mul1 sts q.2) sts := by
    intro S
    induction S with
    | nil =>
      intro sts p st hp hl _
      rw [List.length_eq_zero_iff.mp hl, List.append_nil]
      exact hp
    | cons a r ih =>
      intro sts p st hp hl h
      cases st with
      | nil => cases hl
      | cons x st =>
        have := ih (mul1 sts a.2) (p ++ [x]) st (List.mem_flatMap.mpr ⟨p, hp, List.mem_map.mpr ⟨x, h 0 a x rfl rfl, rfl⟩⟩) (by simpa using hl) (fun i q z hq hz => h (i + 1) q z (by simpa using hq) (by simpa using hz))
        rwa [List.append_assoc] at this
  exact key S [[]] [] st (List.mem_singleton.mpr rfl) hl h
theorem stds_set {S : List Way} {st : List Str} {i : Nat} {q : Way} {v : Str} (h : st ∈ stds S) (hq : S[i]? = some q) (hv : v ∈ q.2) : st.set i v ∈ stds S := by
  refine stds_of (by rw [List.length_set]; exact stds_mem h) fun j q' z hq' hz => ?_
  by_cases hj : i = j
  · subst hj
    rw [hq] at hq'
    cases hq'
    have hi : i < st.length := by
      rw [stds_mem h]
      exact (List.getElem?_eq_some_iff.mp hq).1
    rw [List.getElem?_set_self hi] at hz
    cases hz
    exact hv
  · rw [List.getElem?_set_ne hj] at hz
    exact stds_at h hq' hz
section
variable {P : Program} {w : World} {K : PySem.W.Frag} {mg : Str → Option Value} {base : Heap}
variable {fShape fNames fName fSorted fStds fTable fInts fInt fOne fPut : Addr} {dShape dNames dName dSorted dStds dTable dInts dInt dOne dPut : FuncData}
variable {C : Addr}
def spChoosers (K : PySem.W.Frag) (C : Addr) : Sp := fun args H Q _ => ∃ (g : Addr) (N : Addr → Prop) (S : List Way) (γ : List Str → List Int), args = [.ref g] ∧ IsG K C N H g S γ ∧ ∀ p, H p = none → Q (.ref p) (upd H p (.lst ((names S).map V.str)))
def spWays (K : PySem.W.Frag) (C : Addr) : Sp := fun args H Q _ => ∃ (g : Addr) (q : Way) (N : Addr → Prop) (S : List Way) (γ : List Str → List Int), args = [.ref g, .str q.1] ∧ IsG K C N H g S γ ∧ SOk S ∧ q ∈ S ∧ ∀ p, H p = none → Q (.ref p) (upd H p (.lst (q.2.map V.str)))
def spShape (K : PySem.W.Frag) (C : Addr) : Sp := fun args H Q _ => ∃ (g : Addr) (N : Addr → Prop) (S : List Way) (γ : List Str → List Int), args = [.ref g] ∧ IsG K C N H g S γ ∧ SOk S ∧ ∀ H' p, Same H H' → H p = none → ShL (fun a => H a = none) H' p (sh S) → Q (.ref p) H'
def spStandings (K : PySem.W.Frag) (C : Addr) : Sp := fun args H Q _ => ∃ (g : Addr) (N : Addr → Prop) (S : List Way) (γ : List Str → List Int), args = [.ref g] ∧ IsG K C N H g S γ ∧ ∀ p vs, H p = none → TupsAt H (stds S) vs → Q (.ref p) (upd H p (.lst vs))
def spGains (K : PySem.W.Frag) (C : Addr) : Sp := fun args H Q _ => ∃ (g a : Addr) (st : List Str) (N : Addr → Prop) (S : List Way) (γ : List Str → List Int), args = [.ref g, .ref a] ∧ IsG K C N H g S γ ∧ SOk S ∧ H a = some (.tup (st.map V.str)) ∧ st ∈ stds S ∧ ∀ H' b, Same H H' → SqT K H' b ((γ st).map V.int) → Q (.ref b) H'
def spGain (K : PySem.W.Frag) (C : Addr) : Sp := fun args H Q _ => ∃ (g a : Addr) (z : Str) (i : Nat) (n : Int) (st : List Str) (N : Addr → Prop) (S : List Way) (γ : List Str → List Int), args = [.ref g, .str z, .ref a] ∧ IsG K C N H g S γ ∧ SOk S ∧ H a = some (.tup (st.map V.str)) ∧ st ∈ stds S ∧
  (names S)[i]? = some z ∧ (γ st)[i]? = some n ∧ ∀ H', Same H H' → Q (.int n) H'
abbrev MtG (K : PySem.W.Frag) (C : Addr) (m : Str) (st : Stmt) (ps : List Str) (f : Addr) (fd : FuncData) := Mt K C m (Str.ofString "Game." ++ m) st ps f fd
theorem names_nm {S : List Way} (ok : SOk S) {z : Str} (h : z ∈ names S) : isNm z = true := by
  obtain ⟨q, hq, rfl⟩ := List.mem_map.mp h
  exact ok.nm q hq
theorem ok_choosers {f : Addr} {fd : FuncData} (T : KT K mg) (c : GC K C) (M : Mt K C "choosers" "Game.choosers" s_Game_choosers ["self"] f fd) : FnOk P w K mg base CX0 1 f fd ["self"] (spChoosers K C) := by
  have S : FnScope ["self"] ["self"] (defScope s_Game_choosers) := ⟨rfl, rfl, rfl, by decide +kernel, rfl, by decide +kernel, by decide +kernel⟩
  refine M.F.ok S (fun vs H Q E h => ?_) (fun cdv A outer s H vs Q E hr h => ?_)
  · obtain ⟨g, N, S, γ, rfl, _⟩ := h
    rfl
  · obtain ⟨g, N, S, γ, rfl, ⟨dx, wa, l, ta, vs, kvs, hG⟩, q⟩ := h
    refine ⟨_, pss_one (ps_ret (pe_callTy (call_listD rfl) (by rfl) T.m_list (by decide +kernel) (pa_cons (pe_fld (pv 0) rfl) pa_nil))), ?_⟩
    obtain ⟨kw, hkw, pkw⟩ := hG.hw
    refine ⟨_, rfl, g, C, dx, _, _, rfl, hG.hg, c.cl, c.nW, rfl, wa, kw, rfl, .inl hkw, fun p np => ?_⟩
    rw [show (kw.map fun kv => kV kv.1) = (names S).map V.str from paired_keys (paired_imp pkw fun _ _ q => q.at)]
    exact q p np
theorem ok_ways {f fK fH : Addr} {fd fdK fdH : FuncData} (G : GD K mg fShape fNames fName fSorted fStds fTable fInts fInt fOne fPut dShape dNames dName dSorted dStds dTable dInts dInt dOne dPut) (c : GC K C) (M : Mt K C "ways" "Game.ways" s_Game_ways ["self", "chooser"] f fd) (MK : MtCheck K C fK fdK) (MH : MtHas K C fH fdH) :
    FnOk P w K mg base CX0 4 f fd ["self", "chooser"] (spWays K C) := by
  have S : FnScope ["self", "chooser"] ["self", "chooser"] (defScope s_Game_ways) := ⟨rfl, rfl, rfl, by decide +kernel, rfl, by decide +kernel, by decide +kernel⟩
  refine M.F.ok S (fun vs H Q E h => ?_) (fun cdv A outer s H vs Q E hr h => ?_)
  · obtain ⟨g, q, N, S, γ, rfl, _⟩ := h
    rfl
  · obtain ⟨g, q, N, S, γ, rfl, hg, ok, hq, qq⟩ := h
    have hu := hu_of hr
    refine ⟨_, pss_cons (ps_expr (pe_meth (pv 0) c.cl MK.me (ok_check_chooser G c MK MH) hr MK.b .nil pass0 (pa_cons (pv 1) pa_nil)))
      (pss_one (ps_ret (pe_callTy call_list_of (by rfl) G.T.m_list (by decide +kernel) (pa_cons (pe_dget hu (pe_fld (pv 0) rfl) (pv 1) (fun _ _ => rfl)) pa_nil)))), ?_⟩
    obtain ⟨dx, wa, l, ta, vs, kvs, hG⟩ := id hg
    obtain ⟨kw, hkw, pkw⟩ := hG.hw
    obtain ⟨a, ha, na, hl⟩ := way_at pkw ok.nd hq
    refine ⟨_, rfl, g, dx, _, rfl, hG.hg, rfl, _, rfl, g, q.1, N, S, γ, rfl, hg, ok.nm q hq, List.mem_map.mpr ⟨q, hq, rfl⟩, ?_⟩
    refine ⟨_, rfl, g, C, dx, _, _, rfl, hG.hg, c.cl, c.nW, rfl, _, rfl, wa, _, rfl, (by rw [← ha]; exact DGet.k (k := Sum.inr q.1) hkw), a, _, rfl, .inl (SqL.of hl), qq⟩
theorem ok_shape {f : Addr} {fd : FuncData} (G : GD K mg fShape fNames fName fSorted fStds fTable fInts fInt fOne fPut dShape dNames dName dSorted dStds dTable dInts dInt dOne dPut) (c : GC K C) (M : Mt K C "shape" "Game.shape" s_Game_shape ["self"] f fd) : FnOk P w K mg base CX0 2 f fd ["self"] (spShape K C) := by
  have S : FnScope ["self"] ["self"] (defScope s_Game_shape) := ⟨rfl, rfl, rfl, by decide +kernel, rfl, by decide +kernel, by decide +kernel⟩
  refine M.F.ok S (fun vs H Q E h => ?_) (fun cdv A outer s H vs Q E hr h => ?_)
  · obtain ⟨g, N, S, γ, rfl, _⟩ := h
    rfl
  · obtain ⟨g, N, S, γ, rfl, ⟨dx, wa, l, ta, vs, kvs, hG⟩, ok, q⟩ := h
    refine ⟨_, pss_one (ps_ret (pe_call (ok_sorted_ways G.sorted G.m_sorted) hr (by rfl) G.sorted.g G.sorted.F.kp G.bSorted .nil pass0 (pa_cons (pe_fld (pv 0) rfl) pa_nil))), ?_⟩
    exact ⟨_, rfl, g, C, dx, _, _, rfl, hG.hg, c.cl, c.nW, rfl, wa, S, rfl, hG.hw.at, ok.nd, Nat.lt_of_le_of_lt ok.n4 (by decide), fun x hx => Nat.lt_of_le_of_lt (ok.w4 x hx) (by decide), q⟩
theorem ok_standings {f : Addr} {fd : FuncData} (T : KT K mg) (c : GC K C) (M : Mt K C "standings" "Game.standings" s_Game_standings ["self"] f fd) : FnOk P w K mg base CX0 1 f fd ["self"] (spStandings K C) := by
  have S : FnScope ["self"] ["self"] (defScope s_Game_standings) := ⟨rfl, rfl, rfl, by decide +kernel, rfl, by decide +kernel, by decide +kernel⟩
  refine M.F.ok S (fun vs H Q E h => ?_) (fun cdv A outer s H vs Q E hr h => ?_)
  · obtain ⟨g, N, S, γ, rfl, _⟩ := h
    rfl
  · obtain ⟨g, N, S, γ, rfl, ⟨dx, wa, l, ta, vs, kvs, hG⟩, q⟩ := h
    refine ⟨_, pss_one (ps_ret (pe_callTy call_list_of (by rfl) T.m_list (by decide +kernel) (pa_cons (pe_fld (pv 0) rfl) pa_nil))), ?_⟩
    exact ⟨_, rfl, g, C, dx, _, _, rfl, hG.hg, c.cl, c.nL, rfl, l, vs, rfl, .inl (SqL.of hG.hl), fun p np => q p vs np hG.hs⟩
theorem ok_gains {f fS fI : Addr} {fd fdS fdI : FuncData} (G : GD K mg fShape fNames fName fSorted fStds fTable fInts fInt fOne fPut dShape dNames dName dSorted dStds dTable dInts dInt dOne dPut) (c : GC K C) (M : Mt K C "gains" "Game.gains" s_Game_gains ["self", "standing"] f fd) (MS : MtStand K C fS fdS) (MI : MtIn K C fI fdI) :
    FnOk P w K mg base CX0 5 f fd ["self", "standing"] (spGains K C) := by
  have S : FnScope ["self", "standing"] ["self", "standing"] (defScope s_Game_gains) := ⟨rfl, rfl, rfl, by decide +kernel, rfl, by decide +kernel, by decide +kernel⟩
  refine M.F.ok S (fun vs H Q E h => ?_) (fun cdv A outer s H vs Q E hr h => ?_)
  · obtain ⟨g, a, st, N, S, γ, rfl, _⟩ := h
    rfl
  · obtain ⟨g, a, st, N, S, γ, rfl, hg, ok, ha, hst, q⟩ := h
    have hu := hu_of hr
    refine ⟨_, pss_cons (ps_expr (pe_meth (pv 0) c.cl MS.me (ok_check_standing G c MS MI) hr MS.b .nil pass0 (pa_cons (pv 1) pa_nil)))
      (pss_one (ps_ret (pe_dget hu (pe_fld (pv 0) rfl) (pv 1) (fun _ _ => rfl)))), ?_⟩
    obtain ⟨dx, wa, l, ta, vs, kvs, hG⟩ := id hg
    refine ⟨_, rfl, g, dx, _, rfl, hG.hg, rfl, _, rfl, g, a, st, N, S, γ, rfl, hg, ok, ha, hst, fun H1 s1 => ?_⟩
    have hG1 := hG.same s1
    obtain ⟨b, hb, hq⟩ := gain_at hG1.hk hst
    exact ⟨_, rfl, g, C, dx, _, _, rfl, hG1.hg, c.cl, c.nG, rfl, _, rfl, ta, _, rfl, (by rw [← hb]; exact DGet.t (k := kS st) hG1.ht (by rw [kS_v]; exact s1 _ _ ha)), q H1 b s1 hq⟩
theorem ok_gain {f fS fI fK fH fT : Addr} {fd fdS fdI fdK fdH fdT : FuncData} (G : GD K mg fShape fNames fName fSorted fStds fTable fInts fInt fOne fPut dShape dNames dName dSorted dStds dTable dInts dInt dOne dPut) (c : GC K C) (M : Mt K C "gain" "Game.gain" s_Game_gain ["self", "chooser", "standing"] f fd) (MS : MtStand K C fS fdS) (MI : MtIn K C fI fdI)
    (MK : MtCheck K C fK fdK) (MH : MtHas K C fH fdH) (MT : MtSeat K C fT fdT) : FnOk P w K mg base CX0 5 f fd ["self", "chooser", "standing"] (spGain K C) := by
  have S : FnScope ["self", "chooser", "standing"] ["self", "chooser", "standing"] (defScope s_Game_gain) := ⟨rfl, rfl, rfl, by decide +kernel, rfl, by decide +kernel, by decide +kernel⟩
  refine M.F.ok S (fun vs H Q E h => ?_) (fun cdv A outer s H vs Q E hr h => ?_)
  · obtain ⟨g, a, z, i, n, st, N, S, γ, rfl, _⟩ := h
    rfl
  · obtain ⟨g, a, z, i, n, st, N, S, γ, rfl, hg, ok, ha, hst, hi, hn, q⟩ := h
    have hu := hu_of hr
    refine ⟨_, pss_cons (ps_expr (pe_meth (pv 0) c.cl MK.me (ok_check_chooser G c MK MH) (hr.mono (by decide)) MK.b .nil pass0 (pa_cons (pv 1) pa_nil)))
      (pss_cons (ps_expr (pe_meth (pv 0) c.cl MS.me (ok_check_standing G c MS MI) hr MS.b .nil pass0 (pa_cons (pv 2) pa_nil)))
      (pss_one (ps_ret (pe_ix ix_tup (pe_dget hu (pe_fld (pv 0) rfl) (pv 2) (fun _ _ => rfl)) (pe_meth (pv 0) c.cl MT.me (ok_seat G.T c MT) (hr.mono (by decide)) MT.b .nil pass0 (pa_cons (pv 1) pa_nil)) (fun _ _ => rfl))))), ?_⟩
    obtain ⟨dx, wa, l, ta, vs, kvs, hG⟩ := id hg
    have hz : z ∈ names S := List.mem_of_getElem? hi
    refine ⟨_, rfl, g, dx, _, rfl, hG.hg, rfl, _, rfl, g, z, N, S, γ, rfl, hg, names_nm ok hz, hz, ?_⟩
    refine ⟨_, rfl, g, dx, _, rfl, hG.hg, rfl, _, rfl, g, a, st, N, S, γ, rfl, hg, ok, ha, hst, fun H1 s1 => ?_⟩
    have hG1 := hG.same s1
    obtain ⟨b, hb, hq⟩ := gain_at hG1.hk hst
    refine ⟨_, rfl, g, C, dx, _, _, rfl, hG1.hg, c.cl, c.nG, rfl, _, rfl, ta, _, rfl, (by rw [← hb]; exact DGet.t (k := kS st) hG1.ht (by rw [kS_v]; exact s1 _ _ ha)), ?_⟩
    refine ⟨_, rfl, g, dx, _, rfl, hG1.hg, rfl, _, rfl, g, z, i, N, S, γ, rfl, hg.same s1, ok.nd, hi, fun H2 s2 => ?_⟩
    exact ⟨b, _, _, _, rfl, rfl, same_sqt s2 hq, atI_nat (by rw [List.getElem?_map, hn]; rfl), q H2 (s1.trans s2)⟩
end
end HG

namespace HG
open PySem PySem.Spec PyProof.Rows L2
open C8 (pss_cut tCut)
def spIsChange (K : PySem.W.Frag) : Sp := fun args H Q _ => ∃ x, args = [x] ∧
  ((∃ xs, SeqV K H x xs ∧ (1 ≤ xs.length → xs.length ≤ 4 → ∀ y ∈ xs, ∃ t, AnyV K H y t) ∧ ∀ H', Same H H' → Q (.bl (namesV xs && decide (xs.length = 2))) H') ∨
   (∃ t, AnyV K H x t ∧ t ≠ .lst ∧ t ≠ .tup ∧ ∀ H', Same H H' → Q (.bl false) H'))
section
variable {P : Program} {w : World} {K : PySem.W.Frag} {mg : Str → Option Value} {base : Heap}
variable {fShape fNames fName fSorted fStds fTable fInts fInt fOne fPut : Addr} {dShape dNames dName dSorted dStds dTable dInts dInt dOne dPut : FuncData}
variable {C : Addr}
theorem ok_is_change {f fA fN : Addr} {fd fdA fdN : FuncData} (D : Df K mg "is_change" s_is_change f fd) (A : Df K mg "are_names" s_are_names fA fdA) (bA : Binds K fdA ["thing"] []) (N : Df K mg "is_name" s_is_name fN fdN) (bN : Binds K fdN ["thing"] []) (T : KT K mg) : FnOk P w K mg base CX0 3 f fd ["thing"] (spIsChange K) := by
  have S : FnScope ["thing"] ["thing"] (defScope s_is_change) := ⟨rfl, rfl, rfl, by decide +kernel, rfl, by decide +kernel, by decide +kernel⟩
  refine D.F.ok S (fun vs H Q E h => ?_) (fun cdv Ar outer s H vs Q E hr h => ?_)
  · obtain ⟨x, rfl, _⟩ := h
    rfl
  · obtain ⟨x, rfl, q⟩ := h
    refine ⟨_, pss_one (ps_ret (pe_and (pe_call (ok_are_names A N bN T) hr (by rfl) A.g A.F.kp bA .nil pass0 (pa_cons (pv 0) pa_nil)) (pe_one (pe_cmpR op_eq (pe_callB call_len_seq (by rfl) T.m_len PySem.boot_len (pa_cons (pv 0) pa_nil)) pe_int (nomark _))))), ?_⟩
    rcases q with ⟨xs, hx, ha, q⟩ | ⟨t, ht, n1, n2, q⟩
    · refine ⟨_, rfl, x, rfl, .inl ⟨xs, hx, ha, fun H1 s1 => ?_⟩⟩
      obtain ⟨p, rfl, hl⟩ := (hx.same s1).len
      refine ⟨_, rfl, ?_⟩
      have q1 := q H1 s1
      cases e : namesV xs with
      | false =>
        rw [e] at q1
        exact q1
      | true =>
        rw [e, Bool.true_and] at q1
        refine ⟨_, rfl, p, xs, rfl, hl, rfl, ?_⟩
        rw [show decide (V.int (xs.length : Int) = V.int 2) = decide (xs.length = 2) by
          rw [Bool.eq_iff_iff, decide_eq_true_iff, decide_eq_true_iff]
          exact ⟨fun h => by have := V.int.inj h; omega, fun h => by rw [h]; rfl⟩]
        exact q1
    · refine ⟨_, rfl, x, rfl, .inr ⟨t, ht, n1, n2, fun H1 s1 => ?_⟩⟩
      exact ⟨_, rfl, q H1 s1⟩
/-- can_do of two names, the first a chooser -/
def spCanDo (K : PySem.W.Frag) (C : Addr) : Sp := fun args H Q _ => ∃ (g a : Addr) (x : V) (c v : Str) (i : Nat) (q : Way) (z : Str) (st : List Str) (N : Addr → Prop) (S : List Way) (γ : List Str → List Int), args = [.ref g, .ref a, x] ∧ IsG K C N H g S γ ∧ SOk S ∧ SeqV K H x [.str c, .str v] ∧ isNm v = true ∧
  S[i]? = some q ∧ q.1 = c ∧ H a = some (.tup (st.map V.str)) ∧ st[i]? = some z ∧ ∀ H', Same H H' → Q (.bl (decide (v ∈ q.2) && !decide (v = z))) H'
abbrev MtCan (K : PySem.W.Frag) (C f : Addr) (fd : FuncData) := Mt K C "can_do" "Game.can_do" s_Game_can_do ["self", "standing", "thing"] f fd
structure GDC (K : PySem.W.Frag) (mg : Str → Option Value) (fCh : Addr) (dCh : FuncData) : Prop where
  ch : Df K mg "is_change" s_is_change fCh dCh
  b : Binds K dCh ["thing"] []
theorem rIx_of {K : PySem.W.Frag} {H : Hp} {p : Addr} {xs : List V} {j : Nat} {v : V} {Q : VK} (h : SqL K H p xs ∨ SqT K H p xs) (e : xs[j]? = some v) (q : Q v H) : rIx K (.ref p) (.int (j : Int)) H Q := by
  rcases h with h | h
  · exact .inl ⟨p, xs, _, v, rfl, rfl, h, atI_nat e, q⟩
  · exact .inr (.inl ⟨p, xs, _, v, rfl, rfl, h, atI_nat e, q⟩)
theorem seq2 {K : PySem.W.Frag} {H : Hp} {x : V} {y z : V} (h : SeqV K H x [y, z]) : ∃ p, x = .ref p ∧ (SqL K H p [y, z] ∨ SqT K H p [y, z]) := h.len
theorem ok_can_do {fCh : Addr} {dCh : FuncData} {f fH fT : Addr} {fd fdH fdT : FuncData} (G : GD K mg fShape fNames fName fSorted fStds fTable fInts fInt fOne fPut dShape dNames dName dSorted dStds dTable dInts dInt dOne dPut) (GH : GDC K mg fCh dCh) (c : GC K C) (M : MtCan K C f fd) (MH : MtHas K C fH fdH) (MT : MtSeat K C fT fdT) :
    FnOk P w K mg base CX0 4 f fd ["self", "standing", "thing"] (spCanDo K C) := by
  have S : FnScope ["self", "standing", "thing", "chooser", "way"] ["self", "standing", "thing"] (defScope s_Game_can_do) := ⟨rfl, rfl, rfl, by decide +kernel, rfl, by decide +kernel, by decide +kernel⟩
  have nd := S.nd
  refine M.F.ok S (fun vs H Q E h => ?_) (fun cdv A outer s H vs Q E hr h => ?_)
  · obtain ⟨g, a, x, ch, v, i, q, z, st, N, S, γ, rfl, _⟩ := h
    rfl
  · obtain ⟨g, a, x, ch, v, i, q, z, st, N, S, γ, rfl, hg, ok, hx, hv, hq, rfl, ha, hz, qq⟩ := h
    have hu := hu_of hr
    refine ⟨_, pss_cons (ps_if (PW.pt (pw_or (pt_not (pt_val (pe_call (ok_is_change GH.ch G.names G.bNames G.name G.bName G.T) hr (by rfl) GH.ch.g GH.ch.F.kp GH.b .nil pass0 (pa_cons (pv 2) pa_nil))))
        (pw_or1 (pt_not (pt_val (pe_meth (pv 0) c.cl MH.me (ok_has_chooser G c MH) (hr.mono (by decide)) MH.b .nil pass0 (pa_cons (pe_ix ix_seq (pv 2) pe_int (fun _ _ => rfl)) pa_nil))))))) (pss_one (ps_ret pe_bl)) pss_nil)
      (pss_cons (ps_asg (pv 2) (pg_seq rfl (pgs_cons (pg_name (i := 3) nd rfl (Or.inl rfl)) (pgs_cons (pg_name (i := 4) nd rfl (Or.inl rfl)) pgs_nil))))
      (pss_one (ps_ret (pe_and (pe_cmpR op_in_seq (pv 4) (pe_dget hu (pe_fld (pv 0) rfl) (pv 3) (fun _ _ => rfl)) (by rfl))
        (pe_one (pe_cmpR op_ne (pv 4) (pe_ix ix_tup (pv 1) (pe_meth (pv 0) c.cl MT.me (ok_seat G.T c MT) (hr.mono (by decide)) MT.b .nil pass0 (pa_cons (pv 3) pa_nil)) (fun _ _ => rfl)) (nomark _))))))), ?_⟩
    have hqm : q ∈ S := List.mem_of_getElem? hq
    have hn : ∀ y ∈ ([q.1, v] : List Str), isNm y = true := fun y hy => by
      rcases List.mem_cons.mp hy with rfl | hy
      · exact ok.nm q hqm
      · rw [List.mem_singleton.mp hy]
        exact hv
    refine ⟨_, rfl, x, rfl, .inl ⟨[.str q.1, .str v], hx, fun _ _ => names_any (xs := [q.1, v]) hn, fun H1 s1 => ?_⟩⟩
    rw [show (namesV [.str q.1, .str v] && decide (([V.str q.1, V.str v] : List V).length = 2)) = true by
      rw [show namesV [.str q.1, .str v] = true from namesV_yes (xs := [q.1, v]) hn (by show 1 ≤ 2; decide) (by show 2 ≤ 4; decide)]
      rfl]
    refine ⟨_, rfl, iteF ?_⟩
    have hg1 := hg.same s1
    obtain ⟨dx, wa, l, ta, vs, kvs, hG⟩ := id hg1
    obtain ⟨p, rfl, hp⟩ := seq2 (hx.same s1)
    have hin : hasCh S (.str q.1) = true := by
      show (isNm q.1 && decide (q.1 ∈ names S)) = true
      have hm : q.1 ∈ names S := List.mem_map.mpr ⟨q, hqm, rfl⟩
      rw [ok.nm q hqm, decide_eq_true hm]
      rfl
    refine ⟨_, rfl, g, dx, _, rfl, hG.hg, rfl, _, rfl, rIx_of (j := 0) (v := .str q.1) hp rfl ⟨g, .str q.1, .str, N, S, γ, rfl, hg1, nm_any (ok.nm q hqm), ?_⟩⟩
    rw [hin]
    refine ⟨_, rfl, iteF ?_⟩
    refine ⟨_, rfl, p, _, rfl, hp, rfl, _, _, rfl, _, _, rfl, rfl, ?_⟩
    obtain ⟨kw, hkw, pkw⟩ := hG.hw
    obtain ⟨b, hb, _, hl⟩ := way_at pkw ok.nd hqm
    have q1 := qq
    refine ⟨_, rfl, _, rfl, g, C, dx, _, _, rfl, hG.hg, c.cl, c.nW, rfl, _, rfl, wa, _, rfl, (by rw [← hb]; exact DGet.k (k := Sum.inr q.1) hkw), b, _, rfl, .inl (SqL.of hl), rfl, flat_strs _, _, rfl, ?_⟩
    rw [if_neg Bool.false_ne_true, inV_strs]
    cases e : decide (v ∈ q.2) with
    | false =>
      rw [e] at q1
      exact q1 H1 s1
    | true =>
      rw [e, Bool.true_and] at q1
      refine ⟨_, rfl, _, rfl, _, rfl, g, dx, _, rfl, hG.hg, rfl, _, rfl, g, q.1, i, N, S, γ, rfl, hg1, ok.nd, (by unfold names; rw [List.getElem?_map, hq]; rfl), fun H2 s2 => ?_⟩
      refine ⟨a, _, _, _, rfl, rfl, SqT.of (s2 _ _ (s1 _ _ ha)), atI_nat (v := .str z) (by rw [List.getElem?_map, hz]; rfl), rfl, ?_⟩
      rw [show decide (V.str v = V.str z) = decide (v = z) by
        rw [Bool.eq_iff_iff, decide_eq_true_iff, decide_eq_true_iff]
        exact ⟨fun h => V.str.inj h, fun h => by rw [h]⟩]
      exact q1 H2 (s1.trans s2)
end
end HG

namespace HG
open PySem PySem.Spec PyProof.Rows L2
open C8 (pss_cut tCut)
section
variable {P : Program} {w : World} {K : PySem.W.Frag} {mg : Str → Option Value} {base : Heap}
variable {fShape fNames fName fSorted fStds fTable fInts fInt fOne fPut : Addr} {dShape dNames dName dSorted dStds dTable dInts dInt dOne dPut : FuncData}
variable {C fCh : Addr} {dCh : FuncData}
/-- a change that can be done -/
structure Doable (K : PySem.W.Frag) (C : Addr) (H : Hp) (g a : Addr) (x : V) (v : Str) (i : Nat) (q : Way) (z : Str) (st : List Str) (N : Addr → Prop) (S : List Way) (γ : List Str → List Int) : Prop where
  hg : IsG K C N H g S γ
  ok : SOk S
  hx : SeqV K H x [.str q.1, .str v]
  hq : S[i]? = some q
  hv : v ∈ q.2
  ha : H a = some (.tup (st.map V.str))
  hst : st ∈ stds S
  hz : st[i]? = some z
  ne : v ≠ z
theorem Doable.same {K : PySem.W.Frag} {C : Addr} {H H' : Hp} {g a : Addr} {x : V} {v : Str} {i : Nat} {q : Way} {z : Str} {st : List Str} {N : Addr → Prop} {S : List Way} {γ : List Str → List Int} (D : Doable K C H g a x v i q z st N S γ) (s : Same H H') : Doable K C H' g a x v i q z st N S γ :=
  ⟨D.hg.same s, D.ok, D.hx.same s, D.hq, D.hv, s _ _ D.ha, D.hst, D.hz, D.ne⟩
def spGoal (K : PySem.W.Frag) (C : Addr) : Sp := fun args H Q _ => ∃ (g a : Addr) (x : V) (v : Str) (i : Nat) (q : Way) (z : Str) (st : List Str) (N : Addr → Prop) (S : List Way) (γ : List Str → List Int), args = [.ref g, .ref a, x] ∧ Doable K C H g a x v i q z st N S γ ∧
  ∀ H' p, Same H H' → H' p = some (.tup ((st.set i v).map V.str)) → Q (.ref p) H'
def spOwn (K : PySem.W.Frag) (C : Addr) : Sp := fun args H Q _ => ∃ (g a : Addr) (x : V) (v : Str) (i : Nat) (q : Way) (z : Str) (st : List Str) (N : Addr → Prop) (S : List Way) (γ : List Str → List Int) (m n : Int), args = [.ref g, .ref a, x] ∧ Doable K C H g a x v i q z st N S γ ∧
  (γ (st.set i v))[i]? = some m ∧ (γ st)[i]? = some n ∧ ∀ H', Same H H' → Q (.int (m - n)) H'
abbrev MtGoal (K : PySem.W.Frag) (C f : Addr) (fd : FuncData) := Mt K C "goal" "Game.goal" s_Game_goal ["self", "standing", "change"] f fd
theorem ok_goal {f fS fI fC fH fT : Addr} {fd fdS fdI fdC fdH fdT : FuncData} (G : GD K mg fShape fNames fName fSorted fStds fTable fInts fInt fOne fPut dShape dNames dName dSorted dStds dTable dInts dInt dOne dPut) (GH : GDC K mg fCh dCh) (c : GC K C) (M : MtGoal K C f fd) (MS : MtStand K C fS fdS) (MI : MtIn K C fI fdI)
    (MC : MtCan K C fC fdC) (MH : MtHas K C fH fdH) (MT : MtSeat K C fT fdT) : FnOk P w K mg base CX0 5 f fd ["self", "standing", "change"] (spGoal K C) := by
  have S : FnScope ["self", "standing", "change"] ["self", "standing", "change"] (defScope s_Game_goal) := ⟨rfl, rfl, rfl, by decide +kernel, rfl, by decide +kernel, by decide +kernel⟩
  refine M.F.ok S (fun vs H Q E h => ?_) (fun cdv A outer s H vs Q E hr h => ?_)
  · obtain ⟨g, a, x, v, i, q, z, st, N, S, γ, rfl, _⟩ := h
    rfl
  · obtain ⟨g, a, x, v, i, q, z, st, N, S, γ, rfl, D, qq⟩ := h
    refine ⟨_, pss_cons (ps_expr (pe_meth (pv 0) c.cl MS.me (ok_check_standing G c MS MI) hr MS.b .nil pass0 (pa_cons (pv 1) pa_nil)))
      (pss_cons (ps_if (pt_not (pt_val (pe_meth (pv 0) c.cl MC.me (ok_can_do G GH c MC MH MT) hr MC.b .nil pass0 (pa_cons (pv 1) (pa_cons (pv 2) pa_nil))))) pss_never pss_nil)
      (pss_one (ps_ret (pe_call (ok_put G.put) (hr.mono (by decide)) (by rfl) G.put.g G.put.F.kp G.bPut .nil pass0 (pa_cons (pv 1) (pa_cons (pe_meth (pv 0) c.cl MT.me (ok_seat G.T c MT) (hr.mono (by decide)) MT.b .nil pass0 (pa_cons (pe_ix ix_seq (pv 2) pe_int (fun _ _ => rfl)) pa_nil)) (pa_cons (pe_ix ix_seq (pv 2) pe_int (fun _ _ => rfl)) pa_nil))))))), ?_⟩
    obtain ⟨dx, wa, l, ta, vs, kvs, hG⟩ := id D.hg
    refine ⟨_, rfl, g, dx, _, rfl, hG.hg, rfl, _, rfl, g, a, st, N, S, γ, rfl, D.hg, D.ok, D.ha, D.hst, fun H1 s1 => ?_⟩
    have D1 := D.same s1
    refine ⟨_, rfl, g, dx, _, rfl, (hG.same s1).hg, rfl, _, rfl, _, rfl, g, a, x, q.1, v, i, q, z, st, N, S, γ, rfl, D1.hg, D.ok, D1.hx, D.ok.wn q (List.mem_of_getElem? D.hq) v D.hv, D.hq, rfl, D1.ha, D.hz, fun H2 s2 => ?_⟩
    have D2 := D1.same s2
    have hG2 := hG.same (s1.trans s2)
    rw [show (decide (v ∈ q.2) && !decide (v = z)) = true by rw [decide_eq_true D.hv, decide_eq_false D.ne]; rfl]
    refine ⟨_, rfl, iteF ?_⟩
    obtain ⟨p, rfl, hp⟩ := seq2 D2.hx
    refine ⟨_, rfl, _, rfl, g, dx, _, rfl, hG2.hg, rfl, _, rfl, rIx_of (j := 0) (v := .str q.1) hp rfl ⟨g, q.1, i, N, S, γ, rfl, D2.hg, D.ok.nd, (by unfold names; rw [List.getElem?_map, D.hq]; rfl), fun H3 s3 => ?_⟩⟩
    have D3 := D2.same s3
    refine ⟨_, rfl, rIx_of (j := 1) (v := .str v) (hp.imp s3.seq (same_sqt s3)) rfl ⟨a, i, .str v, st.map V.str, rfl, D3.ha, ?_, ?_, fun H4 p4 s4 h4 => ?_⟩⟩
    · rw [List.length_map]
      exact (List.getElem?_eq_some_iff.mp D.hz).1
    · rw [List.length_map, stds_mem D.hst]
      have := D.ok.n4
      omega
    · refine qq H4 p4 (s1.trans (s2.trans (s3.trans s4))) ?_
      rw [h4, List.map_set]
theorem ok_own {f fG fS fI fC fH fT : Addr} {fd fdG fdS fdI fdC fdH fdT : FuncData} (G : GD K mg fShape fNames fName fSorted fStds fTable fInts fInt fOne fPut dShape dNames dName dSorted dStds dTable dInts dInt dOne dPut) (GH : GDC K mg fCh dCh) (c : GC K C) (M : Mt K C "own" "Game.own" s_Game_own ["self", "standing", "change"] f fd) (MG : MtGoal K C fG fdG) (MS : MtStand K C fS fdS) (MI : MtIn K C fI fdI)
    (MC : MtCan K C fC fdC) (MH : MtHas K C fH fdH) (MT : MtSeat K C fT fdT) : FnOk P w K mg base CX0 6 f fd ["self", "standing", "change"] (spOwn K C) := by
  have S : FnScope ["self", "standing", "change", "behind", "at"] ["self", "standing", "change"] (defScope s_Game_own) := ⟨rfl, rfl, rfl, by decide +kernel, rfl, by decide +kernel, by decide +kernel⟩
  have nd := S.nd
  refine M.F.ok S (fun vs H Q E h => ?_) (fun cdv A outer s H vs Q E hr h => ?_)
  · obtain ⟨g, a, x, v, i, q, z, st, N, S, γ, m, n, rfl, _⟩ := h
    rfl
  · obtain ⟨g, a, x, v, i, q, z, st, N, S, γ, m, n, rfl, D, hm, hn, qq⟩ := h
    have hu := hu_of hr
    refine ⟨_, pss_cons (ps_set (i := 3) nd rfl (Or.inl rfl) (pe_meth (pv 0) c.cl MG.me (ok_goal G GH c MG MS MI MC MH MT) hr MG.b .nil pass0 (pa_cons (pv 1) (pa_cons (pv 2) pa_nil))))
      (pss_cons (ps_set (i := 4) nd rfl (Or.inl rfl) (pe_meth (pv 0) c.cl MT.me (ok_seat G.T c MT) (hr.mono (by decide)) MT.b .nil pass0 (pa_cons (pe_ix ix_seq (pv 2) pe_int (fun _ _ => rfl)) pa_nil)))
      (pss_one (ps_ret (pe_op op_sub (pe_ix ix_tup (pe_dget hu (pe_fld (pv 0) rfl) (pv 3) (fun _ _ => rfl)) (pv 4) (fun _ _ => rfl)) (pe_ix ix_tup (pe_dget hu (pe_fld (pv 0) rfl) (pv 1) (fun _ _ => rfl)) (pv 4) (fun _ _ => rfl)))))), ?_⟩
    obtain ⟨dx, wa, l, ta, vs, kvs, hG⟩ := id D.hg
    refine ⟨_, rfl, g, dx, _, rfl, hG.hg, rfl, _, rfl, _, rfl, g, a, x, v, i, q, z, st, N, S, γ, rfl, D, fun H1 p1 s1 h1 => ?_⟩
    have D1 := D.same s1
    obtain ⟨p, rfl, hp⟩ := seq2 D1.hx
    refine ⟨_, rfl, g, dx, _, rfl, (hG.same s1).hg, rfl, _, rfl, rIx_of (j := 0) (v := .str q.1) hp rfl ⟨g, q.1, i, N, S, γ, rfl, D1.hg, D.ok.nd, (by unfold names; rw [List.getElem?_map, D.hq]; rfl), fun H2 s2 => ?_⟩⟩
    have hG2 := hG.same (s1.trans s2)
    have hset := stds_set D.hst D.hq D.hv
    obtain ⟨b, hb, hbq⟩ := gain_at hG2.hk hset
    obtain ⟨d, hd, hdq⟩ := gain_at hG2.hk D.hst
    refine ⟨_, rfl, g, C, dx, _, _, rfl, hG2.hg, c.cl, c.nG, rfl, _, rfl, ta, _, rfl, (by rw [← hb]; exact DGet.t (k := kS (st.set i v)) hG2.ht (by rw [kS_v]; exact s2 _ _ h1)), _, rfl, b, _, _, .int m, rfl, rfl, hbq, atI_nat (by rw [List.getElem?_map, hm]; rfl), ?_⟩
    refine ⟨_, rfl, g, C, dx, _, _, rfl, hG2.hg, c.cl, c.nG, rfl, _, rfl, ta, _, rfl, (by rw [← hd]; exact DGet.t (k := kS st) hG2.ht (by rw [kS_v]; exact s2 _ _ D1.ha)), _, rfl, d, _, _, .int n, rfl, rfl, hdq, atI_nat (by rw [List.getElem?_map, hn]; rfl), ?_⟩
    exact ⟨m, n, rfl, rfl, qq H2 (s1.trans s2)⟩
end
end HG

namespace HG
open PySem PySem.Spec PyProof.Rows L2
/-! ### except (A, B, C): what the body lets out is always one of the three -/
def wTup (K : PySem.W.Frag) (cs : List Value) (ts : Addr → Value → Option Addr → TS) (D : Ends) : WX := fun cls d τ G => PySem.W.exmAny K cls cs = some true ∧ ∀ a, G a = none → ts a cls d D τ G
theorem fly_kept {B : Heap} {l : List Env} {a : Addr} {Z : Obj → Prop} {g g' : Heap} (F : HandSPX.FlyingZ B l a Z g) (kp : ∀ b o, g.get? b = some o → g'.get? b = some o) : HandSPX.FlyingZ B l a Z g' := by
  obtain ⟨y1, y2, y3, ob, vs, T, oT, ts, e1, e2, e3, e4, e5, e6, e7, e8, e9⟩ := F
  exact ⟨fun b o q => kp b o (y1 b o q), y2, y3.of_keeps fun b o q _ => ⟨o, kp b o q, rfl⟩, ob, vs, T, oT, ts, kp _ _ e1, e2, e3, e4, e5, e6, kp _ _ e7, e8, e9⟩
section
variable {X : Cx} {x1 x2 x3 : Str} {c1 c2 c3 : Value} {body suite : List Stmt} {b₀ : Stmt} {p1 p2 p3 tp pos pos' : Pos} {kk : Nat} {tb : WX → TS} {ts : Addr → Value → Option Addr → TS}
theorem ps_try_tup (hst : X.stack = X.env :: X.outer) (hfl : X.env.frame = some X.env.locals) (n1 : Names X x1 c1) (n2 : Names X x2 c2) (n3 : Names X x3 c3)
    (hbody : ∀ (W : WX) (pl : List (Addr × Obj)) (xe : Value → Shared → Prop), Takes (X.tr pl xe) W → PassesOwn (model X.prog X.w) X.A X.env xe → PSs (X.tr pl xe) body (tb W))
    (hsuite : ∀ (a : Addr) (ob : Obj) (cls : Value) (d : Option Addr) (pl : List (Addr × Obj)), Zc cls d ob → (∃ vs, ob.data = .fields vs) → PSs (X.suite a ((a, ob) :: pl)) (b₀ :: suite) (ts a cls d)) :
    PS X (.Try body [.ExceptHandler (some (.Tuple [.Name x1 p1, .Name x2 p2, .Name x3 p3] kk tp)) none (b₀ :: suite) pos'] [] [] pos) (fun D τ G => tb (wTup X.K [c1, c2, c3] ts D) D τ G) := by
  refine ⟨fun pins s τ G D I h => ?_⟩
  have okX := I.ok
  have hA : X.A.frames = some (X.env :: X.outer) := by rw [okX.frames, hst]
  refine wpAny_Try_except ?_
  refine wpAny_mono ((hbody (wTup X.K [c1, c2, c3] ts D) (X.pn ++ pins) (fun e t => wpAny (model X.prog X.w) X.A (noteFrame e X.env) (fun _ t2 => wpAny (model X.prog X.w) X.A (setFlight e none) (fun _ t3 =>
    wpAny (model X.prog X.w) X.A (handleBy e X.env [.ExceptHandler (some (.Tuple [.Name x1 p1, .Name x2 p2, .Name x3 p3] kk tp)) none (b₀ :: suite) pos']) (SP X pins D) X.xe t3) X.xe t2) X.xe t) (fun u t xx => ?_) PassesOwn.looking).run [] s τ G D (I.toTry _) h) (fun f t hsp => ?_) (fun _ _ z => z)
  · obtain ⟨a, B, sI, pins', τ', G', cls, d, rfl, J0, nb, up, sky, na, os, ag, hm, hgo⟩ := xx
    have J : Inv X pins τ' G' sI := J0.ofTry okX
    have sky1 : Sky B (X.env :: X.outer) a (Zc cls d) X.env.locals t.heap := hst ▸ sky
    show wpAny (model X.prog X.w) X.A (noteFrame (.ref a) X.env) _ _ _
    refine Sky.land Zc.steady hA hfl sky1 fun h1 F1 up1 => ?_
    have J1 : Inv X pins τ' G' { t with heap := h1 } := J.landed nb F1.1 (up.trans up1) os ag
    obtain ⟨o1, v1, e1, z1, d1⟩ := F1.there
    have out : a ∉ frs (X.env :: X.outer) := fun hm => by
      obtain ⟨_, o', e', hnf⟩ := F1.2.2.1.mem hm
      rw [e1] at e'
      cases e'
      exact hnf _ d1
    have aL : a ≠ X.env.locals := fun z => out (List.mem_filterMap.mpr ⟨X.env, List.mem_cons_self, by rw [hfl, z]⟩)
    have aF : a ∉ X.fs := fun hm => by
      obtain ⟨v, hv, q⟩ := List.mem_filterMap.mp hm
      exact out (List.mem_filterMap.mpr ⟨v, List.mem_cons_of_mem _ hv, q⟩)
    have S1 := J1.suite e1 d1 na aL aF
    refine wpAny_handleBy_cons (codeAny_handlers_test ?_) (by intro q; cases q)
    have nm : ∀ {x : Str} {c : Value} {np : Pos} {Q : Value → Shared → Prop} {E : Value → Shared → Prop}, Names X x c → Q c { t with heap := h1 } → wpAny (model X.prog X.w) (X.A.mark (some (.ref a))) (eval (.Name x np) X.env) Q E { t with heap := h1 } := fun {x c np Q E} hn q => by
      obtain ⟨hg, hd, hk | ⟨hk, hv, hne⟩⟩ := hn
      · exact ld_glob (X := X.suite a ((a, o1) :: (X.pn ++ pins))) S1 hg hk q hd
      · exact ld_blt (X := X.suite a ((a, o1) :: (X.pn ++ pins))) S1 hg hk hv q hne hd
    refine wpAny_Tuple (wpAny_items_cons (nm n1 (wpAny_items_cons (nm n2 (wpAny_items_cons (nm n3 (wpAny_items_nil ⟨by size_fits, ?_⟩)))))))
    have kp : ∀ q o, h1.get? q = some o → (h1.push { cls := .type "tuple", data := .seq [c1, c2, c3].toArray }).get? q = some o := fun _ _ z => Heap.get?_push_of_some _ z
    have LT : PySem.W.Looks (model X.prog X.w) (h1.push { cls := .type "tuple", data := .seq [c1, c2, c3].toArray }) (typeOf (.ref a)) cls := fun A Q E s k q => wpAny_typeOf_ref (k _ _ (kp _ _ e1)) (by rw [z1.1]; exact q)
    refine (PySem.W.exm_tup3 (M := model X.prog X.w) (J1.kIn.keeps kp) LT (Heap.get?_push_size h1 rfl) hm).here ?_
    refine codeAny_handlers_suite ?_
    refine HandSPX.lands_againZ (fly_kept F1 kp) fun h2 F2 up2 => ?_
    have J2 : Inv X pins τ' G' { t with heap := h2 } := J.landed nb F2.1 (((up.trans up1).trans (Heap.UpToSlots.of_keeps kp)).trans up2) os ag
    obtain ⟨o2, v2, e2, z2, d2⟩ := F2.there
    refine wpAny_mono ((hsuite a o2 cls d (X.pn ++ pins) z2 ⟨_, d2⟩).run [] _ _ G' _ (J2.suite e2 d2 na aL aF) (hgo a na)) (fun f t6 hsp => ?_) (fun _ _ z => False.elim z)
    cases f with
    | ret u =>
      obtain ⟨v6, τ6, G6, S6, r6, q6⟩ := hsp
      exact ⟨_, _, _, S6.unsuite okX, r6, q6⟩
    | next =>
      obtain ⟨τ6, G6, S6, q6⟩ := hsp
      exact ⟨_, _, S6.unsuite okX, q6⟩
    | brk =>
      obtain ⟨τ6, G6, S6, q6⟩ := hsp
      exact ⟨_, _, S6.unsuite okX, q6⟩
    | cont =>
      obtain ⟨τ6, G6, S6, q6⟩ := hsp
      exact ⟨_, _, S6.unsuite okX, q6⟩
  · cases f with
    | ret u =>
      obtain ⟨v, τ', G', J', r, q⟩ := hsp
      exact ⟨v, τ', G', J'.ofTry okX, r, q⟩
    | next =>
      obtain ⟨τ', G', J', q⟩ := hsp
      exact wpAny_execs_nil ⟨τ', G', J'.ofTry okX, q⟩
    | brk =>
      obtain ⟨τ', G', J', q⟩ := hsp
      exact ⟨τ', G', J'.ofTry okX, q⟩
    | cont =>
      obtain ⟨τ', G', J', q⟩ := hsp
      exact ⟨τ', G', J'.ofTry okX, q⟩
end
/-! ### isinstance of a caught own error -/
def rIsCt (K : PySem.W.Frag) (a : Addr) (cls : Value) (d : Option Addr) : List V → Hp → VK → Prop := fun xs H Q => ∃ (C dd : Addr) (fs : List (Str × V)) (c : V) (cv : Value) (b : Bool), xs = [.ref a, c] ∧ ClsV c cv ∧ cls = .ref C ∧ d = some dd ∧ H dd = some (.xd fs) ∧ ErrC K C ∧ GetC K ∧ PySem.W.kitOne K (.ref C) cv = some b ∧ Q (.bl b) H
theorem call_isCt {X : Cx} {a : Addr} {ob : Obj} {cls : Value} {d : Option Addr} {pl : List (Addr × Obj)} (hz : Zc cls d ob) (hf : ∃ vs, ob.data = .fields vs) : CallR (X.suite a ((a, ob) :: pl)) (.builtin "isinstance") (rIsCt X.K a cls d) := by
  intro pins s σ H xs us Q I r h
  obtain ⟨C, dd, fs, c, cv, b, rfl, k, rfl, rfl, ed, T, G, e, q⟩ := h
  obtain ⟨u1, u2, rfl, r1, r2⟩ := vals2 r
  have ec := k.eq r2
  subst ec
  obtain rfl : u1 = Value.ref a := r1
  obtain ⟨ha, _⟩ := I.pin (a, ob) (List.mem_append_left _ List.mem_cons_self)
  obtain ⟨vs, hd⟩ := hf
  have hx : ObjOk X.prog X.w H s.heap dd (.xd fs) := I.hok dd _ ed
  obtain ⟨mA, hns, _⟩ := hx
  obtain ⟨od, ho, _⟩ := lookIn_ns hns
  have J : PySem.W.InstAt s.heap a ob C (some od) := ⟨ha, hz.1, by unfold PySem.W.notCls; rw [hd] <;> rfl, by rw [hz.2]; exact ho⟩
  exact PySem.W.kia_one (PySem.W.kitx_exc T.cl T.xf.ga T.xf.gg T.xf.exC T.ha G.hn G.ht T.hm) I.kIn J e (fun z => nomatch z) fun tk => ⟨.bl b, H, I.tok tk, rfl, q⟩
end HG

namespace HG
open PySem PySem.Spec PyProof.Rows L2
open C8 (pss_cut tCut)
theorem fn_or {P : Program} {w : World} {K : PySem.W.Frag} {mg : Str → Option Value} {base : Heap} {CX : CXT} {k : Nat} {f : Addr} {fd : FuncData} {ps : List Str} {sp1 sp2 : Sp} (F1 : FnOk P w K mg base CX k f fd ps sp1) (F2 : FnOk P w K mg base CX k f fd ps sp2) :
    FnOk P w K mg base CX k f fd ps (fun vs H Q E => sp1 vs H Q E ∨ sp2 vs H Q E) :=
  ⟨fun vs H Q E h => h.elim (F1.len vs H Q E) (F2.len vs H Q E), fun A outer s H args us vs Q E hr he hb hv hs => hs.elim (F1.run A outer s H args us vs Q E hr he hb hv) (F2.run A outer s H args us vs Q E hr he hb hv)⟩
/-! ### is_row -/
def JNames (K : PySem.W.Frag) (H : Hp) (x : V) (b : Bool) : Prop :=
  (∃ xs, SeqV K H x xs ∧ (1 ≤ xs.length → xs.length ≤ 4 → ∀ y ∈ xs, ∃ t, AnyV K H y t) ∧ b = namesV xs) ∨ (∃ t, AnyV K H x t ∧ t ≠ .lst ∧ t ≠ .tup ∧ b = false)
def JChange (K : PySem.W.Frag) (H : Hp) (x : V) (b : Bool) : Prop :=
  (∃ xs, SeqV K H x xs ∧ (1 ≤ xs.length → xs.length ≤ 4 → ∀ y ∈ xs, ∃ t, AnyV K H y t) ∧ b = (namesV xs && decide (xs.length = 2))) ∨ (∃ t, AnyV K H x t ∧ t ≠ .lst ∧ t ≠ .tup ∧ b = false)
def JMany (K : PySem.W.Frag) (H : Hp) (z : V) (b : Bool) : Prop :=
  (∃ t, AnyV K H z t ∧ t ≠ .lst ∧ t ≠ .tup ∧ b = false) ∨
  (∃ zs, SeqV K H z zs ∧ zs.length ≤ 100000 ∧ ((200 < zs.length ∧ b = false) ∨ (∃ bs, zs.length ≤ 200 ∧ Paired (JChange K H) zs bs ∧ b = bs.all id)))
def JRow (K : PySem.W.Frag) (H : Hp) (x : V) (b : Bool) : Prop :=
  (∃ t, AnyV K H x t ∧ t ≠ .lst ∧ t ≠ .tup ∧ b = false) ∨ (∃ xs, SeqV K H x xs ∧ xs.length ≠ 2 ∧ b = false) ∨
  (∃ y z, SeqV K H x [y, z] ∧ ((JNames K H y false ∧ b = false) ∨ (JNames K H y true ∧ JMany K H z b)))
theorem JNames.same {K : PySem.W.Frag} {H H' : Hp} {x : V} {b : Bool} (h : JNames K H x b) (s : Same H H') : JNames K H' x b := by
  rcases h with ⟨xs, h1, h2, h3⟩ | ⟨t, h1, h2⟩
  · exact .inl ⟨xs, h1.same s, fun a c y hy => let ⟨t, h⟩ := h2 a c y hy; ⟨t, h.same s⟩, h3⟩
  · exact .inr ⟨t, h1.same s, h2⟩
theorem JChange.same {K : PySem.W.Frag} {H H' : Hp} {x : V} {b : Bool} (h : JChange K H x b) (s : Same H H') : JChange K H' x b := by
  rcases h with ⟨xs, h1, h2, h3⟩ | ⟨t, h1, h2⟩
  · exact .inl ⟨xs, h1.same s, fun a c y hy => let ⟨t, h⟩ := h2 a c y hy; ⟨t, h.same s⟩, h3⟩
  · exact .inr ⟨t, h1.same s, h2⟩
theorem JMany.same {K : PySem.W.Frag} {H H' : Hp} {x : V} {b : Bool} (h : JMany K H x b) (s : Same H H') : JMany K H' x b := by
  rcases h with ⟨t, h1, h2⟩ | ⟨zs, h1, hz, h2 | ⟨bs, h2, h3, h4⟩⟩
  · exact .inl ⟨t, h1.same s, h2⟩
  · exact .inr ⟨zs, h1.same s, hz, .inl h2⟩
  · exact .inr ⟨zs, h1.same s, hz, .inr ⟨bs, h2, paired_imp h3 fun _ _ h => h.same s, h4⟩⟩
theorem JRow.same {K : PySem.W.Frag} {H H' : Hp} {x : V} {b : Bool} (h : JRow K H x b) (s : Same H H') : JRow K H' x b := by
  rcases h with ⟨t, h1, h2⟩ | ⟨xs, h1, h2⟩ | ⟨y, z, h1, h2⟩
  · exact .inl ⟨t, h1.same s, h2⟩
  · exact .inr (.inl ⟨xs, h1.same s, h2⟩)
  · exact .inr (.inr ⟨y, z, h1.same s, h2.imp (fun ⟨a, b⟩ => ⟨a.same s, b⟩) (fun ⟨a, b⟩ => ⟨a.same s, b.same s⟩)⟩)
theorem names_of {K : PySem.W.Frag} {H : Hp} {y : V} {b : Bool} {Q : VK} {E : XK} (h : JNames K H y b) (k : ∀ H', Same H H' → Q (.bl b) H') : spAreNames K [y] H Q E := by
  rcases h with ⟨xs, h1, h2, rfl⟩ | ⟨t, h1, h2, h3, rfl⟩
  · exact ⟨y, rfl, .inl ⟨xs, h1, h2, k⟩⟩
  · exact ⟨y, rfl, .inr ⟨t, h1, h2, h3, k⟩⟩
theorem change_of {K : PySem.W.Frag} {H : Hp} {y : V} {b : Bool} {Q : VK} {E : XK} (h : JChange K H y b) (k : ∀ H', Same H H' → Q (.bl b) H') : spIsChange K [y] H Q E := by
  rcases h with ⟨xs, h1, h2, rfl⟩ | ⟨t, h1, h2, h3, rfl⟩
  · exact ⟨y, rfl, .inl ⟨xs, h1, h2, k⟩⟩
  · exact ⟨y, rfl, .inr ⟨t, h1, h2, h3, k⟩⟩
theorem not_seq {t : Tg} (n1 : t ≠ .lst) (n2 : t ≠ .tup) : (t.isa "list" || t.isa "tuple") = false := by cases t <;> first | rfl | exact absurd rfl n1 | exact absurd rfl n2
def spIsRow (K : PySem.W.Frag) : Sp := fun vs H Q _ => ∃ x b, vs = [x] ∧ JRow K H x b ∧ ∀ H', Same H H' → Q (.bl b) H'
structure RT (K : PySem.W.Frag) (mg : Str → Option Value) (fRow fCh : Addr) (dRow dCh : FuncData) : Prop where
  row : Df K mg "is_row" s_is_row fRow dRow
  bRow : Binds K dRow ["thing"] []
  ch : Df K mg "is_change" s_is_change fCh dCh
  bCh : Binds K dCh ["thing"] []
  g_changes : ∃ t, mg "MOST_CHANGES" = some (.int 200 t)
section
variable {P : Program} {w : World} {K : PySem.W.Frag} {mg : Str → Option Value} {base : Heap}
variable {fShape fNames fName fSorted fStds fTable fInts fInt fOne fPut : Addr} {dShape dNames dName dSorted dStds dTable dInts dInt dOne dPut : FuncData}
variable {C fRow fCh : Addr} {dRow dCh : FuncData}
theorem ok_is_row (G : GD K mg fShape fNames fName fSorted fStds fTable fInts fInt fOne fPut dShape dNames dName dSorted dStds dTable dInts dInt dOne dPut) (R : RT K mg fRow fCh dRow dCh) : FnOk P w K mg base CX0 4 fRow dRow ["thing"] (spIsRow K) := by
  have S : FnScope ["thing", "item"] ["thing"] (defScope s_is_row) := ⟨rfl, rfl, rfl, by decide +kernel, rfl, by decide +kernel, by decide +kernel⟩
  have nd := S.nd
  have T := G.T
  obtain ⟨tk, gC⟩ := R.g_changes
  refine R.row.F.ok S (fun vs H Q E h => ?_) (fun cdv Ar outer s H vs Q E hr h => ?_)
  · obtain ⟨x, b, rfl, _⟩ := h
    rfl
  · obtain ⟨x, b, rfl, hJ, q⟩ := h
    refine ⟨_, pss_cons (ps_if (PW.pt (pw_or (pt_not (pt_val (pe_callB call_isiLT (by rfl) T.m_isinstance (by decide +kernel) (pa_cons (pv 0) (pa_cons (pe_tup (pa_cons (pe_bltn (v := .ty "tuple") (by rfl) T.m_tuple (by decide +kernel) rfl) (pa_cons (pe_bltn (v := .ty "list") (by rfl) T.m_list (by decide +kernel) rfl) pa_nil))) pa_nil)))))
        (pw_or1 (pt_cmpR op_ne (pe_callB call_len_seq (by rfl) T.m_len PySem.boot_len (pa_cons (pv 0) pa_nil)) pe_int (nomark _))))) (pss_one (ps_ret pe_bl)) pss_nil)
      (pss_cons (ps_if (PW.pt (pw_or (pt_not (pt_val (pe_call (ok_are_names G.names G.name G.bName T) (hr.mono (by decide)) (by rfl) G.names.g G.names.F.kp G.bNames .nil pass0 (pa_cons (pe_ix ix_seq (pv 0) pe_int (fun _ _ => rfl)) pa_nil))))
        (pw_or1 (pt_not (pt_val (pe_callB call_isiLT (by rfl) T.m_isinstance (by decide +kernel) (pa_cons (pe_ix ix_seq (pv 0) pe_int (fun _ _ => rfl)) (pa_cons (pe_tup (pa_cons (pe_bltn (v := .ty "list") (by rfl) T.m_list (by decide +kernel) rfl) (pa_cons (pe_bltn (v := .ty "tuple") (by rfl) T.m_tuple (by decide +kernel) rfl) pa_nil))) pa_nil)))))))) (pss_one (ps_ret pe_bl)) pss_nil)
      (pss_one (ps_ret (pe_and (pe_cmpR op_le (pe_callB call_len_seq (by rfl) T.m_len PySem.boot_len (pa_cons (pe_ix ix_seq (pv 0) pe_int (fun _ _ => rfl)) pa_nil)) (pe_glob (v := .int 200) (by rfl) gC ⟨_, rfl⟩) (nomark _))
        (pe_one (pe_callB (cr_all rfl) (by rfl) T.m_all (by decide +kernel) (pa_cons (pe_lc (own := [("item", 1)]) (g := gName 1) (tt := tYes) rfl nd (pi_or (pi_list (pe_ix ix_seq (pv 0) pe_int (fun _ _ => rfl))) (pi_tup (pe_ix ix_seq (pv 0) pe_int (fun _ _ => rfl)))) (blkOk_by (N := ["thing", "item"]) (sc := defScope s_is_row) (by decide +kernel)) (fun _ _ _ _ _ => pg_name (i := 1) nd rfl (Or.inl rfl)) (fun _ _ _ _ _ => pts_nil)
          (fun _ _ _ _ _ => pe_call (ok_is_change (P := P) (w := w) (base := base) R.ch G.names G.bNames G.name G.bName T) (hr.mono (by decide)) (by rfl) R.ch.g R.ch.F.kp R.bCh .nil pass0 (pa_cons (pv 1) pa_nil))) pa_nil))))))), ?_⟩
    have two : [V.ty "tuple", V.ty "list"].length ≤ sizeLine := by show 2 ≤ sizeLine; decide
    have two' : [V.ty "list", V.ty "tuple"].length ≤ sizeLine := by show 2 ≤ sizeLine; decide
    rcases hJ with ⟨t, ht, n1, n2, rfl⟩ | ⟨xs, hx, hn, rfl⟩ | ⟨y, z, hx, hrest⟩
    · refine ⟨_, rfl, two, fun pt npt => ?_⟩
      have st := same_upd (o := .tup [.ty "tuple", .ty "list"]) npt
      refine ⟨_, t, pt, _, _, rfl, upd_same, .inr ⟨rfl, rfl⟩, ht.same st, _, rfl, ?_⟩
      rw [not_seq n1 n2]
      exact iteT (q _ st)
    · obtain ⟨t, ht, hb⟩ := hx.any
      obtain ⟨p, rfl, hl⟩ := hx.len
      refine ⟨_, rfl, two, fun pt npt => ?_⟩
      have st := same_upd (o := .tup [.ty "tuple", .ty "list"]) npt
      refine ⟨_, t, pt, _, _, rfl, upd_same, .inr ⟨rfl, rfl⟩, ht.same st, _, rfl, ?_⟩
      rw [hb]
      refine iteF ⟨_, rfl, p, xs, rfl, hl.imp st.seq (same_sqt st), rfl, _, rfl, ?_⟩
      rw [show (!decide (V.int (xs.length : Int) = V.int 2)) = true by rw [decide_eq_false (fun z => hn (by have := V.int.inj z; omega))]; rfl]
      exact iteT (q _ st)
    · obtain ⟨t, ht, hb⟩ := hx.any
      obtain ⟨p, rfl, hl⟩ := hx.len
      refine ⟨_, rfl, two, fun pt npt => ?_⟩
      have st := same_upd (o := .tup [.ty "tuple", .ty "list"]) npt
      have hl1 := hl.imp st.seq (same_sqt st)
      refine ⟨_, t, pt, _, _, rfl, upd_same, .inr ⟨rfl, rfl⟩, ht.same st, _, rfl, ?_⟩
      rw [hb]
      refine iteF ⟨_, rfl, p, [y, z], rfl, hl1, rfl, _, rfl, ?_⟩
      rw [show (!decide (V.int (([y, z] : List V).length : Int) = V.int 2)) = false from rfl]
      refine iteF ⟨_, rfl, rIx_of (j := 0) (v := y) hl1 rfl ?_⟩
      first | (unfold tNil; dsimp only) | dsimp only
      rcases hrest with ⟨hy, rfl⟩ | ⟨hy, hz⟩
      · exact names_of (hy.same st) fun H1 s1 => ⟨_, rfl, iteT (q _ (st.trans s1))⟩
      · refine names_of (hy.same st) fun H1 s1 => ⟨_, rfl, iteF ⟨_, rfl, rIx_of (j := 1) (v := z) (hl1.imp s1.seq (same_sqt s1)) rfl ⟨two', fun p2 np2 => ?_⟩⟩⟩
        have s2 := same_upd (o := .tup [.ty "list", .ty "tuple"]) np2
        have s02 := st.trans (s1.trans s2)
        have hl2 := hl.imp s02.seq (same_sqt s02)
        have hz2 := hz.same s02
        have hp2 : (upd H1 p2 (.tup [.ty "list", .ty "tuple"])) p2 = some (.tup [.ty "list", .ty "tuple"]) := upd_same
        generalize (upd H1 p2 (.tup [.ty "list", .ty "tuple"])) = H2 at s2 s02 hl2 hz2 hp2
        rcases hz2 with ⟨t', ht', n1, n2, rfl⟩ | ⟨zs, hzs, hzl, hrest⟩
        · refine ⟨z, t', p2, _, _, rfl, hp2, .inl ⟨rfl, rfl⟩, ht', _, rfl, ?_⟩
          rw [not_seq n1 n2]
          exact iteT (q _ s02)
        · obtain ⟨t2, ht2, hb2⟩ := hzs.any
          obtain ⟨p3, rfl, hl3⟩ := hzs.len
          refine ⟨_, t2, p2, _, _, rfl, hp2, .inl ⟨rfl, rfl⟩, ht2, _, rfl, ?_⟩
          rw [hb2]
          refine iteF ⟨_, rfl, rIx_of (j := 1) (v := .ref p3) hl2 rfl ⟨p3, zs, rfl, hl3, _, _, rfl, rfl, _, rfl, ?_⟩⟩
          rcases hrest with ⟨hbig, rfl⟩ | ⟨bs, hsm, hps, rfl⟩
          · rw [decide_eq_false (show ¬ (zs.length : Int) ≤ 200 by omega)]
            exact q _ s02
          · rw [decide_eq_true (show (zs.length : Int) ≤ 200 by omega)]
            have bl : zs.length = bs.length := Paired.length hps
            have key : ∀ (D : Addr), H2 D = none → ∀ i y H3, zs[i]? = some y → (H3 D = some (.lst ((bs.take i).map V.bl)) ∧ Same H2 H3) → ∃ b, JChange K H3 y b ∧ bs[i]? = some b := fun D nD i y H3 hi ⟨_, s3⟩ => by
              have hil : i < bs.length := by rw [← bl]; exact (List.getElem?_eq_some_iff.mp hi).1
              obtain ⟨b', hb', hj⟩ : ∃ b', bs[i]? = some b' ∧ JChange K H2 y b' := by
                refine ⟨bs[i], List.getElem?_eq_getElem hil, ?_⟩
                obtain ⟨a', ha', hj⟩ := paired_get hps (List.getElem?_eq_getElem hil)
                rw [hi] at ha'
                cases ha'
                exact hj
              exact ⟨b', hj.same s3, hb'⟩
            cases hzs with
            | lst hs _ =>
              refine .inl ⟨_, rfl, rIx_of (j := 1) (v := .ref p3) hl2 rfl ⟨p3, rfl, ⟨_, hs⟩, fun D nD => ?_⟩⟩
              refine lc_list (K := K) (a := p3) (xs := zs) (fun i H3 => H3 D = some (.lst ((bs.take i).map V.bl)) ∧ Same H2 H3) ⟨upd_same, same_upd nD⟩ (fun i H3 _ ⟨_, s3⟩ => s3.seq hs) ?_ ?_
              · rintro i y' H3 hi ⟨hD, s3⟩
                obtain ⟨b', hj, hb'⟩ := key D nD i y' H3 hi ⟨hD, s3⟩
                refine ⟨rfl, _, rfl, ?_⟩
                first | (unfold tNil; dsimp only) | dsimp only
                refine change_of hj fun H4 s4 => ⟨_, s4 _ _ hD, small1000 (by rw [List.length_map, List.length_take]; omega), ?_, fun r o e => ?_⟩
                · rw [upd_same, List.take_add_one, hb', List.map_append]
                  rfl
                · rw [upd_ne (ne_of_none e nD)]
                  exact s4 _ _ (s3 _ _ e)
              · rintro H3 ⟨hD, s3⟩
                rw [bl, List.take_length] at hD
                exact ⟨D, _, rfl, SqL.of hD, q _ (s02.trans s3)⟩
            | tup hs _ =>
              refine .inr ⟨_, rfl, rIx_of (j := 1) (v := .ref p3) hl2 rfl ⟨p3, rfl, ⟨_, hs⟩, fun D nD => ?_⟩⟩
              refine lc_tup (K := K) (a := p3) (xs := zs) (fun i H3 => H3 D = some (.lst ((bs.take i).map V.bl)) ∧ Same H2 H3) ⟨upd_same, same_upd nD⟩ (fun i H3 _ ⟨_, s3⟩ => same_sqt s3 hs) ?_ ?_
              · rintro i y' H3 hi ⟨hD, s3⟩
                obtain ⟨b', hj, hb'⟩ := key D nD i y' H3 hi ⟨hD, s3⟩
                refine ⟨rfl, _, rfl, ?_⟩
                first | (unfold tNil; dsimp only) | dsimp only
                refine change_of hj fun H4 s4 => ⟨_, s4 _ _ hD, small1000 (by rw [List.length_map, List.length_take]; omega), ?_, fun r o e => ?_⟩
                · rw [upd_same, List.take_add_one, hb', List.map_append]
                  rfl
                · rw [upd_ne (ne_of_none e nD)]
                  exact s4 _ _ (s3 _ _ e)
              · rintro H3 ⟨hD, s3⟩
                rw [bl, List.take_length] at hD
                exact ⟨D, _, rfl, SqL.of hD, q _ (s02.trans s3)⟩
end
end HG

namespace HG
open PySem PySem.Spec PyProof.Rows L2
/-! ### for i, x in enumerate(t), t a tuple -/
set_option maxHeartbeats 1000000 in
theorem meets_enum1 {v : Value} {ob : Obj} {G : Heap → Prop} (B : Begins v ob G) :
    Meets (Builtin.«enumerate.__new__» ⟨[.type "enumerate", v], []⟩) (fun _ R s => G s.heap ∧
      R (.ok (.ret (.ref (s.heap.push ob).objs.size))) { s with heap := (s.heap.push ob).push { cls := .type "enumerate", data := .fields #[.none, .bool false, .ref s.heap.objs.size, rawInt 0, .none, .none] } }) :=
  .of_wp fun prog w A R s hh => by
    obtain ⟨hp, g, d, tk, os⟩ := s
    obtain ⟨hG, hR⟩ := hh
    have hs := sub_enumerate
    have begin1 : ∀ {A' : Around} {E : Value → Shared → Prop} {Q : Value → Shared → Prop}, Q (.ref hp.objs.size) ⟨hp.push ob, g, d, tk, os⟩ → wpAny (model prog w) A' (pyIter v) Q E ⟨hp, g, d, tk, os⟩ :=
      fun q => B.iter prog w _ _ ⟨hp, g, d, tk, os⟩ _ hG q
    wp_walk using begin1
    refine wpAny_stack_any fun _ => wpAny_pure ?_
    split
    · rename_i c _ _ _ _ _
      cases (c == Value.type "enumerate") <;> (wp_walk using begin1; exact ⟨_, rfl, hR⟩)
    · wp_walk using begin1
      exact ⟨_, rfl, hR⟩
section
variable {prog : Program} {w : World} {A : Around} {E : Value → Shared → Prop} {s : Shared}
theorem enum1 {v : Value} {ob : Obj} {G : Heap → Prop} {Q : Value → Shared → Prop} (B : Begins v ob G) (hG : G s.heap)
    (hq : ∀ g, IsEnum g (s.heap.objs.size + 1) s.heap.objs.size 0 .none → g.get? s.heap.objs.size = some ob → (∀ b o, s.heap.get? b = some o → g.get? b = some o) → Q (.ref (s.heap.objs.size + 1)) { s with heap := g }) :
    wpAny (model prog w) A (call (.type "enumerate") [v]) Q E s := by
  refine callType_new F.called_enumerate (by decide) (F.typeCall_enumerate_1 _) (F.newCall_enumerate_1 _) (fun ob => F.args_object_init_2 ob _) F.entry_enumerate_new (meets_enum1 B) ⟨hG, ?_⟩
  have sz : (s.heap.push ob).objs.size = s.heap.objs.size + 1 := Heap.size_push ..
  show _ ∧ _
  rw [sz]
  have en : IsEnum ((s.heap.push ob).push { cls := .type "enumerate", data := .fields #[.none, .bool false, .ref s.heap.objs.size, rawInt 0, .none, .none] }) (s.heap.objs.size + 1) s.heap.objs.size 0 .none := by
    have z := Heap.get?_push_size (s.heap.push ob) (o := { cls := .type "enumerate", data := .fields #[.none, .bool false, .ref s.heap.objs.size, rawInt 0, .none, .none] }) rfl
    rwa [sz] at z
  exact ⟨⟨_, en, rfl⟩, hq _ en (Heap.get?_push_of_some _ (Heap.get?_push_size _ B.free)) fun _ _ x => Heap.get?_push_of_some _ (Heap.get?_push_of_some _ x)⟩
end
def IteT (K : PySem.W.Frag) (a : Addr) : It :=
  ⟨fun i G => ∃ (xs : List V) (x : V), SqT K G a xs ∧ xs[i]? = some x, fun i G v G' => ∃ T x, v = .ref T ∧ G T = none ∧ G' = upd G T (.tup [.int (i : Nat), x]) ∧ ∀ xs, SqT K G a xs → xs[i]? = some x, fun i G => ∃ xs : List V, SqT K G a xs ∧ xs.length ≤ i⟩
theorem tup_parts {h : Heap} {e it a : Addr} {i : Nat} {old : Value} {k : Int} {items : Array Value} (he : IsEnum h e it k old) (hi : h.IsTupleIter it a i) (ht : h.IsTuple a items) : a ≠ it ∧ e ≠ a := by
  obtain ⟨o, ho, hc, hd⟩ := hi
  obtain ⟨o', ho', hc', _⟩ := ht
  constructor
  · intro z
    rw [z, ho] at ho'
    cases ho'
    rw [hc] at hc'
    exact absurd (Value.type.inj hc') (by decide)
  · intro z
    rw [← z, he] at ho'
    cases ho'
    exact absurd (Value.type.inj hc') (by decide)
theorem drawn_out {prog : Program} {w : World} {A : Around} {it a : Addr} {i : Nat} {items : Array Value} (hh : A.handled = none) (hx : items[i]? = none) :
    Draws prog w A it [it, a] 0 (fun _ _ => False) (fun _ g => g.IsTupleIter it a i ∧ g.IsTuple a items) where
  live := fun _ _ st => let ⟨o, ho, _⟩ := st.1; ⟨o, ho⟩
  frame := fun _ _ _ st hk => ⟨st.1.at (hk it (by simp)), st.2.at (hk a (by simp))⟩
  item := fun _ _ _ _ hi _ _ => absurd hi (Nat.not_lt_zero _)
  done := fun _ _ _ st hE => wpAny_nextOf_tuple_end hh st.1 st.2 hx hE
theorem turn_enumT {P : Program} {w : World} {K : PySem.W.Frag} {elts : List Expr} {kk : Nat} {tpos : Pos} (a e it : Addr) :
    Turn P w K (.Tuple elts kk tpos) (IteT K a) [e, it] e (fun i h => (∃ old, IsEnum h e it ((i : Nat) : Int) old) ∧ h.IsTupleIter it a i ∧ e ≠ it) where
  mem := by simp
  obj := fun i h st b hb => by
    obtain ⟨⟨old, he⟩, ⟨o, ho, hc, hd⟩, _⟩ := st
    rcases (show b = e ∨ b = it by simpa using hb) with rfl | rfl
    · exact ⟨_, he, fun _ q => nomatch q⟩
    · exact ⟨o, ho, fun _ q => by
        rw [hd] at q
        cases q⟩
  keep := fun i h h' st k => by
    obtain ⟨⟨old, he⟩, hi, hne⟩ := st
    exact ⟨⟨old, k e (by simp) _ he⟩, hi.at fun o q => k it (by simp) o q, hne⟩
  item := by
    intro X hP hw hK hc i pins s σ G E I hf st hg
    subst hP hw hK
    obtain ⟨⟨old, he⟩, hit, hne⟩ := st
    obtain ⟨xs, x, hq, hx⟩ := hg
    obtain ⟨its, rv, pt, _⟩ := I.tuple hq
    obtain ⟨u, hu, ru⟩ := rv.get hx
    obtain ⟨n1, n2⟩ := tup_parts he hit pt
    have le : e < s.heap.objs.size := Heap.lt_size he
    have li : it < s.heap.objs.size := let ⟨_, q, _⟩ := hit; Heap.lt_size q
    have hlt : i < its.toArray.size := by
      have := (List.getElem?_eq_some_iff.mp hu).1
      simpa using this
    refine wpAny_pyNext_enum_itemD (Draws.tuple (prog := X.prog) (w := X.w) (A := X.A.in1) (I.ok.hd hc) it a n1 its.toArray) he ⟨hit, pt⟩ hlt hne (by simp [hne, n2]) fun y g tk hP ho hst hT hsz hk => ?_
    have ey : y = u := by
      have h1 : its.toArray[i]? = some u := by simpa using hu
      rw [show its.toArray[i]? = some y from hP] at h1
      exact Option.some.inj h1
    subst ey
    refine ⟨_, rfl, wpAny_letOwnedTupleGo_enum (s := { s with heap := g, toks := tk + 1 }) ho fun g2 he2 sb => ?_⟩
    have hT2 : g2.get? s.heap.objs.size = some { cls := .type "tuple", data := .seq #[.int i tk, y] } := (sb.2 _ (Nat.ne_of_gt le)).trans hT
    have new : ObjOk X.prog X.w (upd G s.heap.objs.size (.tup [.int (i : Nat), x])) g2 s.heap.objs.size (.tup [.int (i : Nat), x]) :=
      ⟨(by show 2 ≤ sizeLine; decide), [.int i tk, y], .cons ⟨_, rfl⟩ (.cons ru .nil), ⟨_, hT2, rfl, _, rfl⟩⟩
    have I1 : Inv X pins σ (upd G s.heap.objs.size (.tup [.int (i : Nat), x])) { s with heap := g2, toks := tk + 1 } :=
      I.turnedNew (ch := [e, it]) (fun b ob hb q => (sb.2 b (fun z => hb (by simp [z]))).trans (hk b ob (fun z => hb (by simp [z])) (fun z => hb (by simp [z])) q)) hf (Nat.le_refl _) new
    refine ⟨.ref s.heap.objs.size, _, I1, rfl, ⟨_, x, rfl, I.hok.fresh (Nat.le_refl _), rfl, fun ys hy => by rw [I.tuple_inj hy hq]; exact hx⟩, ⟨⟨y, ?_⟩, hst.1.at fun o q => (sb.2 it (Ne.symm hne)).trans q, hne⟩, fun b hb => ?_⟩
    · rw [show ((i + 1 : Nat) : Int) = (i : Int) + 1 by omega]
      exact he2
    · have lb : b < s.heap.objs.size := by
        rcases (show b = e ∨ b = it by simpa using hb) with rfl | rfl <;> assumption
      rw [upd_ne (Nat.ne_of_lt lb)]
      exact (hf b hb).1
  done := by
    intro X hP hw hK hc i pins s σ G E I hf st hg
    subst hP hw hK
    obtain ⟨⟨old, he⟩, hit, hne⟩ := st
    obtain ⟨xs, hq, hx⟩ := hg
    obtain ⟨its, rv, pt, _⟩ := I.tuple hq
    obtain ⟨n1, n2⟩ := tup_parts he hit pt
    obtain ⟨f0, f1, f2, f3, f4, f5⟩ := hf it (by simp)
    have hl := rv.length
    exact wpAny_pyNext_enum_endD (drawn_out (prog := X.prog) (w := X.w) (A := X.A.in1) (I.ok.hd hc) (by simp; omega)) he ⟨hit, pt⟩ fun g eb => ⟨rfl, I.turned (t' := s.toks) (fun b o hb q => eb b o hb q) f0 f1 f3 f4 f5⟩
  self := fun A i s Q E st h => let ⟨⟨_, he⟩, _⟩ := st; wpAny_pyIter_enum he h
def iEnumA (K : PySem.W.Frag) (ta : TA) : TI := fun σ G R => ta σ G fun vs G1 => ∃ a, vs = [.ref a] ∧ ((∃ xs, SqL K G1 a xs ∧ R (Ite K a) G1) ∨ (∃ xs, SqT K G1 a xs ∧ R (IteT K a) G1))
theorem pi_enumA {X : Cx} {e : Expr} {ta : TA} {p pos tpos : Pos} {elts : List Expr} {kk : Nat} (hg : Gl X "enumerate") (hm : X.mg "enumerate" = none) (ha : PA X [e] ta) (hs : starEach [e] X.env = [(false, eval e X.env)] := by rfl) :
    PI X (.Tuple elts kk tpos) (.Call (.Name "enumerate" p) [e] [] pos) (iEnumA X.K ta) := by
  refine ⟨fun pins s σ G R I h => Call_ (ld_blt I hg hm boot_enumerate (PyProof.Rows.callWith_type1 (thn (ha.run pos pins s σ G _ I h) fun us s1 hh => ?_) hs rfl))⟩
  obtain ⟨vs, G1, I1, r1, a, rfl, q1⟩ := hh
  rw [Vals.ref1 r1]
  have fr : ∀ b ∈ [s1.heap.objs.size + 1, s1.heap.objs.size], FpOk X pins G1 b := fun b hb => by
    have hle : s1.heap.objs.size ≤ b := by
      rcases (show b = s1.heap.objs.size + 1 ∨ b = s1.heap.objs.size by simpa using hb) with rfl | rfl
      · exact Nat.le_add_right _ _
      · exact Nat.le_refl _
    exact I1.fpOk hle (I1.hok.fresh hle)
  rcases q1 with ⟨xs, hq, q⟩ | ⟨xs, hq, q⟩
  · obtain ⟨its, rv, pl, _⟩ := I1.list hq
    refine enum1 (begins_list a its.toArray) pl.isList fun g he hi hk => wpAny_pyIter_enum he ?_
    exact ⟨s1.heap.objs.size + 1, [s1.heap.objs.size + 1, s1.heap.objs.size], _, _, G1, rfl, I1.kept (t' := s1.toks) hk, turn_enum a (s1.heap.objs.size + 1) s1.heap.objs.size, ⟨⟨.none, he⟩, ⟨_, hi, rfl, rfl⟩, Nat.succ_ne_self _⟩, fr, q⟩
  · obtain ⟨its, rv, pt, _⟩ := I1.tuple hq
    refine enum1 (begins_tuple a its.toArray) pt fun g he hi hk => wpAny_pyIter_enum he ?_
    exact ⟨s1.heap.objs.size + 1, [s1.heap.objs.size + 1, s1.heap.objs.size], _, _, G1, rfl, I1.kept (t' := s1.toks) hk, turn_enumT a (s1.heap.objs.size + 1) s1.heap.objs.size, ⟨⟨.none, he⟩, ⟨_, hi, rfl, rfl⟩, Nat.succ_ne_self _⟩, fr, q⟩
theorem walk_enumT {K : PySem.W.Frag} {a : Addr} {xs : List V} : Walk (IteT K a) xs.length (fun G => SqT K G a xs) (YPair (fun i => some (.int (i : Nat))) (fun i => xs[i]?)) := by
  refine ⟨fun i _ hi q => ⟨xs, xs[i], q, by simp [hi]⟩, fun _ q => ⟨xs, q, Nat.le_refl _⟩, fun i G v G' _ q y => ?_⟩
  obtain ⟨T, x, y1, y2, y3, y4⟩ := y
  exact ⟨T, .int (i : Nat), x, y1, y2, y3, rfl, y4 xs q⟩
end HG

namespace HG
open PySem PySem.Spec PyProof.Rows L2
open C8 (pss_cut tCut)
/-! ### raise X(v), X with one field -/
def spErr (C : Addr) (f : Str) : Sp := fun vs H Q _ => ∃ (a : Addr) (v : V), vs = [.ref a, v] ∧ H a = some (exo a C none) ∧ ∀ dx, H dx = none → dx ≠ a → Q .non (upd (upd H dx (exd dx [(f, v)])) a (exo a C (some dx)))
/-- an error class of the program: its name, its field -/
structure EK (K : PySem.W.Frag) (mg : Str → Option Value) (x f : Str) (C fI : Addr) (fd : FuncData) : Prop where
  g : mg x = some (.ref C)
  o : OexC K C
  no : PySem.W.findIn K (.ref C) f = some none
  iC : PySem.W.findIn K (.ref C) "__init__" = some (some (.ref fI))
  tI : PySem.W.typeIn K (.ref fI) = some (.type "function")
  c : ErrC K C
  ok : ∀ (P : Program) (w : World) (base : Heap), FnOk P w K mg base CX0 1 fI fd ["self", f] (spErr C f)
  b : Binds K fd ["self", f] []
def tErr (C : Addr) (f : Str) (ta : TA) : L2.St → Hp → XK → Prop := fun σ H Q => ta σ H fun vs H1 => ∃ v, vs = [v] ∧ ∀ d, H1 d = none → Q (.ref C) (some d) (upd H1 d (.xd [(f, v)]))
theorem pa_mono {X : Cx} {es : List Expr} {ta : TA} (h : PA X es ta) : PA X es (fun σ H R => ∃ R0, ta σ H R0 ∧ ∀ vs H1, R0 vs H1 → R vs H1) :=
  ⟨fun pos pins s σ H R I ⟨R0, q, k⟩ => thn (h.run pos pins s σ H R0 I q) fun us s1 ⟨vs, H1, I1, r1, z⟩ => ⟨vs, H1, I1, r1, k vs H1 z⟩⟩
theorem pmk_err {X : Cx} {x f : Str} {C fI : Addr} {fd : FuncData} {e : Expr} {ta : TA} {p pos : Pos} (T : EK X.K X.mg x f C fI fd) (hr : Room 2 X.A) (hg : Gl X x) (ha : PA X [e] ta) (hdb : (x == ("__debug__" : Str)) = false := by decide)
    (he : starEach [e] X.env = (false, eval e X.env) :: starEach [] X.env := by rfl) (hpl : (backTo pos (starEach [] X.env)).any (·.1) = false := by rfl) : PMk X (.Call (.Name x p) [e] [] pos) (tErr C f ta) := by
  intro pins s σ H Q I h
  refine pmk_oex T.o T.iC T.tI (T.ok X.prog X.w X.base) hr T.b .nil pass0 hg T.g (pa_mono ha) hdb he hpl pins s σ H Q I ⟨_, h, ?_⟩
  rintro vs H1 ⟨v, rfl, k⟩
  refine ⟨by show 1 ≤ 1000; decide, fun a na => ⟨a, v, rfl, upd_same, fun dx nd ne => ⟨rfl, dx, [(f, v)], upd_same, ?_, ?_, ?_⟩⟩⟩
  · rw [upd_ne ne, upd_same]
  · rw [upd_ne ne] at nd
    exact nd
  · rw [upd_ne ne] at nd
    have e : upd (del (upd (upd (upd H1 a (exo a C none)) dx (exd dx [(f, v)])) a (exo a C (some dx))) a) dx (.xd [(f, v)]) = upd H1 dx (.xd [(f, v)]) := ?_
    · rw [e]
      exact k dx nd
    funext b
    by_cases hb : b = dx
    · rw [hb, upd_same, upd_same]
    · rw [upd_ne hb, upd_ne hb]
      by_cases ha' : b = a
      · rw [ha', del_same, na]
      · rw [del_ne ha', upd_ne ha', upd_ne hb, upd_ne ha']
/-! ### a walk over a list or a tuple, with its index -/
theorem for_enumA {K : PySem.W.Frag} {a : Addr} {xs : List V} {g : TG} {tb : TS} {D : Ends} {σ : L2.St} {H : Hp} (hsq : SqL K H a xs ∨ SqT K H a xs) (Pv : Nat → L2.St → Hp → Prop) (h0 : Pv 0 σ H) (hk : ∀ i σ G, Pv i σ G → (SqL K H a xs → SqL K G a xs) ∧ (SqT K H a xs → SqT K G a xs))
    (hs : ∀ (i : Nat) (x : V) (T : Addr) (σ : L2.St) (G : Hp), xs[i]? = some x → Pv i σ G → G T = none → g (.ref T) σ (upd G T (.tup [.int (i : Nat), x])) fun σ2 H2 => tb { D with nx := Pv (i + 1), ct := Pv (i + 1), bk := D.nx } σ2 H2) (hd : ∀ σ G, Pv xs.length σ G → D.nx σ G) :
    (∃ xs, SqL K H a xs ∧ ∃ W : Nat → Nat → L2.St → Hp → Prop, (∃ m, W 0 m σ H) ∧ ∀ i m σ H, W i m σ H →
      ((Ite K a).stop i H ∧ D.nx σ H) ∨ ((Ite K a).go i H ∧ ∃ N : L2.St → Hp → Prop, (∀ σ' H', N σ' H' → ∃ m', m' < m ∧ W (i + 1) m' σ' H') ∧ ∀ v H', (Ite K a).yld i H v H' → g v σ H' fun σ2 H2 => tb { D with nx := N, ct := N, bk := D.nx } σ2 H2)) ∨
    (∃ xs, SqT K H a xs ∧ ∃ W : Nat → Nat → L2.St → Hp → Prop, (∃ m, W 0 m σ H) ∧ ∀ i m σ H, W i m σ H →
      ((IteT K a).stop i H ∧ D.nx σ H) ∨ ((IteT K a).go i H ∧ ∃ N : L2.St → Hp → Prop, (∀ σ' H', N σ' H' → ∃ m', m' < m ∧ W (i + 1) m' σ' H') ∧ ∀ v H', (IteT K a).yld i H v H' → g v σ H' fun σ2 H2 => tb { D with nx := N, ct := N, bk := D.nx } σ2 H2)) := by
  have turn : ∀ i x σ G G', i < xs.length → Pv i σ G → YPair (fun i => some (V.int (i : Nat))) (fun i => xs[i]?) i G x G' → g x σ G' fun σ2 H2 => tb { D with nx := Pv (i + 1), ct := Pv (i + 1), bk := D.nx } σ2 H2 := by
    rintro i v σ G G' _ p ⟨T, x, y, rfl, hT, rfl, e1, e2⟩
    cases e1
    exact hs i y T σ G e2 p hT
  rcases hsq with h | h
  · exact .inl ⟨xs, h, for_it walk_enum Pv h0 (fun i σ G _ p => (hk i σ G p).1 h) turn hd⟩
  · exact .inr ⟨xs, h, for_it walk_enumT Pv h0 (fun i σ G _ p => (hk i σ G p).2 h) turn hd⟩
/-! ### the three errors of rows -/
section
variable {P : Program} {w : World} {K : PySem.W.Frag} {mg : Str → Option Value} {base : Heap} {C fI : Addr} {fd : FuncData}
theorem ok_eWrong (F : Fun K "__init__" "Wrong.__init__" s_Wrong___init fI fd) (o : OexC K C) (no : PySem.W.findIn K (.ref C) "place" = some none) : FnOk P w K mg base CX0 1 fI fd ["self", "place"] (spErr C "place") := by
  have S : FnScope ["self", "place"] ["self", "place"] (defScope s_Wrong___init) := ⟨rfl, rfl, rfl, by decide +kernel, rfl, by decide +kernel, by decide +kernel⟩
  refine F.ok S (fun vs H Q E h => ?_) (fun cdv A outer s H vs Q E hr h => ?_)
  · obtain ⟨a, v, rfl, _⟩ := h
    rfl
  · obtain ⟨a, v, rfl, ha, q⟩ := h
    exact ⟨_, pss_one (ps_ost (pv 0) (pv 1)), _, rfl, _, rfl, a, C, rfl, o, no, .inl ⟨ha, q⟩⟩
theorem ok_eNoStanding (F : Fun K "__init__" "NoStanding.__init__" s_NoStanding___init fI fd) (o : OexC K C) (no : PySem.W.findIn K (.ref C) "standing" = some none) : FnOk P w K mg base CX0 1 fI fd ["self", "standing"] (spErr C "standing") := by
  have S : FnScope ["self", "standing"] ["self", "standing"] (defScope s_NoStanding___init) := ⟨rfl, rfl, rfl, by decide +kernel, rfl, by decide +kernel, by decide +kernel⟩
  refine F.ok S (fun vs H Q E h => ?_) (fun cdv A outer s H vs Q E hr h => ?_)
  · obtain ⟨a, v, rfl, _⟩ := h
    rfl
  · obtain ⟨a, v, rfl, ha, q⟩ := h
    exact ⟨_, pss_one (ps_ost (pv 0) (pv 1)), _, rfl, _, rfl, a, C, rfl, o, no, .inl ⟨ha, q⟩⟩
theorem ok_eNoStep (F : Fun K "__init__" "NoStep.__init__" s_NoStep___init fI fd) (o : OexC K C) (no : PySem.W.findIn K (.ref C) "index" = some none) : FnOk P w K mg base CX0 1 fI fd ["self", "index"] (spErr C "index") := by
  have S : FnScope ["self", "index"] ["self", "index"] (defScope s_NoStep___init) := ⟨rfl, rfl, rfl, by decide +kernel, rfl, by decide +kernel, by decide +kernel⟩
  refine F.ok S (fun vs H Q E h => ?_) (fun cdv A outer s H vs Q E hr h => ?_)
  · obtain ⟨a, v, rfl, _⟩ := h
    rfl
  · obtain ⟨a, v, rfl, ha, q⟩ := h
    exact ⟨_, pss_one (ps_ost (pv 0) (pv 1)), _, rfl, _, rfl, a, C, rfl, o, no, .inl ⟨ha, q⟩⟩
theorem ok_eNoChooser (F : Fun K "__init__" "NoChooser.__init__" s_NoChooser___init fI fd) (o : OexC K C) (no : PySem.W.findIn K (.ref C) "name" = some none) : FnOk P w K mg base CX0 1 fI fd ["self", "name"] (spErr C "name") := by
  have S : FnScope ["self", "name"] ["self", "name"] (defScope s_NoChooser___init) := ⟨rfl, rfl, rfl, by decide +kernel, rfl, by decide +kernel, by decide +kernel⟩
  refine F.ok S (fun vs H Q E h => ?_) (fun cdv A outer s H vs Q E hr h => ?_)
  · obtain ⟨a, v, rfl, _⟩ := h
    rfl
  · obtain ⟨a, v, rfl, ha, q⟩ := h
    exact ⟨_, pss_one (ps_ost (pv 0) (pv 1)), _, rfl, _, rfl, a, C, rfl, o, no, .inl ⟨ha, q⟩⟩
theorem ok_eNoChange (F : Fun K "__init__" "NoChange.__init__" s_NoChange___init fI fd) (o : OexC K C) (no : PySem.W.findIn K (.ref C) "change" = some none) : FnOk P w K mg base CX0 1 fI fd ["self", "change"] (spErr C "change") := by
  have S : FnScope ["self", "change"] ["self", "change"] (defScope s_NoChange___init) := ⟨rfl, rfl, rfl, by decide +kernel, rfl, by decide +kernel, by decide +kernel⟩
  refine F.ok S (fun vs H Q E h => ?_) (fun cdv A outer s H vs Q E hr h => ?_)
  · obtain ⟨a, v, rfl, _⟩ := h
    rfl
  · obtain ⟨a, v, rfl, ha, q⟩ := h
    exact ⟨_, pss_one (ps_ost (pv 0) (pv 1)), _, rfl, _, rfl, a, C, rfl, o, no, .inl ⟨ha, q⟩⟩
end
end HG

namespace HG
open PySem PySem.Spec PyProof.Rows L2
open C8 (pss_cut tCut)
/-! ### changes -/
abbrev Ch := Str × Str
def ChAt (H : Hp) (c : Ch) (v : V) : Prop := ∃ a, v = .ref a ∧ H a = some (.tup [.str c.1, .str c.2])
def chs (S : List Way) : List Ch := S.flatMap fun q => q.2.map fun v => (q.1, v)
def mayDo (S : List Way) (st : List Str) (c : Ch) : Bool := !decide (c ∈ (names S).zip st)
def due (S : List Way) (st : List Str) : List Ch := (chs S).filter (mayDo S st)
theorem ChAt.same {H H' : Hp} {c : Ch} {v : V} (h : ChAt H c v) (s : Same H H') : ChAt H' c v := let ⟨a, e, h⟩ := h; ⟨a, e, s _ _ h⟩
theorem chs_more {S : List Way} {i : Nat} {q : Way} (h : S[i]? = some q) : chs (S.take (i + 1)) = chs (S.take i) ++ q.2.map fun v => (q.1, v) := by
  unfold chs
  rw [List.take_add_one, h, List.flatMap_append]
  simp
theorem chs_len {S : List Way} (h : ∀ q ∈ S, q.2.length ≤ 4) : (chs S).length ≤ S.length * 4 := by
  unfold chs
  induction S with
  | nil => simp
  | cons a r ih =>
    rw [List.flatMap_cons, List.length_append, List.length_map, List.length_cons, Nat.succ_mul]
    have := ih fun q hq => h q (List.mem_cons_of_mem _ hq)
    have := h a List.mem_cons_self
    omega
theorem mem_chs {S : List Way} {c : Ch} : c ∈ chs S ↔ ∃ q ∈ S, q.1 = c.1 ∧ c.2 ∈ q.2 := by
  unfold chs
  rw [List.mem_flatMap]
  constructor
  · rintro ⟨q, hq, hc⟩
    obtain ⟨v, hv, rfl⟩ := List.mem_map.mp hc
    exact ⟨q, hq, rfl, hv⟩
  · rintro ⟨q, hq, e, hc⟩
    exact ⟨q, hq, List.mem_map.mpr ⟨c.2, hc, by rw [e]⟩⟩
theorem mayDo_at {S : List Way} {st : List Str} {i : Nat} {q : Way} {z v : Str} (nd : (names S).Nodup) (hq : S[i]? = some q) (hz : st[i]? = some z) : mayDo S st (q.1, v) = !decide (v = z) := by
  unfold mayDo
  congr 1
  rw [Bool.eq_iff_iff, decide_eq_true_iff, decide_eq_true_iff]
  have hn : (names S)[i]? = some q.1 := by
    unfold names
    rw [List.getElem?_map, hq]
    rfl
  constructor
  · intro h
    obtain ⟨j, hj⟩ := List.mem_iff_getElem?.mp h
    rw [List.getElem?_zip_eq_some] at hj
    obtain ⟨h1, e1⟩ := List.getElem?_eq_some_iff.mp hn
    obtain ⟨h2, e2⟩ := List.getElem?_eq_some_iff.mp hj.1
    have : i = j := (List.getElem_inj nd).mp (e1.trans e2.symm)
    subst this
    exact Option.some.inj (hj.2.symm.trans hz)
  · rintro rfl
    exact List.mem_iff_getElem?.mpr ⟨i, List.getElem?_zip_eq_some.mpr ⟨hn, hz⟩⟩
section
variable {P : Program} {w : World} {K : PySem.W.Frag} {mg : Str → Option Value} {base : Heap}
variable {fShape fNames fName fSorted fStds fTable fInts fInt fOne fPut : Addr} {dShape dNames dName dSorted dStds dTable dInts dInt dOne dPut : FuncData}
variable {C fCh : Addr} {dCh : FuncData}
def spChanges (K : PySem.W.Frag) (C : Addr) : Sp := fun args H Q _ => ∃ (g a : Addr) (st : List Str) (N : Addr → Prop) (S : List Way) (γ : List Str → List Int), args = [.ref g, .ref a] ∧ IsG K C N H g S γ ∧ SOk S ∧ H a = some (.tup (st.map V.str)) ∧ st ∈ stds S ∧
  ∀ H' p es, Same H H' → H p = none → H' p = some (.lst es) → Paired (ChAt H') (due S st) es → Q (.ref p) H'
theorem ok_changes {f fS fI fC fH fT : Addr} {fd fdS fdI fdC fdH fdT : FuncData} (G : GD K mg fShape fNames fName fSorted fStds fTable fInts fInt fOne fPut dShape dNames dName dSorted dStds dTable dInts dInt dOne dPut) (GH : GDC K mg fCh dCh) (c : GC K C) (M : Mt K C "changes" "Game.changes" s_Game_changes ["self", "standing"] f fd) (MS : MtStand K C fS fdS) (MI : MtIn K C fI fdI)
    (MC : MtCan K C fC fdC) (MH : MtHas K C fH fdH) (MT : MtSeat K C fT fdT) : FnOk P w K mg base CX0 5 f fd ["self", "standing"] (spChanges K C) := by
  have S : FnScope ["self", "standing", "every", "chooser", "way", "change"] ["self", "standing"] (defScope s_Game_changes) := ⟨rfl, rfl, rfl, by decide +kernel, rfl, by decide +kernel, by decide +kernel⟩
  have nd := S.nd
  refine M.F.ok S (fun vs H Q E h => ?_) (fun cdv A outer s H vs Q E hr h => ?_)
  · obtain ⟨g, a, st, N, S, γ, rfl, _⟩ := h
    rfl
  · obtain ⟨g, a, st, N, S, γ, rfl, hg, ok, ha, hst, q⟩ := h
    have hu := hu_of hr
    refine ⟨_, pss_cons (ps_expr (pe_meth (pv 0) c.cl MS.me (ok_check_standing G c MS MI) hr MS.b .nil pass0 (pa_cons (pv 1) pa_nil)))
      (pss_cons (ps_lock (ps_setLc2 (i := 2) (own := [("chooser", 3), ("way", 4)]) (vs1 := [4]) (g := gName 3) (g1 := gName 4) (tt := tYes) (tt1 := tYes) (wi1 := iList K (tDGet (tFld K (tVar 0) "way_lists") (tVar 3))) rfl nd rfl rfl (sw_true rfl rfl rfl (by decide +kernel)) (pi_keys (pe_fld (pv 0) rfl))
          (blkOk_by (N := ["self", "standing", "every", "chooser", "way", "change"]) (sc := defScope s_Game_changes) (by decide +kernel)) (by decide)
          (fun _ _ _ _ _ => pg_name (i := 3) nd rfl (Or.inl rfl)) (fun _ _ _ _ _ => pts_nil) (fun _ _ _ _ _ => pi_list (pe_dget hu (pe_fld (pv 0) rfl) (pv 3) (fun _ _ => rfl))) (fun _ _ _ _ _ => pg_name (i := 4) nd rfl (Or.inl rfl)) (fun _ _ _ _ _ => pts_nil)
          (fun _ _ _ _ _ => pe_tup (pa_cons (pv 3) (pa_cons (pv 4) pa_nil)))))
      (pss_one (ps_ret (pe_lc (own := [("change", 5)]) (g := gName 5) rfl nd (pi_list (pv 2)) (blkOk_by (N := ["self", "standing", "every", "chooser", "way", "change"]) (sc := defScope s_Game_changes) (by decide +kernel)) (fun _ _ _ _ _ => pg_name (i := 5) nd rfl (Or.inl rfl))
        (fun _ _ _ _ _ => pts_one (pt_val (pe_meth (pv 0) c.cl MC.me (ok_can_do G GH c MC MH MT) hr MC.b .nil pass0 (pa_cons (pv 1) (pa_cons (pv 5) pa_nil))))) (fun _ _ _ _ _ => pv 5))))), ?_⟩
    obtain ⟨dx, wa, l, ta, vs, kvs, hG⟩ := id hg
    refine ⟨_, rfl, g, dx, _, rfl, hG.hg, rfl, _, rfl, g, a, st, N, S, γ, rfl, hg, ok, ha, hst, fun H1 s1 => ?_⟩
    have hG1 := hG.same s1
    obtain ⟨kw, hkw, pkw⟩ := hG1.hw
    have hlen : S.length = kw.length := Paired.length pkw
    refine ⟨wa, .dK kw, hkw, trivial, fun od => ?_⟩
    generalize hHL : upd H1 wa (.frz od (.dK kw)) = HL
    have hLw : HL wa = some (.frz od (.dK kw)) := by rw [← hHL]; exact upd_same
    have hLo : ∀ {b : Addr} {o : HO}, H1 b = some o → (∀ k, o ≠ .dK k) → HL b = some o := fun {b o} e hn => by
      rw [← hHL, upd_ne (fun z => by subst z; rw [hkw] at e; exact hn _ (Option.some.inj e).symm)]
      exact e
    have hLg : HL g = some (.ins C dx [("way_lists", .ref wa), ("standing_list", .ref l), ("gain_table", .ref ta)]) := hLo hG1.hg (by intro _ z; cases z)
    refine ⟨_, rfl, g, C, dx, _, _, rfl, hLg, c.cl, c.nW, rfl, wa, od, rfl, .inl ⟨kw, hLw, fun D nD => ?_⟩⟩
    have sD := same_upd (o := .lst []) nD
    refine walk_run walk_keys (fun i H3 => ∃ ws, H3 D = some (.lst ws) ∧ Paired (ChAt H3) (chs (S.take i)) ws ∧ Same HL H3) ⟨[], upd_same, .nil, sD⟩ (fun i H3 _ ⟨_, _, _, s3⟩ => s3 _ _ hLw) ?_ ?_
    · rintro i x H2 H3 hi ⟨ws, hD, hws, s3⟩ ⟨rfl, k, v0, hk, rfl⟩
      obtain ⟨qw, hqw, ek, b, eb, nb, hb⟩ := paired_get pkw hk
      cases ek
      cases eb
      have hqm : qw ∈ S := List.mem_of_getElem? hqw
      obtain ⟨b', hb', _, hl'⟩ := way_at pkw ok.nd hqm
      have hb3 := s3 _ _ (hLo hl' (by intro _ z; cases z))
      refine ⟨rfl, _, rfl, g, C, dx, _, _, rfl, s3 _ _ hLg, c.cl, c.nW, rfl, _, rfl, wa, _, rfl, (by rw [← hb']; exact .inl ⟨kw, Sum.inr qw.1, .inr ⟨od, s3 _ _ hLw⟩, rfl, rfl⟩), b', rfl, ⟨_, SqL.of hb3⟩, walk_run (walk_list (K := K) (a := b') (xs := qw.2.map V.str)) (fun k H4 => ∃ ws, H4 D = some (.lst ws) ∧ Paired (ChAt H4) (chs (S.take i) ++ (qw.2.take k).map fun v => (qw.1, v)) ws ∧ Same HL H4) ⟨ws, hD, by simpa using hws, s3⟩ (fun k H4 _ ⟨_, _, _, s4⟩ => SqL.of (s4 _ _ (hLo hl' (by intro _ z; cases z)))) ?_ ?_⟩
      · rintro k x H4 H4' hk4 ⟨ws4, hD4, ht4, s4⟩ ⟨rfl, hx4⟩
        rw [List.length_map] at hk4
        have ex : x = .str (qw.2[k]) := by
          rw [List.getElem?_map, List.getElem?_eq_getElem hk4] at hx4
          exact (Option.some.inj hx4).symm
        subst ex
        refine ⟨rfl, _, rfl, _, rfl, (by show 2 ≤ sizeLine; decide), fun p5 n5 => ?_⟩
        have s5 := same_upd (o := .tup [V.str qw.1, V.str (qw.2[k])]) n5
        have hD5 := s5 _ _ hD4
        have hbound : ws4.length < 1000 := by
          rw [← Paired.length ht4, List.length_append, List.length_map, List.length_take]
          have h1 := chs_len (S := S.take i) fun q hq => ok.w4 q (List.mem_of_mem_take hq)
          have h2 := ok.w4 qw hqm
          have h3 := ok.n4
          rw [List.length_take] at h1
          omega
        refine ⟨ws4, hD5, small1000 (Nat.le_of_lt hbound), _, upd_same, ?_, fun b o e => ?_⟩
        · rw [List.take_add_one, List.getElem?_eq_getElem hk4, List.map_append, ← List.append_assoc]
          have up : ∀ (c : Ch) (v : V), ChAt (upd H4' p5 (.tup [V.str qw.1, V.str (qw.2[k])])) c v → ChAt (upd (upd H4' p5 (.tup [V.str qw.1, V.str (qw.2[k])])) D (.lst (ws4 ++ [.ref p5]))) c v := fun c v ⟨a, e, h⟩ => ⟨a, e, by
            rw [upd_ne (ne_of h hD5 (by intro z; cases z))]
            exact h⟩
          exact paired_append (paired_imp ht4 fun c v h => up c v (h.same s5)) (.cons (up _ _ ⟨p5, rfl, upd_same⟩) .nil)
        · rw [upd_ne (ne_of_none e nD)]
          exact s5 _ _ (s4 _ _ e)
      · rintro H4 ⟨ws4, hD4, ht4, s4⟩
        rw [List.length_map, List.take_length] at ht4
        exact ⟨ws4, hD4, by rw [chs_more hqw]; exact ht4, s4⟩
    · rintro H3 ⟨ws, hD, hws, s3⟩
      rw [← hlen, List.take_length] at hws
      have h3w := s3 _ _ hLw
      refine ⟨h3w, ?_⟩
      have s5 : Same H1 (upd H3 wa (.dK kw)) := by
        rw [← hHL] at s3
        exact unlock hkw s3
      have keep : ∀ {b : Addr} {o : HO}, H3 b = some o → (∀ od k, o ≠ .frz od k) → (upd H3 wa (.dK kw)) b = some o := fun {b o} e hn => by
        rw [upd_ne (fun z => by subst z; rw [h3w] at e; exact hn _ _ (Option.some.inj e).symm)]
        exact e
      have nD' : H1 D = none := by
        rw [← hHL] at nD
        have hne : D ≠ wa := fun z => by subst z; rw [upd_same] at nD; cases nD
        rwa [upd_ne hne] at nD
      generalize hH5 : upd H3 wa (.dK kw) = H5 at s5 keep
      have hD5 : H5 D = some (.lst ws) := keep hD (by intro _ _ z; cases z)
      have hws5 : Paired (ChAt H5) (chs S) ws := paired_imp hws fun _ _ ⟨a, e, h⟩ => ⟨a, e, keep h (by intro _ _ z; cases z)⟩
      have hcl : (chs S).length = ws.length := Paired.length hws5
      refine ⟨_, rfl, D, rfl, ⟨_, SqL.of hD5⟩, fun E nE => ?_⟩
      have sE := same_upd (o := .lst []) nE
      refine lc_it (walk_list (K := K) (a := D) (xs := ws)) (fun i H6 => ∃ es, H6 E = some (.lst es) ∧ Paired (ChAt H6) (((chs S).take i).filter (mayDo S st)) es ∧ Same H5 H6) ⟨[], upd_same, .nil, sE⟩ (fun i H6 _ ⟨_, _, _, s6⟩ => SqL.of (s6 _ _ hD5)) ?_ ?_
      · rintro i x H6 H7 hi ⟨es, hE, hes, s6⟩ ⟨rfl, hx⟩
        obtain ⟨ch, hch, b, rfl, hb⟩ := paired_get hws5 hx
        obtain ⟨qw, hqm, e1, hv⟩ := mem_chs.mp (List.mem_of_getElem? hch)
        obtain ⟨j, hj⟩ := List.mem_iff_getElem?.mp hqm
        have hjl : j < st.length := by
          rw [stds_mem hst]
          exact (List.getElem?_eq_some_iff.mp hj).1
        have hz : st[j]? = some st[j] := List.getElem?_eq_getElem hjl
        have s16 := s1.trans (s5.trans s6)
        have hb7 := s6 _ _ hb
        refine ⟨rfl, _, rfl, g, dx, _, rfl, (hG.same s16).hg, rfl, _, rfl, _, rfl, g, a, .ref b, ch.1, ch.2, j, qw, _, st, N, S, γ, rfl, hg.same s16, ok, .tup (SqT.of hb7) (AnyV.tup hb7), ok.wn qw hqm _ hv, hj, e1, s16 _ _ ha, hz, fun H8 s8 => ⟨_, rfl, ?_⟩⟩
        have em : (decide (ch.2 ∈ qw.2) && !decide (ch.2 = st[j])) = mayDo S st ch := by
          rw [decide_eq_true hv, Bool.true_and, ← mayDo_at ok.nd hj hz, e1]
        rw [em]
        have hE8 := s8 _ _ hE
        have hes8 := paired_imp hes fun c v (h : ChAt H7 c v) => h.same s8
        cases e : mayDo S st ch with
        | false =>
          refine iteF ⟨es, hE8, ?_, s6.trans s8⟩
          rw [List.take_add_one, hch, List.filter_append]
          rw [show List.filter (mayDo S st) (some ch).toList = [] by show List.filter _ [ch] = []; rw [List.filter_cons, e]; rfl, List.append_nil]
          exact hes8
        | true =>
          have hlen8 : es.length ≤ ws.length := by
            rw [← Paired.length hes8, ← hcl]
            exact Nat.le_trans (List.length_filter_le _ _) (by rw [List.length_take]; exact Nat.min_le_right _ _)
          have hw16 : ws.length ≤ 16 := by
            rw [← hcl]
            have h1 := chs_len ok.w4
            have h3 := ok.n4
            omega
          refine iteT ⟨_, rfl, es, hE8, small1000 (by omega), _, upd_same, ?_, fun b o e => ?_⟩
          · rw [List.take_add_one, hch, List.filter_append]
            rw [show List.filter (mayDo S st) (some ch).toList = [ch] by show List.filter _ [ch] = [ch]; rw [List.filter_cons, e]; rfl]
            have up : ∀ (c : Ch) (v : V), ChAt H8 c v → ChAt (upd H8 E (.lst (es ++ [.ref b]))) c v := fun c v ⟨a, e, h⟩ => ⟨a, e, by
              rw [upd_ne (ne_of h hE8 (by intro z; cases z))]
              exact h⟩
            exact paired_append (paired_imp hes8 up) (.cons (up _ _ ⟨b, rfl, s8 _ _ hb7⟩) .nil)
          · rw [upd_ne (ne_of_none e nE)]
            exact s8 _ _ (s6 _ _ e)
      · rintro H6 ⟨es, hE, hes, s6⟩
        rw [← hcl, List.take_length] at hes
        refine q H6 E es (s1.trans (s5.trans s6)) ?_ hE hes
        exact (s1.trans s5).free nE
end
end HG

namespace HG
open PySem PySem.Spec PyProof.Rows L2
/-! ### list(o), o's own __iter__ tells a list's iterator, o has a __len__ of its own -/
section
variable {X : Cx} {pins : List (Addr × Obj)} {σ : L2.St} {H : Hp} {s : Shared} {it l q a : Addr} {i : Nat} {xs : List V} {A A1 : Around}
theorem pynext_item {v : V} {Q : Option Value → Shared → Prop} {E : Value → Shared → Prop} (I : Inv X pins σ H s) (ei : H it = some (ItO l it i)) (el : SqL X.K H l xs) (hv : xs[i]? = some v)
    (h : ∀ u s', RelV v u → Inv X pins σ (upd H it (ItO l it (i + 1))) s' → Q (some u) s') : wpAny (model X.prog X.w) A (pyNext (.ref it)) Q E s := by
  obtain ⟨its, rv, pl, hz⟩ := I.list el
  have hx := itO_get I ei
  have hT : s.TypeIs (.ref it) "list_iterator" := ⟨_, hx, rfl⟩
  have mu : Mut (H it) := by rw [ei]; exact True.intro
  obtain ⟨w', hw, rw'⟩ := rv.get hv
  unfold pyNext
  refine wpAny_bind (wpAny_attempt (wpAny_callSpecial?_slot (name := Str.ofString "__next__") hT slot_listiter_next (wpAny_call_entry slot_listiter_next hT entry_listiter_next ?_ (args_listiter_next _))))
  refine wpAny_mono (GNX.next_item (E := fun _ _ => False) (Q := fun v s2 => Q (some v) s2) hx pl.isList (by rw [List.getElem?_toArray]; exact hw) fun h' e' sb => h w' { s with heap := h' } rw' (I.write (x := it) (e := it) (t' := s.toks) mu (.inl rfl) (fun b o nb z => (sb.2 b nb).trans z) ⟨_, e'⟩ (itO_ok e'))) (fun fin s' hq => ?_) fun _ _ z => z.elim
  obtain ⟨v, e, hq⟩ := hq
  exact ⟨v, e, wpAny_pure hq⟩
theorem pynext_end {Q : Option Value → Shared → Prop} {E : Value → Shared → Prop} (hh : A.handled = none) (I : Inv X pins σ H s) (ei : H it = some (ItO l it i)) (el : SqL X.K H l xs) (hn : xs[i]? = none)
    (h : ∀ s', Inv X pins σ (upd H it (ItE it i)) s' → Q none s') : wpAny (model X.prog X.w) A (pyNext (.ref it)) Q E s := by
  obtain ⟨its, rv, pl, hz⟩ := I.list el
  have hx := itO_get I ei
  have hT : s.TypeIs (.ref it) "list_iterator" := ⟨_, hx, rfl⟩
  have mu : Mut (H it) := by rw [ei]; exact True.intro
  unfold pyNext
  refine wpAny_bind (wpAny_attempt (wpAny_callSpecial?_slot (name := Str.ofString "__next__") hT slot_listiter_next (wpAny_call_entry slot_listiter_next hT entry_listiter_next ?_ (args_listiter_next _))))
  refine wpAny_mono (GNX.next_end (A := A) (Q := fun _ _ => False) hh hx pl.isList (by rw [List.getElem?_toArray]; exact rv.none_of hn) fun h1 h' e vs e1 sb k ne he hv => ?_) (fun fin s' hq => ?_) fun _ _ z => z
  · refine wpAny_bind (wpAny_isInstance (T := "StopIteration") (b := true) ⟨_, he, rfl⟩ isSubtype_stop (wpAny_pure (h { s with heap := h' } ?_)))
    have I2 : Inv X pins σ (upd H it (ItE it i)) { s with heap := h1 } := I.write (x := it) (e := it) (t' := s.toks) mu (.inl rfl) (fun b o nb z => (sb.2 b nb).trans z) ⟨_, e1⟩ (itE_ok e1)
    exact I2.kept (t' := s.toks) k
  · obtain ⟨v, e, hq⟩ := hq
    exact hq.elim
theorem loop_it {Rs : Result → Shared → Prop} (hh : A1.in1.handled = none) : ∀ (m i : Nat) (acc : List V) (H : Hp) (s : Shared), Inv X pins σ H s → m + i = xs.length → H it = some (ItO l it i) → H l = some (.lst xs) → l ≠ q → H q = some (.lst acc) → acc.length + m < sizeLine →
    (∀ H' s', Inv X pins σ H' s' → H' q = some (.lst (acc ++ xs.drop i)) → (∀ b o, b ≠ q → b ≠ it → H b = some o → H' b = some o) → Rs (.ok (.ret .none)) s') →
    codeAny (model X.prog X.w) A1 (.builtin "list.extend.loop" ⟨[.ref q, .ref it, .none], []⟩) Rs s := by
  intro m
  induction m with
  | zero =>
    intro i acc H s I hm hi hl hlq hq hz fin
    refine codeAny_builtin PySem.F.entry_extend_loop ?_
    rw [Around.under_plainId PySem.F.plain_extend_loop _]
    show wpAny _ A1.in1 (pyNext (.ref it) >>= _) _ _ s
    have hqi : q ≠ it := ne_of hq hi (fun z => by cases z)
    refine wpAny_bind (pynext_end hh I hi (SqL.of hl) (by rw [List.getElem?_eq_none]; omega) fun s' I' => ?_)
    refine wpAny_pure (fin _ s' I' ?_ fun b o h1 h2 e => by rw [upd_ne h2]; exact e)
    rw [upd_ne hqi, List.drop_eq_nil_of_le (by omega), List.append_nil]
    exact hq
  | succ m ih =>
    intro i acc H s I hm hi hl hlq hq hz fin
    refine codeAny_builtin PySem.F.entry_extend_loop ?_
    rw [Around.under_plainId PySem.F.plain_extend_loop _]
    show wpAny _ A1.in1 (pyNext (.ref it) >>= _) _ _ s
    have hqi : q ≠ it := ne_of hq hi (fun z => by cases z)
    have hli : l ≠ it := ne_of hl hi (fun z => by cases z)
    have hlt : i < xs.length := by omega
    refine wpAny_bind (pynext_item I hi (SqL.of hl) (List.getElem?_eq_getElem hlt) fun u s' ru I' => ?_)
    show wpAny _ A1.in1 (updateSeq q (·.push u) >>= _) _ _ _
    have hq' : (upd H it (ItO l it (i + 1))) q = some (.lst acc) := by rw [upd_ne hqi]; exact hq
    obtain ⟨z, its, k, r2, hle, e⟩ := I'.lstM hq'
    refine wpAny_bind (wpAny_updateSeq e rfl (wpAny_pure ⟨plainId_quiet PySem.F.plain_extend_loop _, ?_⟩) (by rw [List.size_toArray]; omega) (by show (its.toArray.push u).size ≤ sizeLine + 1; rw [Array.size_push, List.size_toArray]; omega))
    refine ih (i + 1) (acc ++ [xs[i]]) _ _ (I'.lset (its' := its ++ [u]) (t' := s'.toks) hq' e (by simp) (r2.append (.cons ru .nil)) (by rw [List.length_append, List.length_singleton]; omega)) (by omega) ?_ ?_ hlq upd_same (by rw [List.length_append, List.length_singleton]; omega) fun H' s2 I2 h2 hk => fin H' s2 I2 ?_ fun b o h1 h3 e => hk b o h1 h3 ?_
    · rw [upd_ne (fun z => hqi z.symm), upd_same]
    · rw [upd_ne hlq, upd_ne hli]
      exact hl
    · rw [h2, List.append_assoc, List.drop_eq_getElem_cons hlt]
      rfl
    · rw [upd_ne h1, upd_ne h3]
      exact e
end
section
variable {X : Cx} {C fI fL : Addr} {fdI fdL : FuncData} {psI psL : List Str} {n : Nat} {spI spL : Sp} {EI EL : XK}
def rListOwn (C : Addr) (spI spL : Sp) (EI EL : XK) : List V → Hp → VK → Prop := fun vs H Q => ∃ a dx fs, vs = [.ref a] ∧ H a = some (.ins C dx fs) ∧ ∀ q, H q = none → spI [.ref a] (upd H q (.lst [])) (fun v H1 => ∃ it l zs dx' fs', v = .ref it ∧ H1 it = some (ItO l it 0) ∧ H1 l = some (.lst zs) ∧ zs.length ≤ 1000 ∧
  H1 q = some (.lst []) ∧ l ≠ q ∧ H1 a = some (.ins C dx' fs') ∧ spL [.ref a] H1 (fun w H2 => H2 = H1 ∧ ∃ k : Nat, w = .int (k : Int) ∧ k ≤ 1000) EL ∧ ∀ H3, H3 q = some (.lst zs) → (∀ b o, b ≠ q → b ≠ it → H1 b = some o → H3 b = some o) → Q (.ref q) H3) EI
theorem hint_own {pins : List (Addr × Obj)} {σ : L2.St} {H : Hp} {s : Shared} {a dx : Addr} {fs : List (Str × V)} {A : Around} {Q : Bool → Shared → Prop} {E : Value → Shared → Prop} (sb : Sub X n A.in1) (hl : PySem.W.findIn X.K (.ref C) "__len__" = some (some (.ref fL))) (hlF : PySem.W.isFn X.K (.ref fL) = true)
    (FL : FnOk X.prog X.w X.K X.mg X.base CX0 n fL fdL psL spL) (bL : Binds X.K fdL psL []) (I : Inv X pins σ H s) (ha : H a = some (.ins C dx fs)) (hsp : spL [.ref a] H (fun w H2 => H2 = H ∧ ∃ k : Nat, w = .int (k : Int) ∧ k ≤ 1000) EL)
    (h : ∀ b s', Inv X pins σ H s' → Q b s') : wpAny (model X.prog X.w) A (Builtin.List.listLengthHint (.ref a)) Q E s := by
  obtain ⟨mA, J, _⟩ := ins_get I.hok ha
  obtain ⟨od, J, _⟩ := J.look
  obtain ⟨m0, hF⟩ := I.fr
  unfold Builtin.List.listLengthHint
  refine wpAny_bind (wpAny_bind (J.type.here ((PySem.W.looks_findIn I.kIn hl).here ?_)))
  refine PySem.W.KFB.if_not rfl ?_
  refine PySem.W.KFB.if_so rfl ?_
  refine wpAny_bind (wpAny_rule ?_)
  refine wpAny_bind (wpAny_attempt ?_)
  have e0 : Env0 X.prog X.w X.K X.mg X.base A.in1 X.stack s H := by
    have e := I.env0
    exact ⟨by rw [sb.fr]; exact e.frames, e.mod, e.bs, e.bsz, e.funs, e.frf, e.hok, e.bare⟩
  have hln := FL.len _ _ _ _ hsp
  refine PySem.W.len_K hF I.ok.mod.kin J hl hlF (wpAny_call (codeAny_mono (FL.run A.in1 X.stack s H ⟨[.ref a], []⟩ [.ref a] [.ref a] _ EL sb.room e0 (by
    have := bL s [.ref a] I.kIn (by simpa using hln)
    simpa using this) (.cons rfl .nil) hsp) fun r s' hq => ?_))
  cases r with
  | error e => exact False.elim hq
  | ok fl =>
    cases fl with
    | next => exact False.elim hq
    | brk => exact False.elim hq
    | cont => exact False.elim hq
    | ret u =>
      obtain ⟨z, H', I', rz, rfl, k, rfl, hk⟩ := I.after hq
      obtain ⟨t, rfl⟩ := (show ∃ t, u = Value.int k t from rz)
      have := line63
      have h1000 : 1000 ≤ sizeLine := by rw [sizeLine_eq]; decide
      refine ⟨⟨by omega, by omega⟩, ?_⟩
      refine wpAny_bind (wpAny_pure ?_)
      refine PySem.W.KFB.if_not (by unfold Builtin.List.listTooLong; rw [Int.toNat_natCast]; exact decide_eq_false (by omega)) ?_
      exact wpAny_pure (h _ _ (I'.tok _))
def AfterIter (C : Addr) (spL : Sp) (EL : XK) (a q : Addr) (R : Hp → Prop) : VK := fun v H1 => ∃ it l zs dx' fs', v = .ref it ∧ H1 it = some (ItO l it 0) ∧ H1 l = some (.lst zs) ∧ zs.length ≤ 1000 ∧
  H1 q = some (.lst []) ∧ l ≠ q ∧ H1 a = some (.ins C dx' fs') ∧ spL [.ref a] H1 (fun w H2 => H2 = H1 ∧ ∃ k : Nat, w = .int (k : Int) ∧ k ≤ 1000) EL ∧ ∀ H3, H3 q = some (.lst zs) → (∀ b o, b ≠ q → b ≠ it → H1 b = some o → H3 b = some o) → R H3
theorem extend_own {pins : List (Addr × Obj)} {σ : L2.St} {H : Hp} {s : Shared} {a q dx : Addr} {fs : List (Str × V)} {A1 : Around} {R : Hp → Prop} {Rs : Result → Shared → Prop} (sb : Sub X (n + 1) A1.in1) (hh : A1.in1.handled = none)
    (hi : PySem.W.findIn X.K (.ref C) "__iter__" = some (some (.ref fI))) (hiF : PySem.W.isFn X.K (.ref fI) = true) (hl : PySem.W.findIn X.K (.ref C) "__len__" = some (some (.ref fL))) (hlF : PySem.W.isFn X.K (.ref fL) = true)
    (FI : FnOk X.prog X.w X.K X.mg X.base CX0 n fI fdI psI spI) (bI : Binds X.K fdI psI []) (FL : FnOk X.prog X.w X.K X.mg X.base CX0 n fL fdL psL spL) (bL : Binds X.K fdL psL [])
    (I : Inv X pins σ H s) (ha : H a = some (.ins C dx fs)) (hq : H q = some (.lst [])) (hsp : spI [.ref a] H (AfterIter C spL EL a q R) EI) (hdone : ∀ H' s', Inv X pins σ H' s' → R H' → Rs (.ok (.ret .none)) s') :
    wpAny (model X.prog X.w) A1.in1 (Builtin.List.listExtendWith (.ref q) (.ref a) .none)
      (fun fin s' => match fin with | .done f => Rs (.ok f) s' | .again c' => c'.quiet = true ∧ codeAny (model X.prog X.w) A1 c' Rs s') (fun e s' => Rs (.error e) s') s := by
  have hne : q ≠ a := ne_of hq ha (fun z => nomatch z)
  obtain ⟨mA, J, _⟩ := ins_get I.hok ha
  obtain ⟨od, J, _⟩ := J.look
  obtain ⟨m0, hF⟩ := I.fr
  unfold Builtin.List.listExtendWith
  refine wpAny_bind (J.type.here ?_)
  have h1 : Builtin.List.listSameRef (.ref q) (.ref a) = false := by simp [Builtin.List.listSameRef, hne]
  have h2 : (Value.ref C == Value.type "list") = false := rfl
  have h3 : (Value.ref C == Value.type "tuple") = false := rfl
  simp only [h1, h2, h3, Bool.or_false, Bool.false_eq_true, if_false]
  refine wpAny_bind (PySem.W.owit_iter hF I.ok.mod.kin J hi hiF ?_)
  have e0 : Env0 X.prog X.w X.K X.mg X.base A1.in1 X.stack s H := by
    have e := I.env0
    exact ⟨by rw [sb.fr]; exact e.frames, e.mod, e.bs, e.bsz, e.funs, e.frf, e.hok, e.bare⟩
  have hln := FI.len _ _ _ _ hsp
  refine wpAny_call (codeAny_mono (FI.run A1.in1 X.stack s H ⟨[.ref a], []⟩ [.ref a] [.ref a] _ EI (sb.mono (Nat.le_succ n)).room e0 (by
    have := bI s [.ref a] I.kIn (by simpa using hln)
    simpa using this) (.cons rfl .nil) hsp) fun r s' hr => ?_)
  cases r with
  | error e => exact False.elim hr
  | ok fl =>
    cases fl with
    | next => exact False.elim hr
    | brk => exact False.elim hr
    | cont => exact False.elim hr
    | ret u =>
      obtain ⟨v, H1, I1, rv, it, l, zs, dx', fs', rfl, hit, hl1, hz, hq1, hlq, ha1, hlen, fin⟩ := I.after hr
      cases (show u = Value.ref it from rv)
      have hT : s'.TypeIs (.ref it) "list_iterator" := ⟨_, itO_get I1 hit, rfl⟩
      show wpAny _ _ _ _ _ _
      refine wpAny_specialOf (name := Str.ofString "__next__") hT slot_listiter_next.lookup ?_
      refine wpAny_bind (wpAny_holding (hint_own (sb.in1) hl hlF FL bL I1 ha1 hlen fun room s2 I2 => ?_))
      have last : ∀ (s3 : Shared), Inv X pins σ H1 s3 → codeAny (model X.prog X.w) A1 (.builtin "list.extend.loop" ⟨[.ref q, .ref it, .none], []⟩) Rs s3 := fun s3 I3 =>
        loop_it hh zs.length 0 [] H1 s3 I3 (Nat.add_zero _) hit hl1 hlq hq1 (Nat.lt_of_le_of_lt (by rw [List.length_nil, Nat.zero_add]; exact hz) (by rw [sizeLine_eq]; decide)) fun H' s4 I4 h4 hk => hdone H' s4 I4 (fin H' (by simpa using h4) hk)
      obtain ⟨z, its, k, r3, hl3, e3⟩ := I2.lstM hq1
      cases r3
      refine wpAny_ite_split (fun _ => ?_) (fun _ => wpAny_pure ⟨plainId_quiet PySem.F.plain_extend_loop _, last _ I2⟩)
      refine wpAny_bind (wpAny_rule ?_)
      refine wpAny_bind ?_
      show wpAny _ _ (updateSeq q (·.push .none) >>= fun _ => updateSeq q (·.pop)) _ _ _
      refine wpAny_bind (wpAny_updateSeq e3 rfl ?_)
      have I3 := I2.lset (f := (·.push Value.none)) (its' := [Value.none]) (ys := [.non]) (t' := s2.toks) hq1 e3 (by simp) (.cons rfl .nil) (by rw [List.length_singleton, sizeLine_eq]; decide)
      obtain ⟨z4, its4, k4, r4, hl4, e4⟩ := I3.lstM upd_same
      obtain ⟨u4, rfl, ru4⟩ := r4.one
      refine wpAny_updateSeq e4 rfl ?_ (by show 1 ≤ sizeLine; rw [sizeLine_eq]; decide) (by show 0 ≤ sizeLine + 1; exact Nat.zero_le _)
      refine wpAny_pure ⟨plainId_quiet PySem.F.plain_extend_loop _, last _ ?_⟩
      have I4 := I3.lset (f := (·.pop)) (its := [u4]) (its' := []) (ys := []) (t' := s2.toks) upd_same e4 (by rfl) .nil (Nat.zero_le _)
      rw [upd_upd] at I4
      have hH : upd H1 q (.lst []) = H1 := by
        funext b
        by_cases hb : b = q
        · rw [hb, upd_same, hq1]
        · rw [upd_ne hb]
      rw [hH] at I4
      exact I4
theorem call_listGame (hi : PySem.W.findIn X.K (.ref C) "__iter__" = some (some (.ref fI))) (hiF : PySem.W.isFn X.K (.ref fI) = true) (hl : PySem.W.findIn X.K (.ref C) "__len__" = some (some (.ref fL))) (hlF : PySem.W.isFn X.K (.ref fL) = true)
    (FI : FnOk X.prog X.w X.K X.mg X.base CX0 n fI fdI psI spI) (bI : Binds X.K fdI psI []) (FL : FnOk X.prog X.w X.K X.mg X.base CX0 n fL fdL psL spL) (bL : Binds X.K fdL psL []) (hc : X.calm = true) (hr : Room (n + 3) X.A) : CallR X (.type "list") (rListOwn C spI spL EI EL) := by
  intro pins s σ H xs us Q I rv h
  obtain ⟨a, dx, fs, rfl, ha, hq⟩ := h
  obtain ⟨u, rfl, ru⟩ := rv.one
  cases ru
  have sb : Sub X (n + 1) X.A.in1.in1 := Sub.in1 (Sub.in1 (⟨hr, rfl⟩ : Sub X (n + 3) X.A))
  refine callType_codes (Q₁ := fun obj s₁ => obj = .ref s.heap.objs.size ∧ s₁ = { s with heap := s.heap.push { cls := .type "list", data := .seq #[] } }) PySem.F.called_list (PySem.F.typeCall_list_1 _) PySem.F.entry_list_init
    (code_list_new _ ⟨rfl, rfl⟩) fun obj s₁ h₁ => ?_
  obtain ⟨rfl, rfl⟩ := h₁
  have hS : (s.heap.push { cls := .type "list", data := .seq #[] }).get? s.heap.objs.size = some { cls := .type "list", data := .seq #[] } := Heap.get?_push_size _ rfl
  refine ⟨⟨_, hS, rfl⟩, PySem.F.args_list_init_2 _ _, ?_⟩
  have fr : H s.heap.objs.size = none := I.hok.fresh (Nat.le_refl _)
  have I1 : Inv X pins σ (upd H s.heap.objs.size (.lst [])) { s with heap := s.heap.push { cls := .type "list", data := .seq #[] } } := I.lnew (its := []) (t' := s.toks) .nil (Nat.zero_le _)
  show wpAny _ _ (do let old ← Builtin.List.listItems (.ref s.heap.objs.size); Builtin.List.listUpdate (.ref s.heap.objs.size) (fun _ => #[]); letGo old.toList.reverse; Builtin.List.listExtendWith (.ref s.heap.objs.size) (.ref a) .none) _ _ _
  refine wpAny_bind ?_
  unfold Builtin.List.listItems
  refine wpAny_bind (wpAny_seqItems hS rfl (wpAny_pure ?_))
  show wpAny _ _ (updateSeq s.heap.objs.size (fun _ => #[]) >>= fun _ => letGo (#[] : Array Value).toList.reverse >>= fun _ => Builtin.List.listExtendWith (.ref s.heap.objs.size) (.ref a) .none) _ _ _
  refine wpAny_bind (wpAny_updateSeq hS rfl ?_)
  have I2 := I1.lset (f := fun _ => #[]) (its := []) (its' := []) (ys := []) (t' := s.toks) upd_same hS rfl .nil (Nat.zero_le _)
  rw [upd_upd] at I2
  refine wpAny_bind (wpAny_letGo ?_)
  have ha2 : upd H s.heap.objs.size (.lst []) a = some (.ins C dx fs) := by rw [upd_ne (ne_of_none ha fr)]; exact ha
  exact extend_own (A1 := X.A.in1) (R := fun H' => Q (.ref s.heap.objs.size) H') (Rs := wants (fun r s₂ => r = .none ∧ EP X pins σ Q (.ref s.heap.objs.size) s₂) X.xe) sb (I.ok.hd hc) hi hiF hl hlF FI bI FL bL I2 ha2 upd_same (hq _ fr)
    (fun H' s' I' hR => ⟨rfl, .ref s.heap.objs.size, H', I', rfl, hR⟩)
end
end HG

namespace HG
open PySem PySem.Spec PyProof.Rows L2
open C8 (pss_cut tCut)
theorem stds_ne {S : List Way} (ok : SOk S) : 1 ≤ (stds S).length := by
  have key : ∀ (S : List Way) (sts : List (List Str)), (∀ q ∈ S, 1 ≤ q.2.length) → 1 ≤ sts.length → 1 ≤ (S.foldl (fun sts q => mul1 sts q.2) sts).length := by
    intro S
    induction S with
    | nil => exact fun sts _ h => h
    | cons q r ih =>
      refine fun sts h hs => ih _ (fun q hq => h q (List.mem_cons_of_mem _ hq)) ?_
      rw [mul1_len]
      exact Nat.mul_pos hs (h q List.mem_cons_self)
  exact key S [[]] ok.w1 (Nat.le_refl _)
section
variable {P : Program} {w : World} {K : PySem.W.Frag} {mg : Str → Option Value} {base : Heap}
variable {C : Addr}
def spIter (K : PySem.W.Frag) (C : Addr) : Sp := fun args H Q _ => ∃ (g : Addr) (N : Addr → Prop) (S : List Way) (γ : List Str → List Int), args = [.ref g] ∧ IsG K C N H g S γ ∧ ∀ it l vs, H it = none → H l = some (.lst vs) → N l → TupsAt H (stds S) vs → Q (.ref it) (upd H it (ItO l it 0))
abbrev MtIter (K : PySem.W.Frag) (C f : Addr) (fd : FuncData) := Mt K C "__iter__" "Game.__iter__" s_Game___iter ["self"] f fd
theorem ok_iter {f : Addr} {fd : FuncData} (mi : mg "iter" = none) (c : GC K C) (M : MtIter K C f fd) : FnOk P w K mg base CX0 1 f fd ["self"] (spIter K C) := by
  have S : FnScope ["self"] ["self"] (defScope s_Game___iter) := ⟨rfl, rfl, rfl, by decide +kernel, rfl, by decide +kernel, by decide +kernel⟩
  refine M.F.ok S (fun vs H Q E h => ?_) (fun cdv A outer s H vs Q E hr h => ?_)
  · obtain ⟨g, N, S, γ, rfl, _⟩ := h
    rfl
  · obtain ⟨g, N, S, γ, rfl, ⟨dx, wa, l, ta, vs, kvs, hG⟩, q⟩ := h
    refine ⟨_, pss_one (ps_ret (pe_callB call_iterL (by rfl) mi (by decide +kernel) (pa_cons (pe_fld (pv 0) rfl) pa_nil))), ?_⟩
    exact ⟨_, rfl, g, C, dx, _, _, rfl, hG.hg, c.cl, c.nL, rfl, l, vs, rfl, SqL.of hG.hl, fun it nit => q it l vs nit hG.hl hG.nl hG.hs⟩
section
variable {X : Cx} {fI fL : Addr} {dI dL : FuncData}
/-- list(game) -/
def rListG (K : PySem.W.Frag) (C : Addr) : List V → Hp → VK → Prop := fun xs H Q => ∃ g N S γ, xs = [V.ref g] ∧ IsG K C N H g S γ ∧ SOk S ∧ ∀ H' p vs, Same H H' → H p = none → H' p = some (.lst vs) → TupsAt H' (stds S) vs → Q (.ref p) H'
theorem call_listG (T : KT X.K X.mg) (mi : X.mg "iter" = none) (c : GC X.K C) (MI : MtIter X.K C fI dI) (ML : MtLen X.K C fL dL) (hc : X.calm = true) (hr : Room 4 X.A) : CallR X (.type "list") (rListG X.K C) := by
  intro pins s σ H xs us Q I rv h
  obtain ⟨g, N, S, γ, rfl, hg, ok, q⟩ := h
  obtain ⟨dx, wa, l, ta, vs, kvs, hG⟩ := id hg
  refine call_listGame (n := 1) (EI := E0) (EL := E0) MI.me.at_ MI.me.fn ML.me.at_ ML.me.fn (ok_iter mi c MI) MI.b (ok_len T c ML) ML.b hc hr pins s σ H _ us Q I rv ⟨g, dx, _, rfl, hG.hg, fun p np => ?_⟩
  have sp := same_upd (o := .lst []) np
  have hgp := hg.same sp
  refine ⟨g, N, S, γ, rfl, hgp, fun it l' vs' nit hl nl hs => ?_⟩
  have sit := same_upd (o := ItO l' it 0) nit
  have hlp : l' ≠ p := fun z => by
    subst z
    rw [upd_same] at hl
    cases hl
    have h1 : (stds S).length = 0 := Paired.length hs
    have h2 := stds_ne ok
    omega
  refine ⟨it, l', vs', dx, _, rfl, upd_same, sit _ _ hl, ?_, sit _ _ upd_same, hlp, sit _ _ (sp _ _ hG.hg), ⟨g, N, S, γ, rfl, hgp.same sit, rfl, (stds S).length, rfl, ?_⟩, fun H3 h3 hk => ?_⟩
  · rw [← show (stds S).length = vs'.length from Paired.length hs]
    have := ok.few
    omega
  · have := ok.few
    omega
  · have hpi : p ≠ it := fun z => by
      subst z
      rw [upd_same] at nit
      cases nit
    refine q H3 p vs' (fun b o e => ?_) np h3 ?_
    · have hbp : b ≠ p := ne_of_none e np
      have e1 := sp _ _ e
      exact hk b o hbp (ne_of_none e1 nit) (sit _ _ e1)
    · refine paired_imp hs fun _ _ ⟨a, e, h⟩ => ⟨a, e, ?_⟩
      exact hk a _ (ne_of h upd_same (by intro z; cases z)) (ne_of_none h nit) (sit _ _ h)
end
end
end HG

namespace HG
open PySem PySem.Spec PyProof.Rows L2
open C8 (pss_cut tCut)
/-! ### walks, as plain functions -/
def canP (S : List Way) (st : List Str) (c : Ch) : Bool := (S.zip st).any fun p => decide (p.1.1 = c.1) && (decide (c.2 ∈ p.1.2) && !decide (c.2 = p.2))
def putP (S : List Way) (st : List Str) (c : Ch) : List Str := (S.zip st).map fun p => if p.1.1 = c.1 then c.2 else p.2
def goes (S : List Way) (st : List Str) (cs : List Ch) : List Str := cs.foldl (putP S) st
def stops (S : List Way) (st : List Str) (cs : List Ch) : List (List Str) := (List.range (cs.length + 1)).map fun i => goes S st (cs.take i)
theorem names_at {S : List Way} {i : Nat} {q : Way} (h : S[i]? = some q) : (names S)[i]? = some q.1 := by
  unfold names
  rw [List.getElem?_map, h]
  rfl
theorem one_place {S : List Way} (nd : (names S).Nodup) {i j : Nat} {q r : Way} (hi : S[i]? = some q) (hj : S[j]? = some r) (e : r.1 = q.1) : j = i := by
  obtain ⟨h1, e1⟩ := List.getElem?_eq_some_iff.mp (names_at hi)
  obtain ⟨h2, e2⟩ := List.getElem?_eq_some_iff.mp (names_at hj)
  exact (List.getElem_inj nd).mp (e2.trans (e.trans e1.symm))
theorem canP_at {S : List Way} {st : List Str} {i : Nat} {q : Way} {z v : Str} (nd : (names S).Nodup) (hq : S[i]? = some q) (hz : st[i]? = some z) : canP S st (q.1, v) = (decide (v ∈ q.2) && !decide (v = z)) := by
  unfold canP
  rw [Bool.eq_iff_iff, List.any_eq_true]
  constructor
  · rintro ⟨p, hp, e⟩
    obtain ⟨j, hj⟩ := List.mem_iff_getElem?.mp hp
    rw [List.getElem?_zip_eq_some] at hj
    obtain ⟨e1, e2⟩ := Bool.and_eq_true_iff.mp e
    have := one_place nd hq hj.1 (of_decide_eq_true e1)
    subst this
    have a1 := Option.some.inj (hq.symm.trans hj.1)
    have a2 := Option.some.inj (hz.symm.trans hj.2)
    rw [a1, a2]
    exact e2
  · intro e
    exact ⟨(q, z), List.mem_iff_getElem?.mpr ⟨i, List.getElem?_zip_eq_some.mpr ⟨hq, hz⟩⟩, by simpa using e⟩
theorem canP_no {S : List Way} {st : List Str} {c : Ch} (h : c.1 ∉ names S) : canP S st c = false := by
  unfold canP
  rw [List.any_eq_false]
  intro p hp
  have hm : p.1 ∈ S := (List.of_mem_zip hp).1
  have hne : p.1.1 ≠ c.1 := fun e => h (by rw [← e]; exact List.mem_map.mpr ⟨p.1, hm, rfl⟩)
  rw [decide_eq_false hne]
  simp
theorem putP_at {S : List Way} {st : List Str} {i : Nat} {q : Way} {v : Str} (nd : (names S).Nodup) (hq : S[i]? = some q) (hl : st.length = S.length) : putP S st (q.1, v) = st.set i v := by
  unfold putP
  have hi := (List.getElem?_eq_some_iff.mp hq).1
  apply List.ext_getElem?
  intro j
  rw [List.getElem?_map, List.getElem?_set]
  by_cases hj : j < S.length
  · have e1 : S[j]? = some S[j] := List.getElem?_eq_getElem hj
    have e2 : st[j]? = some (st[j]'(by omega)) := List.getElem?_eq_getElem (by omega)
    rw [show (S.zip st)[j]? = some (S[j], st[j]'(by omega)) from List.getElem?_zip_eq_some.mpr ⟨e1, e2⟩]
    by_cases h : j = i
    · subst h
      have : S[j] = q := Option.some.inj (e1.symm.trans hq)
      rw [if_pos rfl, if_pos (by omega)]
      simp [this]
    · rw [if_neg (Ne.symm h), e2]
      simp only [Option.map_some]
      rw [if_neg fun e => h (one_place nd hq e1 e)]
  · rw [if_neg (by omega)]
    have h1 : (S.zip st)[j]? = none := by rw [List.getElem?_eq_none_iff, List.length_zip]; omega
    rw [h1, List.getElem?_eq_none_iff.mpr (by omega)]
    rfl
theorem can_facts {S : List Way} {st : List Str} {c : Ch} (ok : SOk S) (hst : st ∈ stds S) (h : canP S st c = true) : ∃ i q z, S[i]? = some q ∧ q.1 = c.1 ∧ c.2 ∈ q.2 ∧ st[i]? = some z ∧ c.2 ≠ z ∧ putP S st c = st.set i c.2 ∧ putP S st c ∈ stds S := by
  obtain ⟨c1, c2⟩ := c
  have hm : c1 ∈ names S := by
    refine Decidable.by_contra fun hn => ?_
    rw [canP_no (c := (c1, c2)) hn] at h
    cases h
  obtain ⟨i, hi⟩ := List.mem_iff_getElem?.mp hm
  unfold names at hi
  rw [List.getElem?_map] at hi
  obtain ⟨q, hq, rfl⟩ := Option.map_eq_some_iff.mp hi
  have hl := stds_mem hst
  have hlt : i < st.length := by rw [hl]; exact (List.getElem?_eq_some_iff.mp hq).1
  have hz : st[i]? = some st[i] := List.getElem?_eq_getElem hlt
  rw [canP_at ok.nd hq hz] at h
  obtain ⟨h1, h2⟩ := Bool.and_eq_true_iff.mp h
  have hv := of_decide_eq_true h1
  have ep := putP_at (v := c2) ok.nd hq hl
  have hne : c2 ≠ st[i] := fun z => by
    rw [decide_eq_true z] at h2
    exact absurd h2 (by decide)
  refine ⟨i, q, st[i], hq, rfl, hv, hz, hne, ep, ?_⟩
  rw [ep]
  exact stds_set hst hq hv
theorem goes_more {S : List Way} {st : List Str} {cs : List Ch} {i : Nat} {c : Ch} (h : cs[i]? = some c) : goes S st (cs.take (i + 1)) = putP S (goes S st (cs.take i)) c := by
  unfold goes
  rw [List.take_add_one, h, List.foldl_append]
  rfl
theorem goes_in {S : List Way} {st : List Str} {cs : List Ch} (ok : SOk S) (hst : st ∈ stds S) : ∀ {i : Nat}, i ≤ cs.length → (∀ j c, j < i → cs[j]? = some c → canP S (goes S st (cs.take j)) c = true) → goes S st (cs.take i) ∈ stds S
  | 0, _, _ => hst
  | i + 1, hi, h => by
    have ih := goes_in ok hst (Nat.le_of_succ_le hi) fun j c hj => h j c (Nat.lt_succ_of_lt hj)
    have hc : cs[i]? = some cs[i] := List.getElem?_eq_getElem hi
    rw [goes_more hc]
    obtain ⟨_, _, _, _, _, _, _, _, _, z⟩ := can_facts ok ih (h i _ (Nat.lt_succ_self _) hc)
    exact z
theorem stops_len (S : List Way) (st : List Str) (cs : List Ch) : (stops S st cs).length = cs.length + 1 := by
  unfold stops
  rw [List.length_map, List.length_range]
theorem stops_at {S : List Way} {st : List Str} {cs : List Ch} {i : Nat} (h : i ≤ cs.length) : (stops S st cs)[i]? = some (goes S st (cs.take i)) := by
  unfold stops
  rw [List.getElem?_map, List.getElem?_range (by omega)]
  rfl
theorem stops_take {S : List Way} {st : List Str} {cs : List Ch} {i : Nat} (h : i + 1 ≤ cs.length) : (stops S st cs).take (i + 2) = (stops S st cs).take (i + 1) ++ [goes S st (cs.take (i + 1))] := by
  rw [List.take_add_one, stops_at h]
  rfl
/-! ### rows -/
def Seq2 (H : Hp) (v : V) (xs : List V) : Prop := ∃ a, v = .ref a ∧ (H a = some (.lst xs) ∨ H a = some (.tup xs))
theorem Seq2.seq {K : PySem.W.Frag} {H : Hp} {v : V} {xs : List V} (h : Seq2 H v xs) : SeqV K H v xs := by
  obtain ⟨a, rfl, h | h⟩ := h
  · exact .lst (SqL.of h) (AnyV.lst h)
  · exact .tup (SqT.of h) (AnyV.tup h)
theorem Seq2.same {H H' : Hp} {v : V} {xs : List V} (h : Seq2 H v xs) (s : Same H H') : Seq2 H' v xs := let ⟨a, e, h⟩ := h; ⟨a, e, h.imp (s _ _) (s _ _)⟩
structure RowAt (H : Hp) (x : V) (st : List Str) (cs : List Ch) : Prop where
  ex : ∃ y z zs, Seq2 H x [y, z] ∧ Seq2 H y (st.map V.str) ∧ Seq2 H z zs ∧ Paired (fun (c : Ch) v => Seq2 H v [.str c.1, .str c.2]) cs zs
  nm : ∀ z ∈ st, isNm z = true
  n1 : 1 ≤ st.length
  n4 : st.length ≤ 4
  cn : ∀ c ∈ cs, isNm c.1 = true ∧ isNm c.2 = true
  few : cs.length ≤ 200
theorem RowAt.same {H H' : Hp} {x : V} {st : List Str} {cs : List Ch} (h : RowAt H x st cs) (s : Same H H') : RowAt H' x st cs :=
  ⟨let ⟨y, z, zs, a, b, c, d⟩ := h.ex; ⟨y, z, zs, a.same s, b.same s, c.same s, paired_imp d fun _ _ q => q.same s⟩, h.nm, h.n1, h.n4, h.cn, h.few⟩
theorem paired_map {α β γ : Type} {R : α → β → Prop} {R' : β → γ → Prop} {f : α → γ} {l : List α} {m : List β} (h : Paired R l m) (k : ∀ a ∈ l, ∀ b, R a b → R' b (f a)) : Paired R' m (l.map f) := by
  induction h with
  | nil => exact .nil
  | cons r _ ih => exact .cons (k _ List.mem_cons_self _ r) (ih fun a ha => k a (List.mem_cons_of_mem _ ha))
theorem RowAt.judged {K : PySem.W.Frag} {H : Hp} {x : V} {st : List Str} {cs : List Ch} (h : RowAt H x st cs) : JRow K H x true := by
  obtain ⟨y, z, zs, hx, hy, hz, hp⟩ := h.ex
  refine .inr (.inr ⟨y, z, hx.seq, .inr ⟨.inl ⟨_, hy.seq, fun _ _ => names_any h.nm, (namesV_yes h.nm h.n1 h.n4).symm⟩, .inr ⟨zs, hz.seq, ?_, .inr ⟨cs.map fun _ => true, ?_, ?_, ?_⟩⟩⟩⟩)
  · rw [← Paired.length hp]
    have := h.few
    omega
  · rw [← Paired.length hp]
    exact h.few
  · refine paired_map hp fun c hc v hv => .inl ⟨_, hv.seq, fun _ _ => names_any (xs := [c.1, c.2]) ?_, ?_⟩
    · intro y hy
      rcases List.mem_cons.mp hy with rfl | hy
      · exact (h.cn c hc).1
      · rw [List.mem_singleton.mp hy]
        exact (h.cn c hc).2
    · have hn : ∀ y ∈ ([c.1, c.2] : List Str), isNm y = true := fun y hy => by
        rcases List.mem_cons.mp hy with rfl | hy
        · exact (h.cn c hc).1
        · rw [List.mem_singleton.mp hy]
          exact (h.cn c hc).2
      rw [show namesV [.str c.1, .str c.2] = true from namesV_yes (xs := [c.1, c.2]) hn (by show 1 ≤ 2; decide) (by show 2 ≤ 4; decide)]
      rfl
  · rw [List.all_map]
    symm
    rw [List.all_eq_true]
    intro _ _
    rfl
inductive Out | wrong | stand (st : List Str) | step (j : Nat) | fine (st : List Str) (cs : List Ch)
def WOut (K : PySem.W.Frag) (H : Hp) (S : List Way) (x : V) : Out → Prop
  | .wrong => JRow K H x false
  | .stand st => ∃ cs, RowAt H x st cs ∧ st ∉ stds S
  | .step j => ∃ st cs c, RowAt H x st cs ∧ st ∈ stds S ∧ cs[j]? = some c ∧ canP S (goes S st (cs.take j)) c = false ∧ ∀ i c, i < j → cs[i]? = some c → canP S (goes S st (cs.take i)) c = true
  | .fine st cs => RowAt H x st cs ∧ st ∈ stds S ∧ ∀ i c, cs[i]? = some c → canP S (goes S st (cs.take i)) c = true
theorem WOut.same {K : PySem.W.Frag} {H H' : Hp} {S : List Way} {x : V} {o : Out} (h : WOut K H S x o) (s : Same H H') : WOut K H' S x o := by
  cases o with
  | wrong => exact JRow.same h s
  | stand st => exact let ⟨cs, a, b⟩ := h; ⟨cs, a.same s, b⟩
  | step j => exact let ⟨st, cs, c, a, b⟩ := h; ⟨st, cs, c, a.same s, b⟩
  | fine st cs => exact let ⟨a, b⟩ := h; ⟨a.same s, b⟩
def Err3 (CW CN CS : Addr) (E : XK) (H' : Hp) : Out → Prop
  | .wrong => ∀ d, H' d = some (.xd [("place", .int 1)]) → E (.ref CW) (some d) H'
  | .stand st => ∀ d p, H' d = some (.xd [("standing", .ref p)]) → H' p = some (.tup (st.map V.str)) → E (.ref CN) (some d) H'
  | .step j => ∀ d, H' d = some (.xd [("index", .int (j : Int))]) → E (.ref CS) (some d) H'
  | .fine _ _ => True
def spWalked (K : PySem.W.Frag) (C CW CN CS : Addr) : Sp := fun args H Q E => ∃ (g : Addr) (x : V) (N : Addr → Prop) (S : List Way) (γ : List Str → List Int) (o : Out), args = [.ref g, x] ∧ IsG K C N H g S γ ∧ SOk S ∧ WOut K H S x o ∧
  (∀ H', Same H H' → Err3 CW CN CS E H' o) ∧ ∀ st cs, o = .fine st cs → ∀ H' p vs, Same H H' → H p = none → H' p = some (.lst vs) → TupsAt H' (stops S st cs) vs → Q (.ref p) H'
end HG

namespace HG
open PySem PySem.Spec PyProof.Rows L2
open C8 (pss_cut tCut)
theorem inG_not {S : List Way} {st : List Str} (h : st ∉ stds S) : inG S (st.map V.str) = false := by
  unfold inG
  rw [decide_eq_false, Bool.and_false]
  intro hm
  obtain ⟨s', hs, e⟩ := List.mem_map.mp hm
  have : s' = st := List.map_inj_right (fun x y e => V.str.inj e) |>.mp e
  exact h (this ▸ hs)
section
variable {P : Program} {w : World} {K : PySem.W.Frag} {mg : Str → Option Value} {base : Heap}
variable {fShape fNames fName fSorted fStds fTable fInts fInt fOne fPut : Addr} {dShape dNames dName dSorted dStds dTable dInts dInt dOne dPut : FuncData}
variable {C fRow fCh : Addr} {dRow dCh : FuncData}
def spCanNo (K : PySem.W.Frag) (C : Addr) : Sp := fun args H Q _ => ∃ (g a : Addr) (x : V) (c v : Str) (N : Addr → Prop) (S : List Way) (γ : List Str → List Int), args = [.ref g, .ref a, x] ∧ IsG K C N H g S γ ∧ SeqV K H x [.str c, .str v] ∧ isNm c = true ∧ isNm v = true ∧ c ∉ names S ∧ ∀ H', Same H H' → Q (.bl false) H'
theorem ok_can_no {f fH fT : Addr} {fd fdH fdT : FuncData} (G : GD K mg fShape fNames fName fSorted fStds fTable fInts fInt fOne fPut dShape dNames dName dSorted dStds dTable dInts dInt dOne dPut) (GH : GDC K mg fCh dCh) (c : GC K C) (M : MtCan K C f fd) (MH : MtHas K C fH fdH) (MT : MtSeat K C fT fdT) :
    FnOk P w K mg base CX0 4 f fd ["self", "standing", "thing"] (spCanNo K C) := by
  have S : FnScope ["self", "standing", "thing", "chooser", "way"] ["self", "standing", "thing"] (defScope s_Game_can_do) := ⟨rfl, rfl, rfl, by decide +kernel, rfl, by decide +kernel, by decide +kernel⟩
  have nd := S.nd
  refine M.F.ok S (fun vs H Q E h => ?_) (fun cdv A outer s H vs Q E hr h => ?_)
  · obtain ⟨g, a, x, ch, v, N, S, γ, rfl, _⟩ := h
    rfl
  · obtain ⟨g, a, x, ch, v, N, S, γ, rfl, hg, hx, hc, hv, hno, qq⟩ := h
    have hu := hu_of hr
    refine ⟨_, pss_cons (ps_if (PW.pt (pw_or (pt_not (pt_val (pe_call (ok_is_change (P := P) (w := w) (base := base) GH.ch G.names G.bNames G.name G.bName G.T) hr (by rfl) GH.ch.g GH.ch.F.kp GH.b .nil pass0 (pa_cons (pv 2) pa_nil))))
        (pw_or1 (pt_not (pt_val (pe_meth (pv 0) c.cl MH.me (ok_has_chooser (P := P) (w := w) (base := base) G c MH) (hr.mono (by decide)) MH.b .nil pass0 (pa_cons (pe_ix ix_seq (pv 2) pe_int (fun _ _ => rfl)) pa_nil))))))) (pss_one (ps_ret pe_bl)) pss_nil)
      (pss_cons (t := fun _ _ _ => False) ps_never pss_never), ?_⟩
    have hn : ∀ y ∈ ([ch, v] : List Str), isNm y = true := fun y hy => by
      rcases List.mem_cons.mp hy with rfl | hy
      · exact hc
      · rw [List.mem_singleton.mp hy]
        exact hv
    refine ⟨_, rfl, x, rfl, .inl ⟨[.str ch, .str v], hx, fun _ _ => names_any (xs := [ch, v]) hn, fun H1 s1 => ?_⟩⟩
    rw [show (namesV [.str ch, .str v] && decide (([V.str ch, V.str v] : List V).length = 2)) = true by
      rw [show namesV [.str ch, .str v] = true from namesV_yes (xs := [ch, v]) hn (by show 1 ≤ 2; decide) (by show 2 ≤ 4; decide)]
      rfl]
    refine ⟨_, rfl, iteF ?_⟩
    have hg1 := hg.same s1
    obtain ⟨dx, wa, l, ta, vs, kvs, hG⟩ := id hg1
    obtain ⟨p, rfl, hp⟩ := seq2 (hx.same s1)
    have hin : hasCh S (.str ch) = false := by
      show (isNm ch && decide (ch ∈ names S)) = false
      rw [decide_eq_false hno, Bool.and_false]
    refine ⟨_, rfl, g, dx, _, rfl, hG.hg, rfl, _, rfl, rIx_of (j := 0) (v := .str ch) hp rfl ⟨g, .str ch, .str, N, S, γ, rfl, hg1, nm_any hc, ?_⟩⟩
    rw [hin]
    exact ⟨_, rfl, iteT (qq H1 s1)⟩
def spCan2 (K : PySem.W.Frag) (C : Addr) : Sp := fun args H Q _ => ∃ (g a : Addr) (x : V) (c : Ch) (st : List Str) (N : Addr → Prop) (S : List Way) (γ : List Str → List Int), args = [.ref g, .ref a, x] ∧ IsG K C N H g S γ ∧ SOk S ∧ SeqV K H x [.str c.1, .str c.2] ∧ isNm c.1 = true ∧ isNm c.2 = true ∧ H a = some (.tup (st.map V.str)) ∧ st.length = S.length ∧
  ∀ H', Same H H' → Q (.bl (canP S st c)) H'
theorem ok_can2 {f fH fT : Addr} {fd fdH fdT : FuncData} (G : GD K mg fShape fNames fName fSorted fStds fTable fInts fInt fOne fPut dShape dNames dName dSorted dStds dTable dInts dInt dOne dPut) (GH : GDC K mg fCh dCh) (c : GC K C) (M : MtCan K C f fd) (MH : MtHas K C fH fdH) (MT : MtSeat K C fT fdT) :
    FnOk P w K mg base CX0 4 f fd ["self", "standing", "thing"] (spCan2 K C) := by
  refine (fn_or (ok_can_do G GH c M MH MT) (ok_can_no G GH c M MH MT)).imp fun vs H Q E h => ?_
  obtain ⟨g, a, x, ⟨c1, c2⟩, st, N, S, γ, rfl, hg, ok, hx, h1, h2, ha, hl, q⟩ := h
  by_cases hm : c1 ∈ names S
  · obtain ⟨i, hi⟩ := List.mem_iff_getElem?.mp hm
    unfold names at hi
    rw [List.getElem?_map] at hi
    obtain ⟨qw, hq, rfl⟩ := Option.map_eq_some_iff.mp hi
    have hz : st[i]? = some (st[i]'(by rw [hl]; exact (List.getElem?_eq_some_iff.mp hq).1)) := List.getElem?_eq_getElem _
    refine .inl ⟨g, a, x, qw.1, c2, i, qw, _, st, N, S, γ, rfl, hg, ok, hx, h2, hq, rfl, ha, hz, fun H' s' => ?_⟩
    have := q H' s'
    rwa [canP_at ok.nd hq hz] at this
  · refine .inr ⟨g, a, x, c1, c2, N, S, γ, rfl, hg, hx, h1, h2, hm, fun H' s' => ?_⟩
    have := q H' s'
    rwa [canP_no (c := (c1, c2)) hm] at this
theorem tup_of2 {K : PySem.W.Frag} {H : Hp} {y : V} {xs : List V} {Q : VK} (h : Seq2 H y xs) (k : ∀ H' p, Same H H' → H' p = some (.tup xs) → Q (.ref p) H') : rTupOf K [y] H Q := by
  obtain ⟨a, rfl, h | h⟩ := h
  · exact ⟨a, xs, rfl, .inl ⟨SqL.of h, fun l nl => k _ l (same_upd nl) upd_same⟩⟩
  · exact ⟨a, xs, rfl, .inr ⟨SqT.of h, k H a (Same.refl _) h⟩⟩
theorem ix2 {K : PySem.W.Frag} {H : Hp} {v : V} {xs : List V} {j : Nat} {y : V} {Q : VK} (h : Seq2 H v xs) (e : xs[j]? = some y) (q : Q y H) : rIx K v (.int (j : Int)) H Q := by
  obtain ⟨a, rfl, h | h⟩ := h
  · exact rIx_of (.inl (SqL.of h)) e q
  · exact rIx_of (.inr (SqT.of h)) e q
theorem atI_fin {α : Type} {xs : List α} {v : α} {n : Nat} (h : xs.length = n + 1) (e : xs[n]? = some v) : atI xs (-1) = some v := by
  have z : xs = xs.take n ++ [v] := by
    have := List.take_add_one (l := xs) (i := n)
    rw [e, ← h, List.take_length] at this
    exact this
  rw [z]
  exact atI_last _ _
theorem sq_off {K : PySem.W.Frag} {H : Hp} {a b : Addr} {o : HO} {xs : List V} (ne : a ≠ b) : (SqL K (upd H b o) a xs → SqL K H a xs) ∧ (SqT K (upd H b o) a xs → SqT K H a xs) := by
  refine ⟨fun h => ?_, fun h => ?_⟩
  · rcases h with (h | ⟨u, h⟩) | h
    · rw [upd_ne ne] at h
      exact .inl (.inl h)
    · rw [upd_ne ne] at h
      exact .inl (.inr ⟨u, h⟩)
    · exact .inr h
  · rcases h with (h | ⟨u, h⟩) | h
    · rw [upd_ne ne] at h
      exact .inl (.inl h)
    · rw [upd_ne ne] at h
      exact .inl (.inr ⟨u, h⟩)
    · exact .inr h
/-- what a row that is well formed leads to: an error of its standing; or j changes that can be done, all or up to one that can't -/
def Led (C1 C2 : Addr) (S : List Way) (H : Hp) (st : List Str) (cs : List Ch) (Q : VK) (E : XK) : Prop :=
  (st ∉ stds S ∧ ∀ H', Same H H' → ∀ d p, H' d = some (.xd [("standing", .ref p)]) → H' p = some (.tup (st.map V.str)) → E (.ref C1) (some d) H') ∨
  (st ∈ stds S ∧ ∃ j, j ≤ cs.length ∧ (∀ i c, i < j → cs[i]? = some c → canP S (goes S st (cs.take i)) c = true) ∧
    ((j = cs.length ∧ ∀ H' p vs, Same H H' → H p = none → H' p = some (.lst vs) → TupsAt H' (stops S st cs) vs → Q (.ref p) H') ∨
     (∃ c, cs[j]? = some c ∧ canP S (goes S st (cs.take j)) c = false ∧ ∀ H', Same H H' → ∀ d, H' d = some (.xd [("index", .int (j : Int))]) → E (.ref C2) (some d) H')))
abbrev NsW : List Str := ["game", "row", "standing", "places", "at", "change", "chooser", "way"]
theorem ok_walked {f fI fC fH fT CW CN CS iW iN iS : Addr} {fd dI dC dH dT eW eN eS : FuncData} (G : GD K mg fShape fNames fName fSorted fStds fTable fInts fInt fOne fPut dShape dNames dName dSorted dStds dTable dInts dInt dOne dPut) (R : RT K mg fRow fCh dRow dCh) (c : GC K C)
    (MI : MtIn K C fI dI) (MC : MtCan K C fC dC) (MH : MtHas K C fH dH) (MT : MtSeat K C fT dT) (me : mg "enumerate" = none) (EW : EK K mg "Wrong" "place" CW iW eW) (EN : EK K mg "NoStanding" "standing" CN iN eN) (ES : EK K mg "NoStep" "index" CS iS eS)
    (D : Df K mg "walked" s_walked f fd) : FnOk P w K mg base (L2.CX P w) 6 f fd ["game", "row"] (spWalked K C CW CN CS) := by
  have S : FnScope NsW ["game", "row"] (defScope s_walked) := ⟨rfl, rfl, rfl, by decide +kernel, rfl, by decide +kernel, by decide +kernel⟩
  have nd := S.nd
  have T := G.T
  refine D.F.okX S (fun vs H Q E h => ?_) (fun cdv A outer s H vs Q E hr h => ?_)
  · obtain ⟨g, x, N, S, γ, o, rfl, _⟩ := h
    rfl
  · obtain ⟨g, x, N, S, γ, o, rfl, hg, ok, ho, hE, hQ⟩ := h
    have oRow := ok_is_row (P := P) (w := w) (base := base) G R
    have oIn := ok_in (P := P) (w := w) (base := base) G c MI
    have oCan := ok_can2 (P := P) (w := w) (base := base) G ⟨R.ch, R.bCh⟩ c MC MH MT
    refine ⟨_, pss_cons (ps_if (pt_not (pt_val (pe_call oRow (hr.mono (by decide)) (by rfl) R.row.g R.row.F.kp R.bRow .nil pass0 (pa_cons (pv 1) pa_nil)))) (pss_one (ps_raise rfl (takes_of rfl rfl rfl rfl) (pmk_err EW (hr.mono (by decide)) (by rfl) (pa_cons pe_int pa_nil)))) pss_nil)
      (pss_cons (ps_set (i := 2) nd rfl (Or.inl rfl) (pe_callTy (T := "tuple") (r := rTupOf K) call_tup (by rfl) T.m_tuple (by decide +kernel) (pa_cons (pe_ix ix_seq (pv 1) pe_int (fun _ _ => rfl)) pa_nil)))
      (pss_cons (ps_if (pt_cmpR (op_notInOwn (E := E0) MI.me.at_ MI.me.fn oIn (hr.mono (by decide)) MI.b pass0) (pv 2) (pv 0) (by rfl)) (pss_one (ps_raise rfl (takes_of rfl rfl rfl rfl) (pmk_err EN (hr.mono (by decide)) (by rfl) (pa_cons (pv 2) pa_nil)))) pss_nil)
      (pss_cons (ps_set (i := 3) nd rfl (Or.inl rfl) (pe_lst (pa_cons (pv 2) pa_nil)))
      (pss_cons (ps_for (passes_of rfl) rfl (pi_enumA (by rfl) me (pa_cons (pe_ix ix_seq (pv 1) pe_int (fun _ _ => rfl)) pa_nil)) (pg_tup rfl (pgs_cons (pg_name (i := 4) nd rfl (Or.inl rfl)) (pgs_cons (pg_name (i := 5) nd rfl (Or.inl rfl)) pgs_nil)))
        (pss_cons (ps_if (pt_not (pt_val (pe_meth (pv 0) c.cl MC.me oCan (hr.mono (by decide)) MC.b .nil pass0 (pa_cons (pe_ix ix_list (pv 3) (pe_un un_neg pe_int) (fun _ _ => rfl)) (pa_cons (pv 5) pa_nil))))) (pss_one (ps_raise rfl (takes_of rfl rfl rfl rfl) (pmk_err ES (hr.mono (by decide)) (by rfl) (pa_cons (pv 4) pa_nil)))) pss_nil)
        (pss_cons (ps_asg (pv 5) (pg_seq rfl (pgs_cons (pg_name (i := 6) nd rfl (Or.inl rfl)) (pgs_cons (pg_name (i := 7) nd rfl (Or.inl rfl)) pgs_nil))))
        (pss_one (ps_expr (pe_bm PySem.F.plainAttrs_list PySem.F.slot_list_append PySem.F.type_list_append mt_append (pv 3) (pa_cons (pe_call (ok_put (P := P) (w := w) (base := base) G.put) (hr.mono (by decide)) (by rfl) G.put.g G.put.F.kp G.bPut .nil pass0 (pa_cons (pe_ix ix_list (pv 3) (pe_un un_neg pe_int) (fun _ _ => rfl)) (pa_cons (pe_meth (pv 0) c.cl MT.me (ok_seat (P := P) (w := w) (base := base) G.T c MT) (hr.mono (by decide)) MT.b .nil pass0 (pa_cons (pv 6) pa_nil)) (pa_cons (pv 7) pa_nil)))) pa_nil)))))))
      (pss_one (ps_ret (pv 3))))))), ?_⟩
    have info : (JRow K H x false ∧ ∀ H', Same H H' → ∀ d, H' d = some (.xd [("place", .int 1)]) → E (.ref CW) (some d) H') ∨ ∃ st cs, RowAt H x st cs ∧ Led CN CS S H st cs Q E := by
      cases o with
      | wrong => exact .inl ⟨ho, hE⟩
      | stand st =>
        obtain ⟨cs, hra, hno⟩ := ho
        exact .inr ⟨st, cs, hra, .inl ⟨hno, hE⟩⟩
      | step j =>
        obtain ⟨st, cs, c', hra, hin, hc', hf, hcan⟩ := ho
        exact .inr ⟨st, cs, hra, .inr ⟨hin, j, Nat.le_of_lt (List.getElem?_eq_some_iff.mp hc').1, hcan, .inr ⟨c', hc', hf, hE⟩⟩⟩
      | fine st cs =>
        obtain ⟨hra, hin, hcan⟩ := ho
        exact .inr ⟨st, cs, hra, .inr ⟨hin, cs.length, Nat.le_refl _, fun i c' _ => hcan i c', .inl ⟨rfl, hQ st cs rfl⟩⟩⟩
    rcases info with ⟨hJ, kE⟩ | ⟨st, cs, hra, hled⟩
    · exact ⟨_, rfl, x, false, rfl, hJ, fun H1 s1 => ⟨_, rfl, iteT ⟨_, rfl, fun d nd => kE _ (s1.trans (same_upd nd)) d upd_same⟩⟩⟩
    · obtain ⟨y, z, zs, hx, hy, hz, hp⟩ := hra.ex
      refine ⟨_, rfl, x, true, rfl, hra.judged, fun H1 s1 => ⟨_, rfl, iteF ?_⟩⟩
      refine ⟨_, rfl, ix2 (j := 0) (y := y) (hx.same s1) rfl ?_⟩
      first | (unfold tNil; dsimp only) | dsimp only
      refine tup_of2 (hy.same s1) fun H2 p2 s2 h2 => ?_
      have s02 := s1.trans s2
      obtain ⟨dx, wa, l, ta, vs0, kvs, hG⟩ := id (hg.same s02)
      refine ⟨_, rfl, _, rfl, g, dx, _, rfl, hG.hg, g, .ref p2, N, S, γ, rfl, hg.same s02, .inl ⟨p2, _, rfl, h2, ?_, names_any hra.nm, fun H3 s3 => ?_⟩⟩
      · rw [List.length_map]
        have := hra.n4
        omega
      · have s03 := s02.trans s3
        rcases hled with ⟨hno, kE⟩ | ⟨hin, j, hj, hcan, hend⟩
        · rw [inG_not hno]
          refine ⟨false, rfl, _, rfl, iteT ⟨_, rfl, _, rfl, fun d nd => ?_⟩⟩
          exact kE _ (s03.trans (same_upd nd)) d p2 upd_same (same_upd nd _ _ (s3 _ _ h2))
        · rw [inG_yes ok hin]
          refine ⟨true, rfl, _, rfl, iteF ⟨_, rfl, (by show 1 ≤ sizeLine; decide), fun pl npl => ?_⟩⟩
          have s4 := same_upd (o := .lst [V.ref p2]) npl
          obtain ⟨az, rfl, haz⟩ := id (hz.same s03)
          have hne : az ≠ pl := fun z => by
            rw [z, npl] at haz
            rcases haz with h | h <;> cases h
          have hsz : SqL K (upd H3 pl (.lst [V.ref p2])) az zs ∨ SqT K (upd H3 pl (.lst [V.ref p2])) az zs := haz.imp (fun h => SqL.of (s4 _ _ h)) (fun h => SqT.of (s4 _ _ h))
          refine ⟨_, rfl, ix2 (j := 1) (y := .ref az) (hx.same (s03.trans s4)) rfl ⟨az, rfl, for_enumA (K := K) (a := az) (xs := zs) hsz (fun i σ H' => i ≤ j ∧ ∃ vs v4 v5 v6 v7, σ = [some (.ref g), some x, some (.ref p2), some (.ref pl), v4, v5, v6, v7] ∧ H' pl = some (.lst vs) ∧ TupsAt H' ((stops S st cs).take (i + 1)) vs ∧ Same H3 H')
            ⟨Nat.zero_le _, [.ref p2], none, none, none, none, rfl, upd_same, ?_, s4⟩ (fun i σ H' ⟨_, _, _, _, _, _, _, _, _, sm⟩ => ⟨fun h => sm.seq ((sq_off hne).1 h), fun h => same_sqt sm ((sq_off hne).2 h)⟩) ?_ ?_⟩⟩
          · have e0 : (stops S st cs).take (0 + 1) = [st] := by
              rw [List.take_add_one, stops_at (Nat.zero_le _)]
              rfl
            rw [e0]
            exact .cons ⟨p2, rfl, s4 _ _ (s3 _ _ h2)⟩ .nil
          · rintro i v t σ H5 hi ⟨hij, vs, v4, v5, v6, v7, rfl, hpl, hts, sm⟩ nt
            obtain ⟨c1, hc1, hsv⟩ := paired_get hp hi
            have hil : i < cs.length := (List.getElem?_eq_some_iff.mp hc1).1
            have sT := same_upd (o := .tup [.int (i : Nat), v]) nt
            have s05 := s03.trans (sm.trans sT)
            have gin := goes_in ok hin (Nat.le_trans hij hj) fun k c hk => hcan k c (Nat.lt_of_lt_of_le hk hij)
            have gl := stds_mem gin
            have vl : vs.length = i + 1 := by
              rw [← Paired.length hts, List.length_take, stops_len]
              omega
            obtain ⟨cc, hcc, hct⟩ : ∃ cc, vs[i]? = some (.ref cc) ∧ H5 cc = some (.tup ((goes S st (cs.take i)).map V.str)) := by
              have hv : vs[i]? = some vs[i] := List.getElem?_eq_getElem (by omega)
              obtain ⟨su, hsu, cc, ev, hh⟩ := paired_get hts hv
              rw [List.getElem?_take, if_pos (Nat.lt_succ_self _), stops_at (Nat.le_of_lt hil)] at hsu
              cases hsu
              exact ⟨cc, by rw [hv, ev], hh⟩
            have hlast := atI_fin vl hcc
            have hG5 := hG.same (s3.trans (sm.trans sT))
            have hsv5 := (hsv.same s05).seq (K := K)
            obtain ⟨n1, n2⟩ := hra.cn c1 (List.mem_of_getElem? hc1)
            refine ⟨t, _, rfl, SqT.of upd_same, rfl, _, _, rfl, _, _, rfl, rfl, ?_⟩
            refine ⟨_, rfl, g, dx, _, rfl, hG5.hg, rfl, _, rfl, _, rfl, pl, vs, -1, .ref cc, rfl, rfl, SqL.of (sT _ _ hpl), hlast, _, rfl, g, cc, v, c1, goes S st (cs.take i), N, S, γ, rfl, hg.same s05, ok, hsv5, n1, n2, sT _ _ hct, gl, fun H6 s6 => ⟨_, rfl, ?_⟩⟩
            have s36 := sm.trans (sT.trans s6)
            by_cases hlt : i < j
            · rw [hcan i c1 hlt hc1]
              obtain ⟨i0, q0, z0, hq0, e0, hv0, hz0, hne0, hput, hpin⟩ := can_facts ok gin (hcan i c1 hlt hc1)
              obtain ⟨pv', rfl, hpv⟩ := id (hsv.same (s03.trans s36))
              have hG6 := hG.same (s3.trans s36)
              refine iteF ⟨_, rfl, pv', _, rfl, hpv.imp SqL.of SqT.of, rfl, _, _, rfl, _, _, rfl, rfl, ?_⟩
              have hpl6 := s6 _ _ (sT _ _ hpl)
              refine ⟨_, rfl, .inl ⟨rfl, _, SqL.of hpl6⟩, _, rfl, _, rfl, pl, vs, -1, .ref cc, rfl, rfl, SqL.of hpl6, hlast, _, rfl, g, dx, _, rfl, hG6.hg, rfl, _, rfl, g, c1.1, i0, N, S, γ, rfl, hg.same (s03.trans s36), ok.nd, by rw [names_at hq0, e0], fun H7 s7 => ?_⟩
              have hct7 := s7 _ _ (s6 _ _ (sT _ _ hct))
              refine ⟨_, rfl, cc, i0, .str c1.2, _, rfl, hct7, ?_, ?_, fun H8 q8 s8 h8 => ?_⟩
              · rw [List.length_map]
                exact (List.getElem?_eq_some_iff.mp hz0).1
              · rw [List.length_map, gl]
                have := ok.n4
                omega
              · have hpl8 := s8 _ _ (s7 _ _ hpl6)
                have s58 := sT.trans (s6.trans (s7.trans s8))
                refine ⟨pl, vs, _, rfl, rfl, hpl8, small1000 (by have := hra.few; omega), hlt, vs ++ [.ref q8], _, _, _, _, rfl, upd_same, ?_, fun b o e => ?_⟩
                · rw [stops_take hil]
                  refine paired_append ((hts.same s58).upd hpl8) (.cons ⟨q8, rfl, ?_⟩ .nil)
                  rw [upd_ne (ne_of h8 hpl8 (by intro z; cases z)), h8, goes_more hc1, hput, List.map_set]
                · rw [upd_ne (ne_of_none e npl)]
                  exact s58 _ _ (sm _ _ e)
            · have : i = j := Nat.le_antisymm hij (Nat.le_of_not_lt hlt)
              subst this
              rcases hend with ⟨e, _⟩ | ⟨c', hc', hf, kE⟩
              · omega
              · rw [hc1] at hc'
                cases hc'
                rw [hf]
                exact iteT ⟨_, rfl, _, rfl, fun d nd => kE _ (s03.trans (s36.trans (same_upd nd))) d upd_same⟩
          · rintro σ H5 ⟨hij, vs, v4, v5, v6, v7, rfl, hpl, hts, sm⟩
            have el : zs.length = cs.length := (Paired.length hp).symm
            rw [el] at hij hts
            rcases hend with ⟨_, kQ⟩ | ⟨c', hc', _⟩
            · refine ⟨_, rfl, kQ H5 pl vs (s03.trans sm) (s03.free npl) hpl ?_⟩
              rw [← stops_len S st cs, List.take_length] at hts
              exact hts
            · have := (List.getElem?_eq_some_iff.mp hc').1
              omega
end
end HG

namespace HG
open PySem PySem.Spec PyProof.Rows L2
open C8 (pss_cut tCut)
/-! ### sums of rows -/
def ownP (S : List Way) (γ : List Str → List Int) (st : List Str) (c : Ch) : Int := (γ (putP S st c)).getD ((names S).idxOf c.1) 0 - (γ st).getD ((names S).idxOf c.1) 0
def owns (S : List Way) (γ : List Str → List Int) (st : List Str) (cs : List Ch) : List Int := (List.range cs.length).map fun i => ownP S γ (goes S st (cs.take i)) (cs.getD i (Str.empty, Str.empty))
theorem idx_at {S : List Way} (nd : (names S).Nodup) {i : Nat} {q : Way} (h : S[i]? = some q) : (names S).idxOf q.1 = i := by
  obtain ⟨h1, e1⟩ := List.getElem?_eq_some_iff.mp (names_at h)
  rw [← e1]
  exact List.Nodup.idxOf_getElem nd i h1
theorem owns_len (S : List Way) (γ : List Str → List Int) (st : List Str) (cs : List Ch) : (owns S γ st cs).length = cs.length := by
  unfold owns
  rw [List.length_map, List.length_range]
theorem owns_at {S : List Way} {γ : List Str → List Int} {st : List Str} {cs : List Ch} {i : Nat} {c : Ch} (h : cs[i]? = some c) : (owns S γ st cs)[i]? = some (ownP S γ (goes S st (cs.take i)) c) := by
  have hi := (List.getElem?_eq_some_iff.mp h).1
  unfold owns
  rw [List.getElem?_map, List.getElem?_range hi]
  show some (ownP S γ (goes S st (cs.take i)) (cs.getD i _)) = _
  rw [List.getD_eq_getElem?_getD, h]
  rfl
def sumP (S : List Way) (γ : List Str → List Int) (st : List Str) (cs : List Ch) : Int := (owns S γ st cs).sum
def GLen (S : List Way) (γ : List Str → List Int) : Prop := ∀ st ∈ stds S, (γ st).length = S.length
theorem own_facts {S : List Way} {γ : List Str → List Int} {st : List Str} {c : Ch} (ok : SOk S) (hγ : GLen S γ) (hst : st ∈ stds S) (h : canP S st c = true) :
    ∃ i q z m n, S[i]? = some q ∧ q.1 = c.1 ∧ c.2 ∈ q.2 ∧ st[i]? = some z ∧ c.2 ≠ z ∧ (γ (st.set i c.2))[i]? = some m ∧ (γ st)[i]? = some n ∧ ownP S γ st c = m - n := by
  obtain ⟨i, q, z, hq, e, hv, hz, hne, hput, hpin⟩ := can_facts ok hst h
  have l1 := hγ _ hst
  have l2 := hγ _ hpin
  rw [hput] at l2
  have hi := (List.getElem?_eq_some_iff.mp hq).1
  refine ⟨i, q, z, _, _, hq, e, hv, hz, hne, List.getElem?_eq_getElem (by omega), List.getElem?_eq_getElem (by omega), ?_⟩
  unfold ownP
  rw [← e, idx_at ok.nd hq, hput, List.getD_eq_getElem?_getD, List.getD_eq_getElem?_getD, List.getElem?_eq_getElem (by omega), List.getElem?_eq_getElem (by omega)]
  rfl
def spLed (K : PySem.W.Frag) (C CW CN CS : Addr) : Sp := fun args H Q E => ∃ (g : Addr) (x : V) (N : Addr → Prop) (S : List Way) (γ : List Str → List Int) (o : Out), args = [.ref g, x] ∧ IsG K C N H g S γ ∧ SOk S ∧ WOut K H S x o ∧
  (∀ H', Same H H' → Err3 CW CN CS E H' o) ∧ ∀ st cs, o = .fine st cs → ∀ H' p, Same H H' → H' p = some (.tup ((goes S st cs).map V.str)) → Q (.ref p) H'
def spSum (K : PySem.W.Frag) (C CW CN CS : Addr) : Sp := fun args H Q E => ∃ (g : Addr) (x : V) (N : Addr → Prop) (S : List Way) (γ : List Str → List Int) (o : Out), args = [.ref g, x] ∧ IsG K C N H g S γ ∧ SOk S ∧ GLen S γ ∧ WOut K H S x o ∧
  (∀ H', Same H H' → Err3 CW CN CS E H' o) ∧ ∀ st cs, o = .fine st cs → ∀ H', Same H H' → Q (.int (sumP S γ st cs)) H'
def ringB (S : List Way) : Out → Bool
  | .fine st cs => decide (cs ≠ []) && decide (st = goes S st cs)
  | _ => false
def spRing (K : PySem.W.Frag) (C : Addr) : Sp := fun args H Q _ => ∃ (g : Addr) (x : V) (N : Addr → Prop) (S : List Way) (γ : List Str → List Int) (o : Out), args = [.ref g, x] ∧ IsG K C N H g S γ ∧ SOk S ∧ WOut K H S x o ∧ ∀ H', Same H H' → Q (.bl (ringB S o)) H'
structure DfB (K : PySem.W.Frag) (mg : Str → Option Value) (x : Str) (st : Stmt) (ps : List Str) (f : Addr) (fd : FuncData) : Prop where
  d : Df K mg x st f fd
  b : Binds K fd ps []
section
variable {P : Program} {w : World} {K : PySem.W.Frag} {mg : Str → Option Value} {base : Heap}
variable {fShape fNames fName fSorted fStds fTable fInts fInt fOne fPut : Addr} {dShape dNames dName dSorted dStds dTable dInts dInt dOne dPut : FuncData}
variable {C fRow fCh : Addr} {dRow dCh : FuncData}
theorem ok_led {f fW CW CN CS : Addr} {fd dW : FuncData} (W : DfB K mg "walked" s_walked ["game", "row"] fW dW) (oW : FnOk P w K mg base (L2.CX P w) 6 fW dW ["game", "row"] (spWalked K C CW CN CS)) (D : Df K mg "led" s_led f fd) : FnOk P w K mg base (L2.CX P w) 7 f fd ["game", "row"] (spLed K C CW CN CS) := by
  have S : FnScope ["game", "row"] ["game", "row"] (defScope s_led) := ⟨rfl, rfl, rfl, by decide +kernel, rfl, by decide +kernel, by decide +kernel⟩
  refine D.F.okX S (fun vs H Q E h => ?_) (fun cdv A outer s H vs Q E hr h => ?_)
  · obtain ⟨g, x, N, S, γ, o, rfl, _⟩ := h
    rfl
  · obtain ⟨g, x, N, S, γ, o, rfl, hg, ok, ho, hE, hQ⟩ := h
    refine ⟨_, pss_one (ps_ret (pe_ix ix_list (pe_callS oW hr (by rfl) W.d.g W.d.F.kp W.b (fun σ => passAt (takes_of rfl rfl rfl rfl) σ) (pa_cons (pv 0) (pa_cons (pv 1) pa_nil))) (pe_un un_neg pe_int) (fun _ _ => rfl))), ?_⟩
    refine ⟨_, rfl, _, rfl, g, x, N, S, γ, o, rfl, hg, ok, ho, hE, fun st cs e H' p vs s' np hp hts => ?_⟩
    have vl : vs.length = cs.length + 1 := by rw [← Paired.length hts, stops_len]
    have hv : vs[cs.length]? = some (vs[cs.length]'(by omega)) := List.getElem?_eq_getElem (by omega)
    obtain ⟨su, hsu, cc, ev, hh⟩ := paired_get hts hv
    rw [stops_at (Nat.le_refl _), List.take_length] at hsu
    cases hsu
    exact ⟨_, rfl, p, vs, -1, .ref cc, rfl, rfl, SqL.of hp, by rw [← ev]; exact atI_fin vl hv, hQ st cs e H' cc s' hh⟩
theorem ok_row_sum {f fW fO fG fS fI fC fH fT CW CN CS : Addr} {fd dW dO dG dS dI dC dH dT : FuncData} (G : GD K mg fShape fNames fName fSorted fStds fTable fInts fInt fOne fPut dShape dNames dName dSorted dStds dTable dInts dInt dOne dPut) (GH : GDC K mg fCh dCh) (c : GC K C)
    (MO : Mt K C "own" "Game.own" s_Game_own ["self", "standing", "change"] fO dO) (MG : MtGoal K C fG dG) (MS : MtStand K C fS dS) (MI : MtIn K C fI dI) (MC : MtCan K C fC dC) (MH : MtHas K C fH dH) (MT : MtSeat K C fT dT) (me : mg "enumerate" = none) (ms : mg "sum" = none)
    (W : DfB K mg "walked" s_walked ["game", "row"] fW dW) (oW : FnOk P w K mg base (L2.CX P w) 6 fW dW ["game", "row"] (spWalked K C CW CN CS)) (D : Df K mg "row_sum" s_row_sum f fd) : FnOk P w K mg base (L2.CX P w) 7 f fd ["game", "row"] (spSum K C CW CN CS) := by
  have S : FnScope ["game", "row", "places", "at", "change"] ["game", "row"] (defScope s_row_sum) := ⟨rfl, rfl, rfl, by decide +kernel, rfl, by decide +kernel, by decide +kernel⟩
  have nd := S.nd
  refine D.F.okX S (fun vs H Q E h => ?_) (fun cdv A outer s H vs Q E hr h => ?_)
  · obtain ⟨g, x, N, S, γ, o, rfl, _⟩ := h
    rfl
  · obtain ⟨g, x, N, S, γ, o, rfl, hg, ok, hγ, ho, hE, hQ⟩ := h
    refine ⟨_, pss_cons (ps_set (i := 2) nd rfl (Or.inr rfl) (pe_callS oW hr (by rfl) W.d.g W.d.F.kp W.b (fun σ => passAt (takes_of rfl rfl rfl rfl) σ) (pa_cons (pv 0) (pa_cons (pv 1) pa_nil))))
      (pss_one (ps_ret (pe_callB (cr_sum rfl) (by rfl) ms (by decide +kernel) (pa_cons (pe_lc (own := [("at", 3), ("change", 4)]) (g := gTup K 2 (gCons (gName 3) (gCons (gName 4) gNil))) (tt := tYes) rfl nd (pi_enumA (by rfl) me (pa_cons (pe_ix ix_seq (pv 1) pe_int (fun _ _ => rfl)) pa_nil)) (blkOk_by (N := ["game", "row", "places", "at", "change"]) (sc := defScope s_row_sum) (by decide +kernel))
        (fun _ _ _ _ _ => pg_tup rfl (pgs_cons (pg_name (i := 3) nd rfl (Or.inl rfl)) (pgs_cons (pg_name (i := 4) nd rfl (Or.inl rfl)) pgs_nil))) (fun _ _ _ _ _ => pts_nil)
        (fun _ _ _ _ _ => pe_meth (pv 0) c.cl MO.me (ok_own (P := P) (w := w) (base := base) G GH c MO MG MS MI MC MH MT) hr MO.b .nil pass0 (pa_cons (pe_ix (r := rIxL K) ix_list (pv 2) (pv 3) (fun _ _ => rfl)) (pa_cons (pv 4) pa_nil)))) pa_nil)))), ?_⟩
    refine ⟨_, rfl, _, rfl, g, x, N, S, γ, o, rfl, hg, ok, ho, hE, fun st cs e H1 p vs s1 np hp hts => ?_⟩
    subst e
    obtain ⟨hra, hin, hcan⟩ := ho
    obtain ⟨y, z, zs, hx, hy, hz, hpz⟩ := hra.ex
    obtain ⟨az, rfl, haz⟩ := id (hz.same s1)
    replace hpz := hpz
    refine ⟨_, rfl, ix2 (j := 1) (y := .ref az) (hx.same s1) rfl ⟨az, rfl, ?_⟩⟩
    rcases haz with haz | haz
    · refine .inl ⟨zs, SqL.of haz, fun D nD => lc_it walk_enum (fun i H' => H' D = some (.lst (((owns S γ st cs).take i).map V.int)) ∧ Same H1 H') ⟨upd_same, same_upd nD⟩ (fun i H' _ ⟨_, s2⟩ => SqL.of (s2 _ _ haz)) ?_ ?_⟩
      · rintro i v G2 G3 hi ⟨hD, s2⟩ ⟨T, a1, b1, rfl, nT, rfl, e1, e2⟩
        cases e1
        obtain ⟨c1, hc1, hsv⟩ := paired_get hpz e2
        have hil : i < cs.length := (List.getElem?_eq_some_iff.mp hc1).1
        have sT := same_upd (o := .tup [.int (i : Nat), b1]) nT
        have s12 := s2.trans sT
        have gin := goes_in ok hin (Nat.le_of_lt hil) fun k c _ => hcan k c
        obtain ⟨i0, q0, z0, m, n, hq0, e0, hv0, hz0, hne0, hm, hn, hown⟩ := own_facts ok hγ gin (hcan i c1 hc1)
        have vl : vs.length = cs.length + 1 := by rw [← Paired.length hts, stops_len]
        obtain ⟨cc, hcc, hct⟩ : ∃ cc, vs[i]? = some (.ref cc) ∧ H1 cc = some (.tup ((goes S st (cs.take i)).map V.str)) := by
          have hv : vs[i]? = some vs[i] := List.getElem?_eq_getElem (by omega)
          obtain ⟨su, hsu, cc, ev, hh⟩ := paired_get hts hv
          rw [stops_at (Nat.le_of_lt hil)] at hsu
          cases hsu
          exact ⟨cc, by rw [hv, ev], hh⟩
        obtain ⟨dx, wa, l, ta, vs0, kvs, hG⟩ := id (hg.same (s1.trans s12))
        have hsv1 : SeqV K (upd G2 T (.tup [.int (i : Nat), b1])) b1 [.str q0.1, .str c1.2] := by
          rw [e0]
          exact (hsv.same (s1.trans s12)).seq
        refine ⟨T, _, rfl, SqT.of upd_same, rfl, _, _, rfl, _, _, rfl, rfl, rfl, ?_⟩
        refine ⟨_, rfl, g, dx, _, rfl, hG.hg, rfl, _, rfl, _, rfl, ⟨p, vs, _, .ref cc, rfl, rfl, SqL.of (s12 _ _ hp), atI_nat hcc, _, rfl, g, cc, b1, c1.2, i0, q0, z0, goes S st (cs.take i), N, S, γ, m, n, rfl, ⟨hg.same (s1.trans s12), ok, hsv1, hq0, hv0, s12 _ _ hct, gin, hz0, hne0⟩, hm, hn, fun H4 s4 => ?_⟩⟩
        refine ⟨_, s4 _ _ (sT _ _ hD), small1000 ?_, ?_, fun b o e => ?_⟩
        · rw [List.length_map, List.length_take, owns_len]
          have := hra.few
          omega
        · rw [upd_same, List.take_add_one, owns_at hc1, hown, List.map_append]
          rfl
        · rw [upd_ne (ne_of_none e nD)]
          exact s4 _ _ (s12 _ _ e)
      · rintro G2 ⟨hD, s2⟩
        rw [← Paired.length hpz, ← owns_len S γ st cs, List.take_length] at hD
        exact ⟨D, _, rfl, SqL.of hD, hQ st cs rfl G2 (s1.trans s2)⟩
    · refine .inr ⟨zs, SqT.of haz, fun D nD => lc_it walk_enumT (fun i H' => H' D = some (.lst (((owns S γ st cs).take i).map V.int)) ∧ Same H1 H') ⟨upd_same, same_upd nD⟩ (fun i H' _ ⟨_, s2⟩ => SqT.of (s2 _ _ haz)) ?_ ?_⟩
      · rintro i v G2 G3 hi ⟨hD, s2⟩ ⟨T, a1, b1, rfl, nT, rfl, e1, e2⟩
        cases e1
        obtain ⟨c1, hc1, hsv⟩ := paired_get hpz e2
        have hil : i < cs.length := (List.getElem?_eq_some_iff.mp hc1).1
        have sT := same_upd (o := .tup [.int (i : Nat), b1]) nT
        have s12 := s2.trans sT
        have gin := goes_in ok hin (Nat.le_of_lt hil) fun k c _ => hcan k c
        obtain ⟨i0, q0, z0, m, n, hq0, e0, hv0, hz0, hne0, hm, hn, hown⟩ := own_facts ok hγ gin (hcan i c1 hc1)
        have vl : vs.length = cs.length + 1 := by rw [← Paired.length hts, stops_len]
        obtain ⟨cc, hcc, hct⟩ : ∃ cc, vs[i]? = some (.ref cc) ∧ H1 cc = some (.tup ((goes S st (cs.take i)).map V.str)) := by
          have hv : vs[i]? = some vs[i] := List.getElem?_eq_getElem (by omega)
          obtain ⟨su, hsu, cc, ev, hh⟩ := paired_get hts hv
          rw [stops_at (Nat.le_of_lt hil)] at hsu
          cases hsu
          exact ⟨cc, by rw [hv, ev], hh⟩
        obtain ⟨dx, wa, l, ta, vs0, kvs, hG⟩ := id (hg.same (s1.trans s12))
        have hsv1 : SeqV K (upd G2 T (.tup [.int (i : Nat), b1])) b1 [.str q0.1, .str c1.2] := by
          rw [e0]
          exact (hsv.same (s1.trans s12)).seq
        refine ⟨T, _, rfl, SqT.of upd_same, rfl, _, _, rfl, _, _, rfl, rfl, rfl, ?_⟩
        refine ⟨_, rfl, g, dx, _, rfl, hG.hg, rfl, _, rfl, _, rfl, ⟨p, vs, _, .ref cc, rfl, rfl, SqL.of (s12 _ _ hp), atI_nat hcc, _, rfl, g, cc, b1, c1.2, i0, q0, z0, goes S st (cs.take i), N, S, γ, m, n, rfl, ⟨hg.same (s1.trans s12), ok, hsv1, hq0, hv0, s12 _ _ hct, gin, hz0, hne0⟩, hm, hn, fun H4 s4 => ?_⟩⟩
        refine ⟨_, s4 _ _ (sT _ _ hD), small1000 ?_, ?_, fun b o e => ?_⟩
        · rw [List.length_map, List.length_take, owns_len]
          have := hra.few
          omega
        · rw [upd_same, List.take_add_one, owns_at hc1, hown, List.map_append]
          rfl
        · rw [upd_ne (ne_of_none e nD)]
          exact s4 _ _ (s12 _ _ e)
      · rintro G2 ⟨hD, s2⟩
        rw [← Paired.length hpz, ← owns_len S γ st cs, List.take_length] at hD
        exact ⟨D, _, rfl, SqL.of hD, hQ st cs rfl G2 (s1.trans s2)⟩
end
end HG

namespace HG
open PySem PySem.Spec PyProof.Rows L2
open C8 (pss_cut tCut)
abbrev sBag : Stmt := s_law_bag
abbrev sTake : Stmt := s_law_take
abbrev sOne : Stmt := s_law_one

/-! ### the bag of the law: [0, seed, place, cells] -/
def But (b : Addr) (H H' : Hp) : Prop := ∀ q o, H q = some o → q ≠ b → H' q = some o
theorem But.of {b : Addr} {H H' : Hp} (h : Same H H') : But b H H' := fun q o e _ => h q o e
theorem But.trans {b : Addr} {H H1 H2 : Hp} (h : But b H H1) (h' : But b H1 H2) : But b H H2 := fun q o e n => h' q o (h q o e n) n
theorem But.upd {b : Addr} {H H' : Hp} {o : HO} (h : But b H H') : But b H (upd H' b o) := fun q u e n => by
  rw [upd_ne n]
  exact h q u e n
structure Bag (H : Hp) (b k : Addr) (ns : List Int) (a c n : Int) : Prop where
  at_ : H b = some (.lst [.int a, .int c, .int n, .ref k])
  cells : H k = some (.lst (ns.map V.int))
  n0 : 0 ≤ n
  c0 : 0 ≤ c
  c1 : c < 2147483647
theorem Bag.ne {H : Hp} {b k : Addr} {ns : List Int} {a c n : Int} (B : Bag H b k ns a c n) : k ≠ b := by
  refine ne_of B.cells B.at_ fun z => ?_
  have z1 : ns.map V.int = [.int a, .int c, .int n, .ref k] := by
    have := congrArg (fun o => match o with | HO.lst xs => xs | _ => []) z
    exact this
  have z2 := congrArg (fun l : List V => l[3]?) z1
  rw [List.getElem?_map] at z2
  cases e : ns[3]? with
  | none =>
    rw [e] at z2
    cases z2
  | some y =>
    rw [e] at z2
    cases z2
theorem Bag.same {H H' : Hp} {b k : Addr} {ns : List Int} {a c n : Int} (B : Bag H b k ns a c n) (s : Same H H') : Bag H' b k ns a c n := ⟨s _ _ B.at_, s _ _ B.cells, B.n0, B.c0, B.c1⟩
/-- the bag is written anew -/
theorem Bag.put {H : Hp} {b k : Addr} {ns : List Int} {a c n a' c' n' : Int} (B : Bag H b k ns a c n) (hn : 0 ≤ n') (hc : 0 ≤ c') (hc' : c' < 2147483647) : Bag (upd H b (.lst [.int a', .int c', .int n', .ref k])) b k ns a' c' n' :=
  ⟨upd_same, by rw [upd_ne B.ne]; exact B.cells, hn, hc, hc'⟩
def ABag (H : Hp) (b k : Addr) (ns : List Int) : Prop := ∃ a c n, Bag H b k ns a c n
theorem ABag.same {H H' : Hp} {b k : Addr} {ns : List Int} (B : ABag H b k ns) (s : Same H H') : ABag H' b k ns := let ⟨a, c, n, B⟩ := B; ⟨a, c, n, B.same s⟩

def spBag (K : PySem.W.Frag) : Sp := fun vs H Q _ => ∃ (a : Addr) (ns : List Int), vs = [.ref a] ∧ SqL K H a (ns.map V.int) ∧ ns.length ≤ 1000 ∧
  ∀ H' b k ns', Same H H' → ABag H' b k ns' → H b = none → H k = none → Q (.ref b) H'
def spTake : Sp := fun vs H Q _ => ∃ (b k : Addr) (ns : List Int) (m : Int), vs = [.ref b, .int m] ∧ ABag H b k ns ∧ 0 < m ∧ m < 1073741824 ∧
  ∀ H' d, But b H H' → ABag H' b k ns → 0 ≤ d → d < m → Q (.int d) H'
def spOne (K : PySem.W.Frag) : Sp := fun vs H Q _ => ∃ (b k p : Addr) (ns : List Int) (xs : List V), vs = [.ref b, .ref p] ∧ ABag H b k ns ∧ SqL K H p xs ∧ p ≠ b ∧ xs ≠ [] ∧ xs.length < 1000 ∧
  ∀ H' x, But b H H' → ABag H' b k ns → x ∈ xs → Q x H'

theorem scBag : FnScope ["_law_script", "_law_cell"] ["_law_script"] (defScope sBag) := ⟨rfl, rfl, rfl, by decide +kernel, rfl, by decide +kernel, by decide +kernel⟩
theorem scTake : FnScope ["_law_bag_here", "_law_many", "_law_cell", "_law_mixed_here", "_law_drawn", "_law_early", "_law_second"] ["_law_bag_here", "_law_many"] (defScope sTake) := ⟨rfl, rfl, rfl, by decide +kernel, rfl, by decide +kernel, by decide +kernel⟩
theorem scOne : FnScope ["_law_bag_here", "_law_some"] ["_law_bag_here", "_law_some"] (defScope sOne) := ⟨rfl, rfl, rfl, by decide +kernel, rfl, by decide +kernel, by decide +kernel⟩
section
variable {P : Program} {w : World} {K : PySem.W.Frag} {mg : Str → Option Value} {base : Heap}
theorem but_seq {K : PySem.W.Frag} {b a : Addr} {H H' : Hp} {xs : List V} (e : But b H H') (h : SqL K H a xs) (n : a ≠ b) : SqL K H' a xs := by
  rcases h with (h | ⟨o, h⟩) | h
  · exact .inl (.inl (e _ _ h n))
  · exact .inl (.inr ⟨o, e _ _ h n⟩)
  · exact .inr h
theorem ok_take {f : Addr} {fd : FuncData} (F : Fun K "_law_take" "_law_take" sTake f fd) (ml : mg "len" = none) (mi : mg "int" = none) : FnOk P w K mg base CX0 1 f fd ["_law_bag_here", "_law_many"] spTake := by
  refine F.ok scTake (fun vs H Q E h => ?_) (fun cdv A outer s H vs Q E hr h => ?_)
  · obtain ⟨b, k, ns, m, rfl, _⟩ := h
    rfl
  · obtain ⟨b, k, ns, m, rfl, B0, hm0, hm1, q⟩ := h
    obtain ⟨a, c, n, B⟩ := B0
    have nd := scTake.nd
    refine ⟨_, pss_cut (ps_if (pt_cmpR op_eq (pe_ix ix_list (pv 0) pe_int (fun _ _ => rfl)) pe_int (nomark _))
        (pss_cons (ps_set (i := 2) nd rfl (Or.inl rfl) pe_int)
        (pss_cut (ps_if (pt_cmpR op_lt (pe_ix ix_list (pv 0) pe_int (fun _ _ => rfl)) (pe_callB call_len_seq (by rfl) ml PySem.boot_len (pa_cons (pe_ix ix_list (pv 0) pe_int (fun _ _ => rfl)) pa_nil)) (nomark _))
          (pss_one (ps_set (i := 2) nd rfl (Or.inl rfl) (pe_ix ix_list (pe_ix ix_list (pv 0) pe_int (fun _ _ => rfl)) (pe_ix ix_list (pv 0) pe_int (fun _ _ => rfl)) (fun _ _ => rfl)))) pss_nil)
        (pss_cons (ps_augS (pv 0) pe_int get_list pe_int ip_add set_list)
        (pss_cut (ps_if (pt_cmpR op_ge (pv 2) pe_int (nomark _)) (pss_one (ps_asg (pv 2) (pg_sub (pv 0) pe_int set_list))) pss_nil)
        (pss_cons (ps_set (i := 3) nd rfl (Or.inl rfl) (pe_op op_add (pe_op op_add (pe_op op_mul (pe_ix ix_list (pv 0) pe_int (fun _ _ => rfl)) pe_int) (pe_op op_mod (pe_callTy call_int1 (by rfl) mi (by decide +kernel) (pa_cons (pv 2) pa_nil)) pe_int)) (pe_op op_mul pe_int (pe_ix ix_list (pv 0) pe_int (fun _ _ => rfl)))))
        (pss_one (ps_asg (pe_op op_mod (pe_callTy call_int1 (by rfl) mi (by decide +kernel) (pa_cons (pv 3) pa_nil)) pe_int) (pg_sub (pv 0) pe_int set_list))))))))
        pss_nil)
      (pss_cons (ps_if (pt_cmpR op_gt (pe_ix ix_list (pv 0) pe_int (fun _ _ => rfl)) pe_int (nomark _))
        (pss_cons (ps_set (i := 4) nd rfl (Or.inl rfl) (pe_op op_mod (pe_callTy call_int1 (by rfl) mi (by decide +kernel) (pa_cons (pe_ix ix_list (pv 0) pe_int (fun _ _ => rfl)) pa_nil)) (pv 1)))
        (pss_cons (ps_asg (pe_op op_fdiv (pe_callTy call_int1 (by rfl) mi (by decide +kernel) (pa_cons (pe_ix ix_list (pv 0) pe_int (fun _ _ => rfl)) pa_nil)) (pv 1)) (pg_sub (pv 0) pe_int set_list))
        (pss_one (ps_ret (pv 4))))) pss_nil)
      (pss_cons (ps_set (i := 5) nd rfl (Or.inl rfl) (pe_op op_mod (pe_callTy call_int1 (by rfl) mi (by decide +kernel) (pa_cons (pe_op op_mul (pe_op op_add (pe_ix ix_list (pv 0) pe_int (fun _ _ => rfl)) pe_int) pe_int) pa_nil)) pe_int))
      (pss_cons (ps_set (i := 6) nd rfl (Or.inl rfl) (pe_op op_mod (pe_callTy call_int1 (by rfl) mi (by decide +kernel) (pa_cons (pe_op op_mul (pe_op op_mod (pe_callTy call_int1 (by rfl) mi (by decide +kernel) (pa_cons (pe_op op_mul (pv 5) (pv 5)) pa_nil)) pe_int) pe_int) pa_nil)) pe_int))
      (pss_one (ps_ret (pe_op op_mod (pe_callTy call_int1 (by rfl) mi (by decide +kernel) (pa_cons (pe_op op_fdiv (pv 6) pe_int) pa_nil)) (pv 1))))))), ?_⟩
    -- behind the first if
    refine ⟨fun σ' H' => ∃ c2 mx a' c' n', σ' = [some (.ref b), some (.int m), c2, mx, none, none, none] ∧ But b H H' ∧ Bag H' b k ns a' c' n', ?_, ?_⟩
    · refine ⟨_, rfl, b, _, _, _, rfl, rfl, SqL.of B.at_, at_of (j := 0) rfl rfl, rfl, _, rfl, ite2 (fun _ => ?_) (fun _ => ?_)⟩
      · refine ⟨fun σ' H' => ∃ z : Int, σ' = [some (.ref b), some (.int m), some (.int z), none, none, none, none] ∧ H' = H, ?_, ?_⟩
        · refine ⟨_, rfl, b, _, _, _, rfl, rfl, SqL.of B.at_, at_of (j := 2) rfl rfl, _, rfl, b, _, _, _, rfl, rfl, SqL.of B.at_, at_of (j := 3) rfl rfl, k, _, rfl, .inl (SqL.of B.cells), _, _, rfl, rfl, _, rfl, ite2 (fun hlt => ?_) (fun _ => ⟨0, rfl, rfl⟩)⟩
          have hlt' := of_decide_eq_true hlt
          rw [List.length_map] at hlt'
          have n0 := B.n0
          have hj : n.toNat < ns.length := by omega
          refine ⟨_, rfl, b, _, _, _, rfl, rfl, SqL.of B.at_, at_of (j := 3) rfl rfl, _, rfl, b, _, _, _, rfl, rfl, SqL.of B.at_, at_of (j := 2) rfl rfl, k, _, _, .int ns[n.toNat], rfl, rfl, SqL.of B.cells, at_of (j := n.toNat) (by omega) (by rw [List.getElem?_map, List.getElem?_eq_getElem hj]; rfl), ns[n.toNat], rfl, rfl⟩
        · rintro σ' H' ⟨z, rfl, rfl⟩
          -- bag[2] += 1
          refine ⟨_, rfl, b, _, _, _, rfl, rfl, SqL.of B.at_, by decide, at_of (j := 2) rfl rfl, _, _, rfl, rfl, b, _, _, 2, rfl, rfl, B.at_, rfl, ?_⟩
          have n0 := B.n0
          have B2 : Bag (upd H' b (.lst [.int a, .int c, .int (n + 1), .ref k])) b k ns a c (n + 1) := B.put (by omega) B.c0 B.c1
          have k2 : But b H' (upd H' b (.lst [.int a, .int c, .int (n + 1), .ref k])) := But.upd (But.of (Same.refl _))
          -- if cell >= ..: bag[0] = cell
          refine ⟨fun σ' H2 => ∃ a2, σ' = [some (.ref b), some (.int m), some (.int z), none, none, none, none] ∧ But b H' H2 ∧ Bag H2 b k ns a2 c (n + 1), ?_, ?_⟩
          · refine ⟨_, rfl, _, _, rfl, rfl, _, rfl, ite2 (fun _ => ?_) (fun _ => ⟨a, rfl, k2, B2⟩)⟩
            refine ⟨_, rfl, _, rfl, b, _, _, 0, rfl, rfl, B2.at_, rfl, z, rfl, But.upd k2, B2.put B2.n0 B2.c0 B2.c1⟩
          · rintro σ' H2 ⟨a2, rfl, k3, B3⟩
            have c0 := B3.c0
            have c1 := B3.c1
            refine ⟨_, rfl, b, _, _, _, rfl, rfl, SqL.of B3.at_, at_of (j := 1) rfl rfl, _, _, rfl, rfl, .inr ⟨by decide, by decide⟩, _, rfl, .inl ⟨_, rfl, _, _, rfl, rfl, (by show (0 : Int) < 2147483647; decide), _, _, rfl, rfl, _, rfl, b, _, _, _, rfl, rfl, SqL.of B3.at_, at_of (j := 2) rfl rfl, _, _, rfl, rfl, .inl ⟨by decide, by decide⟩, _, _, rfl, rfl, ?_⟩⟩
            refine ⟨_, rfl, .inl ⟨_, rfl, _, _, rfl, rfl, (by show (0 : Int) < 2147483647; decide), _, rfl, b, _, _, 1, rfl, rfl, B3.at_, rfl, ?_⟩⟩
            exact ⟨_, _, a2, _, _, rfl, But.upd k3, B3.put B3.n0 (Int.emod_nonneg _ (by decide)) (Int.emod_lt_of_pos _ (by decide))⟩
      · exact ⟨none, none, a, c, n, rfl, But.of (Same.refl _), B⟩
    · rintro σ' H' ⟨c2, mx, a', c', n', rfl, kb, B'⟩
      have c0 := B'.c0
      have c1 := B'.c1
      have n0 := B'.n0
      refine ⟨_, rfl, b, _, _, _, rfl, rfl, SqL.of B'.at_, at_of (j := 0) rfl rfl, _, _, rfl, rfl, _, rfl, ite2 (fun _ => ?_) (fun _ => ?_)⟩
      · refine ⟨_, rfl, b, _, _, _, rfl, rfl, SqL.of B'.at_, at_of (j := 0) rfl rfl, .inl ⟨_, rfl, _, rfl, _, _, rfl, rfl, hm0, ?_⟩⟩
        refine ⟨_, rfl, b, _, _, _, rfl, rfl, SqL.of B'.at_, at_of (j := 0) rfl rfl, .inl ⟨_, rfl, _, rfl, _, _, rfl, rfl, ⟨hm0, hm1⟩, _, rfl, b, _, _, 0, rfl, rfl, B'.at_, rfl, ?_⟩⟩
        refine ⟨_, rfl, q _ _ (But.upd kb) ⟨_, _, _, B'.put n0 c0 c1⟩ (Int.emod_nonneg _ (by omega)) (Int.emod_lt_of_pos _ hm0)⟩
      · refine ⟨_, rfl, b, _, _, _, rfl, rfl, SqL.of B'.at_, at_of (j := 1) rfl rfl, _, _, rfl, rfl, _, _, rfl, rfl, .inr ⟨by decide, by decide⟩, .inl ⟨_, rfl, _, _, rfl, rfl, (by show (0 : Int) < 1000000007; decide), ?_⟩⟩
        have e0 : 0 ≤ ((c' + 1) * 39373) % 1000000007 := Int.emod_nonneg _ (by decide)
        have e1 : ((c' + 1) * 39373) % 1000000007 < 1000000007 := Int.emod_lt_of_pos _ (by decide)
        refine ⟨_, rfl, _, rfl, _, _, rfl, rfl, .inl ⟨by omega, by omega⟩, .inl ⟨_, rfl, _, _, rfl, rfl, (by show (0 : Int) < 998244353; decide), _, _, rfl, rfl, .inr ⟨by decide, by decide⟩, .inl ⟨_, rfl, _, _, rfl, rfl, (by show (0 : Int) < 998244353; decide), ?_⟩⟩⟩
        refine ⟨_, rfl, _, _, rfl, rfl, ⟨by decide, by decide⟩, .inl ⟨_, rfl, _, rfl, _, _, rfl, rfl, hm0, ?_⟩⟩
        exact q _ _ kb ⟨_, _, _, B'⟩ (Int.emod_nonneg _ (by omega)) (Int.emod_lt_of_pos _ hm0)
theorem ok_one {f ft : Addr} {fd fdt : FuncData} (F : Fun K "_law_one" "_law_one" sOne f fd) (FT : Fun K "_law_take" "_law_take" sTake ft fdt) (bT : Binds K fdt ["_law_bag_here", "_law_many"] []) (gT : mg "_law_take" = some (.ref ft))
    (ml : mg "len" = none) (mi : mg "int" = none) : FnOk P w K mg base CX0 2 f fd ["_law_bag_here", "_law_some"] (spOne K) := by
  refine F.ok scOne (fun vs H Q E h => ?_) (fun cdv A outer s H vs Q E hr h => ?_)
  · obtain ⟨b, k, p, ns, xs, rfl, _⟩ := h
    rfl
  · obtain ⟨b, k, p, ns, xs, rfl, B, hs, hpb, h0, hl, q⟩ := h
    refine ⟨_, pss_one (ps_ret (pe_ix ix_list (pv 1) (pe_call (ok_take FT ml mi) hr (by rfl) gT FT.kp bT .nil pass0 (pa_cons (pv 0) (pa_cons (pe_callB call_len_seq (by rfl) ml PySem.boot_len (pa_cons (pv 1) pa_nil)) pa_nil))) (fun _ _ => rfl))), ?_⟩
    have hlen : 0 < xs.length := List.length_pos_iff.mpr h0
    refine ⟨_, rfl, _, rfl, _, rfl, p, xs, rfl, .inl hs, b, k, ns, _, rfl, B, (by omega), (by omega), fun H' d kb B' d0 d1 => ?_⟩
    have hj : d.toNat < xs.length := by omega
    exact ⟨p, xs, d, xs[d.toNat], rfl, rfl, but_seq kb hs hpb, at_of (j := d.toNat) (by omega) (List.getElem?_eq_getElem hj), q _ _ kb B' (List.getElem_mem hj)⟩
theorem cut63 (xs : List V) : (cutV xs none (some 63)).length ≤ xs.length := cutV_length xs _ _
theorem cut_ints (ns : List Int) (lo hi : Option Int) : ∃ ms : List Int, cutV (ns.map V.int) lo hi = ms.map V.int ∧ ms.length ≤ ns.length := by
  unfold cutV
  refine ⟨(ns.drop _).take _, by rw [← List.map_drop, ← List.map_take], ?_⟩
  rw [List.length_take, List.length_drop]
  omega
theorem ok_bag {f : Addr} {fd : FuncData} (F : Fun K "_law_bag" "_law_bag" sBag f fd) (ma : mg "abs" = none) : FnOk P w K mg base CX0 1 f fd ["_law_script"] (spBag K) := by
  refine F.ok scBag (fun vs H Q E h => ?_) (fun cdv A outer s H vs Q E hr h => ?_)
  · obtain ⟨a, ns, rfl, _⟩ := h
    rfl
  · obtain ⟨a, ns, rfl, hS, hl, q⟩ := h
    have nd := scBag.nd
    refine ⟨_, pss_one (ps_ret (pe_lst (pa_cons pe_int (pa_cons pe_int (pa_cons pe_int (pa_cons
      (pe_lc (own := [("_law_cell", 1)]) (g := gName 1) (tt := tYes) rfl nd (pi_list (pe_slice sl_list (pv 0) po_none (po_some pe_int))) (blkOk_by (N := ["_law_script", "_law_cell"]) (sc := defScope sBag) (by decide +kernel)) (fun _ _ _ _ _ => pg_name (i := 1) nd rfl (Or.inl rfl)) (fun _ _ _ _ _ => pts_nil)
        (fun _ _ _ _ _ => pe_callB call_abs (by rfl) ma (by decide +kernel) (pa_cons (pv 1) pa_nil))) pa_nil)))))), ?_⟩
    obtain ⟨ms, em, hml⟩ := cut_ints ns none (some 63)
    refine ⟨_, rfl, 63, rfl, a, _, rfl, hS, fun p hp => ?_⟩
    rw [em]
    refine ⟨p, rfl, ⟨_, SqL.of upd_same⟩, fun D hD => ?_⟩
    refine lc_list (K := K) (a := p) (xs := ms.map V.int) (fun i H' => ∃ zs : List Int, H' D = some (.lst (zs.map V.int)) ∧ zs.length = i ∧ (∀ r o, (upd H p (.lst (ms.map V.int))) r = some o → H' r = some o)) ⟨[], upd_same, rfl, same_upd hD⟩
      (fun i H' _ ⟨zs, _, _, sm⟩ => SqL.of (sm _ _ upd_same)) ?_ ?_
    · rintro i x H' hi ⟨zs, hz, hzl, sm⟩
      obtain ⟨y, rfl⟩ : ∃ y, x = V.int y := by
        rw [List.getElem?_map] at hi
        cases e : ms[i]? with
        | none =>
          rw [e] at hi
          cases hi
        | some z =>
          rw [e] at hi
          exact ⟨z, (Option.some.inj hi).symm⟩
      have hil : i < ms.length := by
        have := (List.getElem?_eq_some_iff.mp hi).1
        rwa [List.length_map] at this
      refine ⟨rfl, _, rfl, y, rfl, _, hz, small1000 (by rw [List.length_map]; omega), zs ++ [if y < 0 then -y else y], by rw [upd_same, List.map_append]; rfl, by rw [List.length_append, hzl]; rfl, fun r o e => ?_⟩
      rw [upd_ne (ne_of_none e hD)]
      exact sm _ _ e
    · rintro H' ⟨zs, hz, hzl, sm⟩
      refine ⟨(by show 4 ≤ sizeLine; decide), fun b hb => ?_⟩
      have sH : Same H H' := fun r o e => sm r o (same_upd hp r o e)
      have nDb : D ≠ b := ne_of_none hz hb
      refine q _ b D zs (sH.trans (same_upd hb)) ⟨0, 1234567891, 0, upd_same, by rw [upd_ne nDb]; exact hz, by decide, by decide, by decide⟩ (sH.free hb) (Same.free (same_upd hp) hD)
end
end HG

namespace HG
open PySem PySem.Spec PyProof.Rows L2
open C8 (pss_cut tCut)
/-- the bag's functions, as the text has them -/
structure BT (K : PySem.W.Frag) (mg : Str → Option Value) (fT fO : Addr) (dT dO : FuncData) : Prop where
  ml : mg "len" = none
  mi : mg "int" = none
  T : Fun K "_law_take" "_law_take" sTake fT dT
  bT : Binds K dT ["_law_bag_here", "_law_many"] []
  gT : mg "_law_take" = some (.ref fT)
  O : Fun K "_law_one" "_law_one" sOne fO dO
  bO : Binds K dO ["_law_bag_here", "_law_some"] []
  gO : mg "_law_one" = some (.ref fO)
def spMixed (K : PySem.W.Frag) : Sp := fun args H Q _ => ∃ (b k p : Addr) (ns : List Int) (xs : List V), args = [.ref b, .ref p] ∧ ABag H b k ns ∧ SqL K H p xs ∧ p ≠ b ∧ xs.length ≤ 256 ∧
  ∀ H' q ys, But b H H' → ABag H' b k ns → H q = none → H' q = some (.lst ys) → ys.Perm xs → Q (.ref q) H'
theorem abag_ne {H : Hp} {b k : Addr} {ns : List Int} (B : ABag H b k ns) : ∃ xs, H b = some (.lst xs) := let ⟨_, _, _, B⟩ := B; ⟨_, B.at_⟩
theorem abag_upd {H : Hp} {b k : Addr} {ns : List Int} {q : Addr} {o : HO} (B : ABag H b k ns) (h1 : q ≠ b) (h2 : q ≠ k) : ABag (upd H q o) b k ns := by
  obtain ⟨a, c, n, B⟩ := B
  exact ⟨a, c, n, by rw [upd_ne h1.symm]; exact B.at_, by rw [upd_ne h2.symm]; exact B.cells, B.n0, B.c0, B.c1⟩
theorem abag_k {H : Hp} {b k : Addr} {ns : List Int} (B : ABag H b k ns) : H k = some (.lst (ns.map V.int)) := let ⟨_, _, _, B⟩ := B; B.cells
section
variable {P : Program} {w : World} {K : PySem.W.Frag} {mg : Str → Option Value} {base : Heap}
variable {fT fO : Addr} {dT dO : FuncData}
theorem ok_mixed {f : Addr} {fd : FuncData} (B : BT K mg fT fO dT dO) (F : Fun K "_law_mixed" "_law_mixed" s_law_mixed f fd) : FnOk P w K mg base CX0 2 f fd ["_law_bag_here", "_law_things"] (spMixed K) := by
  have S : FnScope ["_law_bag_here", "_law_things", "_law_found", "_law_thing"] ["_law_bag_here", "_law_things"] (defScope s_law_mixed) := ⟨rfl, rfl, rfl, by decide +kernel, rfl, by decide +kernel, by decide +kernel⟩
  have nd := S.nd
  refine F.ok S (fun vs H Q E h => ?_) (fun cdv A outer s H vs Q E hr h => ?_)
  · obtain ⟨b, k, p, ns, xs, rfl, _⟩ := h
    rfl
  · obtain ⟨b, k, p, ns, xs, rfl, B0, hs, hpb, hz, q⟩ := h
    refine ⟨_, pss_cons (ps_set (i := 2) nd rfl (Or.inl rfl) (pe_lst pa_nil))
      (pss_cons (ps_for PassesOwn.never rfl (pi_list (pv 1)) (pg_name (i := 3) nd rfl (Or.inl rfl))
        (pss_one (ps_expr (pe_bm PySem.F.plainAttrs_list PySem.F.slot_list_insert PySem.F.type_list_insert mt_insert (pv 2) (pa_cons (pe_call (ok_take B.T B.ml B.mi) (hr.mono (by decide)) (by rfl) B.gT B.T.kp B.bT .nil pass0 (pa_cons (pv 0) (pa_cons (pe_op op_add (pe_callB call_len_seq (by rfl) B.ml PySem.boot_len (pa_cons (pv 2) pa_nil)) pe_int) pa_nil))) (pa_cons (pv 3) pa_nil))))))
      (pss_one (ps_ret (pv 2)))), ?_⟩
    refine ⟨(by show 0 ≤ sizeLine; decide), fun q0 n0 => ?_⟩
    have s0 := same_upd (o := .lst []) n0
    have hqb : q0 ≠ b := fun z => by
      obtain ⟨xs, e⟩ := abag_ne B0
      rw [z, e] at n0
      cases n0
    have hqk : q0 ≠ k := fun z => by rw [z, abag_k B0] at n0; cases n0
    have hqp : p ≠ q0 ∨ True := .inr trivial
    refine ⟨_, rfl, p, rfl, ⟨_, s0.seq hs⟩, for_it (walk_list (K := K) (a := p) (xs := xs)) (fun i σ H' => ∃ ys v3, σ = [some (.ref b), some (.ref p), some (.ref q0), v3] ∧ But b H H' ∧ ABag H' b k ns ∧ H' q0 = some (.lst ys) ∧ ys.Perm (xs.take i)) ⟨[], none, rfl, But.of s0, B0.same s0, upd_same, by simp⟩ (fun i σ H' _ ⟨_, _, _, kb, _, _, _⟩ => but_seq kb hs hpb) ?_ ?_⟩
    · rintro i x σ H1 H2 hi ⟨ys, v3, rfl, kb, B1, hq, hp⟩ ⟨rfl, hx⟩
      have hyl : ys.length ≤ 256 := by
        rw [hp.length_eq, List.length_take]
        omega
      refine ⟨_, rfl, .inl ⟨rfl, _, SqL.of hq⟩, _, rfl, _, rfl, q0, ys, rfl, .inl (SqL.of hq), _, _, rfl, rfl, b, k, ns, _, rfl, B1, by omega, by omega, fun H3 d kb3 B3 d0 d1 => ?_⟩
      have hq3 := kb3 _ _ hq hqb
      refine ⟨_, rfl, q0, ys, d, x, rfl, rfl, hq3, Nat.lt_of_le_of_lt hyl (by rw [sizeLine_eq]; decide), d0, by omega, ?_⟩
      refine ⟨_, _, rfl, fun r o e hr => ?_, abag_upd B3 hqb hqk, upd_same, ?_⟩
      · have hrq : r ≠ q0 := ne_of_none e n0
        rw [upd_ne hrq]
        exact kb3 _ _ (kb _ _ e hr) hr
      · have e2 : xs.take (i + 1) = xs.take i ++ [x] := by
          rw [List.take_add_one, hx]
          rfl
        rw [e2]
        refine List.Perm.trans ?_ (hp.append_right [x])
        rw [List.append_assoc]
        refine List.Perm.trans List.perm_middle ?_
        show (x :: (ys.take d.toNat ++ ys.drop d.toNat)).Perm (ys ++ [x])
        rw [List.take_append_drop]
        exact (List.perm_append_singleton x ys).symm
    · rintro σ H' ⟨ys, v3, rfl, kb, B1, hq, hp⟩
      rw [List.take_length] at hp
      exact ⟨_, rfl, q _ q0 ys kb B1 n0 hq hp⟩
end
end HG

namespace HG
open PySem PySem.Spec PyProof.Rows L2
open C8 (pss_cut tCut)
/-! ### lists of lists of small numbers, written out -/
theorem pa_imp {X : Cx} {es : List Expr} {t t' : TA} (p : PA X es t) (f : ∀ σ H Q, t' σ H Q → t σ H Q) : PA X es t' := ⟨fun pos pins s σ H Q I h => p.run pos pins s σ H Q I (f _ _ _ h)⟩
def intsOf : List Expr → Option (List Int)
  | [] => some []
  | .Constant (.int i) _ _ :: r => (intsOf r).map (i :: ·)
  | _ :: _ => none
def litsOf : List Expr → Option (List (List Int))
  | [] => some []
  | .List es _ :: r => (intsOf es).bind fun is => (litsOf r).map (is :: ·)
  | _ :: _ => none
def tInts (is : List Int) : TA := fun _ H Q => Q (is.map V.int) H
def LstAt (H0 H : Hp) (is : List Int) (v : V) : Prop := ∃ a, v = .ref a ∧ H0 a = none ∧ H a = some (.lst (is.map V.int))
def tLits (iss : List (List Int)) : TA := fun _ H Q => ∀ H' vs, Same H H' → Paired (LstAt H H') iss vs → Q vs H'
theorem pa_ints {X : Cx} : ∀ {es : List Expr} {is : List Int}, intsOf es = some is → PA X es (tInts is)
  | [], is, h => by
    cases h
    exact pa_nil
  | e :: r, is, h => by
    unfold intsOf at h
    split at h
    · rename_i h0
      cases h0
    · rename_i i j p r' h0
      cases h0
      obtain ⟨is', h1, rfl⟩ := Option.map_eq_some_iff.mp h
      exact pa_imp (pa_cons pe_int (pa_ints h1)) fun σ H Q q => q
    · cases h
theorem pa_lits {X : Cx} : ∀ {es : List Expr} {iss : List (List Int)}, litsOf es = some iss → (∀ is ∈ iss, is.length ≤ sizeLine) → PA X es (tLits iss)
  | [], iss, h, _ => by
    cases h
    exact pa_imp pa_nil fun σ H Q q => q H [] (Same.refl H) .nil
  | e :: r, iss, h, hz => by
    unfold litsOf at h
    split at h
    · rename_i h0
      cases h0
    · rename_i es p r' h0
      cases h0
      obtain ⟨is, h1, h2⟩ := Option.bind_eq_some_iff.mp h
      obtain ⟨iss', h3, rfl⟩ := Option.map_eq_some_iff.mp h2
      refine pa_imp (pa_cons (pe_lst (pa_ints h1)) (pa_lits h3 fun is hi => hz is (List.mem_cons_of_mem _ hi))) fun σ H Q q => ?_
      refine ⟨by rw [List.length_map]; exact hz is List.mem_cons_self, fun p np H' vs s' hp => ?_⟩
      have sp := same_upd (o := .lst (is.map V.int)) np
      exact q H' (.ref p :: vs) (sp.trans s') (.cons ⟨p, rfl, np, s' _ _ upd_same⟩ (paired_imp hp fun _ _ ⟨a, e, n, h⟩ => ⟨a, e, sp.free n, h⟩))
    · cases h
/-! ### texts, written out -/
def strsOf : List Expr → Option (List Str)
  | [] => some []
  | .Constant (.str z) _ _ :: r => (strsOf r).map (z :: ·)
  | _ :: _ => none
def tStrs (zs : List Str) : TA := fun _ H Q => Q (zs.map V.str) H
theorem pa_strs {X : Cx} : ∀ {es : List Expr} {zs : List Str}, strsOf es = some zs → PA X es (tStrs zs)
  | [], zs, h => by
    cases h
    exact pa_nil
  | e :: r, zs, h => by
    unfold strsOf at h
    split at h
    · rename_i h0
      cases h0
    · rename_i i j p r' h0
      cases h0
      obtain ⟨is', h1, rfl⟩ := Option.map_eq_some_iff.mp h
      exact pa_imp (pa_cons pe_str (pa_strs h1)) fun σ H Q q => q
    · cases h
def menuN : List Str := ["a", "b", "ab", "ba", "m", "same", "x", "z", "zz", "zzzzzzzz"]
theorem menuN_ok : (menuN.all isNm && decide menuN.Nodup) = true := by decide +kernel
/-- names drawn -/
structure NamesOk (zs : List Str) (n : Nat) : Prop where
  len : zs.length = n
  nd : zs.Nodup
  nm : ∀ z ∈ zs, isNm z = true
  me : ∀ z ∈ zs, z ∈ menuN
def spNames : Sp := fun args H Q _ => ∃ (b k : Addr) (ns : List Int) (n : Nat), args = [.ref b, .int (n : Int)] ∧ ABag H b k ns ∧ n ≤ 10 ∧ ∀ H' q zs, But b H H' → ABag H' b k ns → H q = none → H' q = some (.lst (zs.map V.str)) → NamesOk zs n → Q (.ref q) H'
structure MxT (K : PySem.W.Frag) (mg : Str → Option Value) (fM : Addr) (dM : FuncData) : Prop where
  F : Fun K "_law_mixed" "_law_mixed" s_law_mixed fM dM
  b : Binds K dM ["_law_bag_here", "_law_things"] []
  g : mg "_law_mixed" = some (.ref fM)
theorem strs_of_perm {ys : List V} {zs : List Str} (h : ys.Perm (zs.map V.str)) : ∃ ws : List Str, ys = ws.map V.str ∧ ws.Perm zs := by
  have key : ∀ {xs ys : List V}, ys.Perm xs → ∀ zs : List Str, xs = zs.map V.str → ∃ ws : List Str, ys = ws.map V.str ∧ ws.Perm zs := by
    intro xs ys h
    induction h with
    | nil => exact fun zs e => ⟨[], rfl, by cases zs with | nil => exact .nil | cons a r => cases e⟩
    | cons x p ih =>
      intro zs e
      cases zs with
      | nil => cases e
      | cons a r =>
        rw [List.map_cons, List.cons.injEq] at e
        obtain ⟨ws, e1, p1⟩ := ih r e.2
        exact ⟨a :: ws, by rw [e1, e.1]; rfl, p1.cons a⟩
    | swap x y l =>
      intro zs e
      match zs, e with
      | a :: c :: r, e =>
        rw [List.map_cons, List.map_cons, List.cons.injEq, List.cons.injEq] at e
        exact ⟨c :: a :: r, by rw [e.1, e.2.1, e.2.2]; rfl, List.Perm.swap a c r⟩
    | trans p1 p2 ih1 ih2 =>
      intro zs e
      obtain ⟨ws, e1, q1⟩ := ih2 zs e
      obtain ⟨us, e2, q2⟩ := ih1 ws e1
      exact ⟨us, e2, q2.trans q1⟩
  exact key h zs rfl
section
variable {P : Program} {w : World} {K : PySem.W.Frag} {mg : Str → Option Value} {base : Heap}
variable {fT fO fM : Addr} {dT dO dM : FuncData}
theorem ok_names {f : Addr} {fd : FuncData} (B : BT K mg fT fO dT dO) (M : MxT K mg fM dM) (F : Fun K "_law_names" "_law_names" s_law_names f fd) : FnOk P w K mg base CX0 3 f fd ["_law_bag_here", "_law_size"] spNames := by
  have S : FnScope ["_law_bag_here", "_law_size", "_law_menu"] ["_law_bag_here", "_law_size"] (defScope s_law_names) := ⟨rfl, rfl, rfl, by decide +kernel, rfl, by decide +kernel, by decide +kernel⟩
  have nd := S.nd
  refine F.ok S (fun vs H Q E h => ?_) (fun cdv A outer s H vs Q E hr h => ?_)
  · obtain ⟨b, k, ns, n, rfl, _⟩ := h
    rfl
  · obtain ⟨b, k, ns, n, rfl, B0, hn, q⟩ := h
    refine ⟨_, pss_cons (ps_set (i := 2) nd rfl (Or.inl rfl) (pe_lst (pa_strs (zs := menuN) (by decide +kernel))))
      (pss_one (ps_ret (pe_slice sl_list (pe_call (ok_mixed B M.F) hr (by rfl) M.g M.F.kp M.b .nil pass0 (pa_cons (pv 0) (pa_cons (pv 2) pa_nil))) po_none (po_some (pv 1))))), ?_⟩
    refine ⟨(by show 10 ≤ sizeLine; decide), fun q0 n0 => ?_⟩
    have s0 := same_upd (o := .lst (menuN.map V.str)) n0
    have hqb : q0 ≠ b := fun z => by
      obtain ⟨xs, e⟩ := abag_ne B0
      rw [z, e] at n0
      cases n0
    refine ⟨_, rfl, _, rfl, b, k, q0, ns, _, rfl, B0.same s0, SqL.of upd_same, hqb, (by show 10 ≤ 256; decide), fun H1 p1 ys kb B1 np h1 hp => ?_⟩
    obtain ⟨ws, rfl, hw⟩ := strs_of_perm hp
    refine ⟨_, rfl, n, rfl, p1, _, rfl, SqL.of h1, fun p2 n2 => ?_⟩
    have s2 := same_upd (o := .lst (cutV (ws.map V.str) none (some (n : Int)))) n2
    have ok := menuN_ok
    rw [Bool.and_eq_true, List.all_eq_true, decide_eq_true_iff] at ok
    refine q _ p2 (ws.take n) ((But.of s0).trans (kb.trans (But.of s2))) (B1.same s2) ?_ (by rw [upd_same, cut_to, List.map_take]) ⟨?_, ?_, ?_, ?_⟩
    · have k1 : But b H H1 := (But.of s0).trans kb
      cases e : H p2 with
      | none => rfl
      | some o =>
        by_cases hb : p2 = b
        · subst hb
          obtain ⟨xs, e1⟩ := abag_ne B1
          rw [e1] at n2
          cases n2
        · rw [k1 _ _ e hb] at n2
          cases n2
    · rw [List.length_take, hw.length_eq]
      exact Nat.min_eq_left hn
    · exact (hw.nodup_iff.mpr ok.2).sublist (List.take_sublist _ _)
    · exact fun z hz => ok.1 z (hw.mem_iff.mp (List.mem_of_mem_take hz))
    · exact fun z hz => hw.mem_iff.mp (List.mem_of_mem_take hz)
end
end HG

namespace HG
open PySem PySem.Spec PyProof.Rows L2
open C8 (pss_cut tCut)
theorem but_free {b k : Addr} {ns : List Int} {H H' : Hp} {p : Addr} (kb : But b H H') (B : ABag H' b k ns) (n : H' p = none) : H p = none := by
  cases e : H p with
  | none => rfl
  | some o =>
    by_cases hb : p = b
    · subst hb
      obtain ⟨xs, e1⟩ := abag_ne B
      rw [e1] at n
      cases n
    · rw [kb _ _ e hb] at n
      cases n
theorem abag_not {b k : Addr} {ns : List Int} {H : Hp} {p : Addr} (B : ABag H b k ns) (n : H p = none) : p ≠ b := fun z => by
  obtain ⟨xs, e⟩ := abag_ne B
  rw [z, e] at n
  cases n
def prodI (is : List Int) : Int := is.foldl (fun m i => m * i) 1
theorem prodI_more {is : List Int} {i : Nat} {x : Int} (h : is[i]? = some x) : prodI (is.take (i + 1)) = prodI (is.take i) * x := by
  unfold prodI
  rw [List.take_add_one, h, List.foldl_append]
  rfl
def spProd (K : PySem.W.Frag) : Sp := fun args H Q _ => ∃ (p : Addr) (is : List Int), args = [.ref p] ∧ SqL K H p (is.map V.int) ∧ (∀ i ∈ is, 1 ≤ i ∧ i ≤ 4) ∧ Q (.int (prodI is)) H
def menuS1 : List (List Int) := [[2, 2], [1], [3], [2, 3], [3, 2], [2, 2, 2], [3, 3], [1, 2], [4, 4], [2, 1, 3], [2, 2, 2, 2], [4]]
def menuS2 : List (List Int) := [[3, 3, 3], [2, 3, 2, 2], [4, 4, 4], [3, 3, 3, 3], [1, 1, 1, 1], [4, 2, 3, 3]]
def menuS : List (List Int) := menuS1 ++ menuS2
structure SzOk (is : List Int) (most : Int) : Prop where
  me : is ∈ menuS
  pr : prodI is ≤ most
theorem menuS_ok : (menuS.all fun is => decide (1 ≤ is.length) && decide (is.length ≤ 4) && is.all fun i => decide (1 ≤ i) && decide (i ≤ 4)) = true := by decide +kernel
theorem menuS_at {is : List Int} (h : is ∈ menuS) : 1 ≤ is.length ∧ is.length ≤ 4 ∧ ∀ i ∈ is, 1 ≤ i ∧ i ≤ 4 := by
  have := List.all_eq_true.mp menuS_ok is h
  rw [Bool.and_eq_true, Bool.and_eq_true, decide_eq_true_iff, decide_eq_true_iff, List.all_eq_true] at this
  refine ⟨this.1.1, this.1.2, fun i hi => ?_⟩
  have := this.2 i hi
  rw [Bool.and_eq_true, decide_eq_true_iff, decide_eq_true_iff] at this
  exact this
def spSizes (K : PySem.W.Frag) : Sp := fun args H Q _ => ∃ (b k : Addr) (ns : List Int) (most : Int), args = [.ref b, .int most] ∧ ABag H b k ns ∧ 4 ≤ most ∧
  ∀ H' p is, But b H H' → ABag H' b k ns → H p = none → H' p = some (.lst (is.map V.int)) → SzOk is most → Q (.ref p) H'
section
variable {P : Program} {w : World} {K : PySem.W.Frag} {mg : Str → Option Value} {base : Heap}
variable {fT fO fM fP : Addr} {dT dO dM dP : FuncData}
theorem ok_product {f : Addr} {fd : FuncData} (F : Fun K "_law_product" "_law_product" s_law_product f fd) : FnOk P w K mg base CX0 1 f fd ["_law_numbers"] (spProd K) := by
  have S : FnScope ["_law_numbers", "_law_found", "_law_number_here"] ["_law_numbers"] (defScope s_law_product) := ⟨rfl, rfl, rfl, by decide +kernel, rfl, by decide +kernel, by decide +kernel⟩
  have nd := S.nd
  refine F.ok S (fun vs H Q E h => ?_) (fun cdv A outer s H vs Q E hr h => ?_)
  · obtain ⟨p, is, rfl, _⟩ := h
    rfl
  · obtain ⟨p, is, rfl, hs, hi4, q⟩ := h
    refine ⟨_, pss_cons (ps_set (i := 1) nd rfl (Or.inl rfl) pe_int)
      (pss_cons (ps_for PassesOwn.never rfl (pi_list (pv 0)) (pg_name (i := 2) nd rfl (Or.inl rfl))
        (pss_one (ps_set (i := 1) nd rfl (Or.inl rfl) (pe_op op_mul (pv 1) (pv 2)))))
      (pss_one (ps_ret (pv 1)))), ?_⟩
    refine ⟨_, rfl, p, rfl, ⟨_, hs⟩, for_it (walk_list (K := K) (a := p) (xs := is.map V.int)) (fun i σ H' => ∃ v2, σ = [some (.ref p), some (.int (prodI (is.take i))), v2] ∧ H' = H) ⟨none, rfl, rfl⟩ (fun i σ H' _ ⟨_, _, e⟩ => e ▸ hs) ?_ ?_⟩
    · rintro i x σ H1 H2 hi ⟨v2, rfl, rfl⟩ ⟨rfl, hx⟩
      rw [List.getElem?_map] at hx
      obtain ⟨y, hy, rfl⟩ := Option.map_eq_some_iff.mp hx
      have h4 := hi4 y (List.mem_of_getElem? hy)
      refine ⟨_, rfl, _, rfl, _, _, rfl, rfl, .inr ⟨by omega, by omega⟩, ?_⟩
      exact ⟨_, by rw [prodI_more hy]; rfl, rfl⟩
    · rintro σ H' ⟨v2, rfl, rfl⟩
      rw [List.length_map, List.take_length]
      exact ⟨_, rfl, q⟩
theorem ok_sizes {f : Addr} {fd : FuncData} (B : BT K mg fT fO dT dO) (FP : Fun K "_law_product" "_law_product" s_law_product fP dP) (bP : Binds K dP ["_law_numbers"] []) (gP : mg "_law_product" = some (.ref fP)) (F : Fun K "_law_sizes" "_law_sizes" s_law_sizes f fd) : FnOk P w K mg base CX0 3 f fd ["_law_bag_here", "_law_most"] (spSizes K) := by
  have S : FnScope ["_law_bag_here", "_law_most", "_law_menu", "_law_fine", "_law_sizes_here"] ["_law_bag_here", "_law_most"] (defScope s_law_sizes) := ⟨rfl, rfl, rfl, by decide +kernel, rfl, by decide +kernel, by decide +kernel⟩
  have nd := S.nd
  refine F.ok S (fun vs H Q E h => ?_) (fun cdv A outer s H vs Q E hr h => ?_)
  · obtain ⟨b, k, ns, most, rfl, _⟩ := h
    rfl
  · obtain ⟨b, k, ns, most, rfl, B0, hm, q⟩ := h
    refine ⟨_, pss_cons (ps_set (i := 2) nd rfl (Or.inl rfl) (pe_lst (pa_lits (iss := menuS1) (by decide +kernel) (by intro is hi; exact Nat.le_trans (menuS_at (List.mem_append_left _ hi)).2.1 (by rw [sizeLine_eq]; decide)))))
      (pss_cons (ps_set (i := 2) nd rfl (Or.inl rfl) (pe_op op_cat (pv 2) (pe_lst (pa_lits (iss := menuS2) (by decide +kernel) (by intro is hi; exact Nat.le_trans (menuS_at (List.mem_append_right _ hi)).2.1 (by rw [sizeLine_eq]; decide))))))
      (pss_cons (ps_setLc (i := 3) (own := [("_law_sizes_here", 4)]) (g := gName 4) rfl nd rfl rfl (sw_true rfl rfl rfl (by decide +kernel)) (pi_list (pv 2)) (blkOk_by (N := ["_law_bag_here", "_law_most", "_law_menu", "_law_fine", "_law_sizes_here"]) (sc := defScope s_law_sizes) (by decide +kernel)) (fun _ _ _ _ _ => pg_name (i := 4) nd rfl (Or.inl rfl))
        (fun _ _ _ _ _ => pts_one (pt_cmpR op_le (pe_call (ok_product FP) (hr.mono (by decide)) (by rfl) gP FP.kp bP .nil pass0 (pa_cons (pv 4) pa_nil)) (pv 1) (nomark _))) (fun _ _ _ _ _ => pv 4))
      (pss_one (ps_ret (pe_call (ok_one B.O B.T B.bT B.gT B.ml B.mi) (hr.mono (by decide)) (by rfl) B.gO B.O.kp B.bO .nil pass0 (pa_cons (pv 0) (pa_cons (pv 3) pa_nil))))))), ?_⟩
    refine fun H1 vs1 s1 p1 => ⟨?_, fun q1 n1 => ?_⟩
    · rw [← Paired.length p1]
      show 12 ≤ sizeLine
      decide
    have t1 := same_upd (o := .lst vs1) n1
    refine ⟨_, rfl, fun H2 vs2 s2 p2 => ⟨?_, fun q2 n2 => ?_⟩⟩
    · rw [← Paired.length p2]
      show 6 ≤ sizeLine
      decide
    have t2 := same_upd (o := .lst vs2) n2
    refine ⟨q1, q2, vs1, vs2, rfl, rfl, t2 _ _ (s2 _ _ upd_same), upd_same, ?_, fun q3 n3 => ?_⟩
    · rw [← Paired.length p1, ← Paired.length p2]
      show 18 ≤ sizeLine
      decide
    have t3 := same_upd (o := .lst (vs1 ++ vs2)) n3
    have s12 : Same H H2 := s1.trans (t1.trans s2)
    have s13 : Same H (upd (upd H2 q2 (.lst vs2)) q3 (.lst (vs1 ++ vs2))) := s12.trans (t2.trans t3)
    have p12 : Paired (LstAt H (upd (upd H2 q2 (.lst vs2)) q3 (.lst (vs1 ++ vs2)))) menuS (vs1 ++ vs2) :=
      paired_append (paired_imp p1 fun _ _ ⟨a, e, n, h⟩ => ⟨a, e, n, t3 _ _ (t2 _ _ (s2 _ _ (t1 _ _ h)))⟩) (paired_imp p2 fun _ _ ⟨a, e, n, h⟩ => ⟨a, e, (s1.trans t1).free n, t3 _ _ (t2 _ _ h)⟩)
    have h3 : (upd (upd H2 q2 (.lst vs2)) q3 (.lst (vs1 ++ vs2))) q3 = some (.lst (vs1 ++ vs2)) := upd_same
    generalize upd (upd H2 q2 (.lst vs2)) q3 (.lst (vs1 ++ vs2)) = H3 at s13 p12 h3
    have B3 := B0.same s13
    have hvl : menuS.length = (vs1 ++ vs2).length := Paired.length p12
    refine ⟨_, rfl, q3, rfl, ⟨_, SqL.of h3⟩, fun D nD => ?_⟩
    have sD := same_upd (o := .lst []) nD
    refine lc_it (walk_list (K := K) (a := q3) (xs := vs1 ++ vs2)) (fun i H' => ∃ fs, H' D = some (.lst fs) ∧ Paired (LstAt H H3) ((menuS.take i).filter fun is => decide (prodI is ≤ most)) fs ∧ Same H3 H') ⟨[], upd_same, .nil, sD⟩ (fun i H' _ ⟨_, _, _, sm⟩ => SqL.of (sm _ _ h3)) ?_ ?_
    · rintro i x H4 H5 hi ⟨fs, hD, hfs, sm⟩ ⟨rfl, hx⟩
      obtain ⟨is, his, a, rfl, na, ha⟩ := paired_get p12 hx
      have hmem := List.mem_of_getElem? his
      have ha5 := sm _ _ ha
      refine ⟨rfl, _, rfl, a, is, rfl, SqL.of ha5, (menuS_at hmem).2.2, _, rfl, _, _, rfl, rfl, _, rfl, ?_⟩
      cases e : decide (prodI is ≤ most) with
      | false =>
        refine iteF ⟨fs, hD, ?_, sm⟩
        rw [List.take_add_one, his, List.filter_append, show List.filter (fun is => decide (prodI is ≤ most)) (some is).toList = [] by show List.filter _ [is] = []; rw [List.filter_cons, e]; rfl, List.append_nil]
        exact hfs
      | true =>
        have hfl : fs.length ≤ 18 := by
          rw [← Paired.length hfs]
          exact Nat.le_trans (List.length_filter_le _ _) (by rw [List.length_take]; exact Nat.le_trans (Nat.min_le_right _ _) (by decide))
        refine iteT ⟨_, rfl, fs, hD, small1000 (by omega), _, upd_same, ?_, fun r o e => ?_⟩
        · rw [List.take_add_one, his, List.filter_append, show List.filter (fun is => decide (prodI is ≤ most)) (some is).toList = [is] by show List.filter _ [is] = [is]; rw [List.filter_cons, e]; rfl]
          exact paired_append hfs (.cons ⟨a, rfl, na, ha⟩ .nil)
        · rw [upd_ne (ne_of_none e nD)]
          exact sm _ _ e
    · rintro H' ⟨fs, hD, hfs, sm⟩
      rw [← hvl, List.take_length] at hfs
      have nDH : H D = none := s13.free nD
      refine ⟨_, rfl, _, rfl, b, k, D, ns, fs, rfl, B3.same sm, SqL.of hD, abag_not B3 nD, ?_, ?_, fun H6 x kb B6 hx => ?_⟩
      · intro z
        subst z
        have h0 := Paired.length hfs
        have hm2 : [2, 2] ∈ menuS.filter fun is => decide (prodI is ≤ most) := List.mem_filter.mpr ⟨by decide, decide_eq_true (by show (4 : Int) ≤ most; exact hm)⟩
        rw [List.length_nil] at h0
        rw [List.length_eq_zero_iff.mp h0] at hm2
        cases hm2
      · have h0 := Paired.length hfs
        have := List.length_filter_le (fun is => decide (prodI is ≤ most)) menuS
        have : menuS.length = 18 := rfl
        omega
      · obtain ⟨j, hj⟩ := List.mem_iff_getElem?.mp hx
        obtain ⟨is, his, a, rfl, na, ha⟩ := paired_get hfs hj
        have hmf := List.mem_filter.mp (List.mem_of_getElem? his)
        have hab : a ≠ b := abag_not B0 na
        refine q H6 a is ((But.of (s13.trans sm)).trans kb) B6 na (kb _ _ (sm _ _ ha) hab) ⟨hmf.1, of_decide_eq_true hmf.2⟩
end
end HG

namespace HG
open PySem PySem.Spec PyProof.Rows L2
open C8 (pss_cut tCut)
theorem for_enum {K : PySem.W.Frag} {a : Addr} {xs : List V} {g : TG} {tb : TS} {D : Ends} {σ : L2.St} {H : Hp} (Pv : Nat → L2.St → Hp → Prop) (h0 : Pv 0 σ H) (hq : ∀ i σ H, Pv i σ H → SqL K H a xs)
    (hs : ∀ (i : Nat) (x : V) (T : Addr) (σ : L2.St) (H : Hp), xs[i]? = some x → Pv i σ H → H T = none → g (.ref T) σ (upd H T (.tup [.int (i : Nat), x])) fun σ2 H2 => tb { D with nx := Pv (i + 1), ct := Pv (i + 1), bk := D.nx } σ2 H2) (hd : ∀ σ H, Pv xs.length σ H → D.nx σ H) :
    ∃ W : Nat → Nat → L2.St → Hp → Prop, (∃ m, W 0 m σ H) ∧ ∀ i m σ H, W i m σ H →
      ((Ite K a).stop i H ∧ D.nx σ H) ∨ ((Ite K a).go i H ∧ ∃ N : L2.St → Hp → Prop, (∀ σ' H', N σ' H' → ∃ m', m' < m ∧ W (i + 1) m' σ' H') ∧ ∀ v H', (Ite K a).yld i H v H' → g v σ H' fun σ2 H2 => tb { D with nx := N, ct := N, bk := D.nx } σ2 H2) := by
  refine ⟨fun i m σ H => m = xs.length - i ∧ i ≤ xs.length ∧ Pv i σ H, ⟨xs.length, rfl, Nat.zero_le _, h0⟩, ?_⟩
  rintro i m σ H ⟨rfl, hi, p⟩
  have qx := hq i σ H p
  by_cases hlt : i < xs.length
  · refine .inr ⟨⟨xs, xs[i], qx, List.getElem?_eq_getElem hlt⟩, Pv (i + 1), fun σ' H' p' => ⟨xs.length - (i + 1), by omega, rfl, hlt, p'⟩, fun v H' y => ?_⟩
    obtain ⟨T, x', rfl, hT, rfl, f1⟩ := y
    exact hs i x' T σ H (f1 xs qx) p hT
  · have e : i = xs.length := by omega
    subst e
    exact .inl ⟨⟨xs, qx, Nat.le_refl _⟩, hd σ H p⟩
/-- all names of a shape are of the menu -/
def MenuW (W : List Way) : Prop := ∀ q ∈ W, q.1 ∈ menuN ∧ ∀ z ∈ q.2, z ∈ menuN
def spLShape (K : PySem.W.Frag) : Sp := fun args H Q _ => ∃ (b k : Addr) (ns : List Int) (most : Int), args = [.ref b, .int most] ∧ ABag H b k ns ∧ 4 ≤ most ∧ most ≤ 81 ∧
  ∀ H' d W, But b H H' → ABag H' b k ns → H d = none → ShL (fun a => H a = none) H' d W → WOk W → wprod W ≤ most → MenuW W → Q (.ref d) H'
theorem wprod_prodI (W : List Way) : wprod W = prodI (W.map fun q => (q.2.length : Int)) := by
  unfold wprod prodI
  rw [List.foldl_map]
theorem not_take {α : Type} {zs : List α} (nd : zs.Nodup) {i : Nat} {z : α} (h : zs[i]? = some z) : z ∉ zs.take i := by
  intro hm
  obtain ⟨j, hj, ej⟩ := List.getElem_of_mem hm
  rw [List.length_take] at hj
  rw [List.getElem_take] at ej
  obtain ⟨hi, ei⟩ := List.getElem?_eq_some_iff.mp h
  have := (List.getElem_inj nd).mp (ej.trans ei.symm)
  omega
structure NmT (K : PySem.W.Frag) (mg : Str → Option Value) (fN fS fP : Addr) (dN dS dP : FuncData) : Prop where
  N : Fun K "_law_names" "_law_names" s_law_names fN dN
  bN : Binds K dN ["_law_bag_here", "_law_size"] []
  gN : mg "_law_names" = some (.ref fN)
  S : Fun K "_law_sizes" "_law_sizes" s_law_sizes fS dS
  bS : Binds K dS ["_law_bag_here", "_law_most"] []
  gS : mg "_law_sizes" = some (.ref fS)
  P : Fun K "_law_product" "_law_product" s_law_product fP dP
  bP : Binds K dP ["_law_numbers"] []
  gP : mg "_law_product" = some (.ref fP)
section
variable {P : Program} {w : World} {K : PySem.W.Frag} {mg : Str → Option Value} {base : Heap}
variable {fT fO fM fN fS fP : Addr} {dT dO dM dN dS dP : FuncData}
theorem ok_lshape {f : Addr} {fd : FuncData} (B : BT K mg fT fO dT dO) (M : MxT K mg fM dM) (N : NmT K mg fN fS fP dN dS dP) (me : mg "enumerate" = none) (F : Fun K "_law_shape" "_law_shape" s_law_shape f fd) : FnOk P w K mg base CX0 4 f fd ["_law_bag_here", "_law_most"] (spLShape K) := by
  have S : FnScope ["_law_bag_here", "_law_most", "_law_sizes_here", "_law_choosers", "_law_found", "_law_k", "_law_chooser"] ["_law_bag_here", "_law_most"] (defScope s_law_shape) := ⟨rfl, rfl, rfl, by decide +kernel, rfl, by decide +kernel, by decide +kernel⟩
  have nd := S.nd
  refine F.ok S (fun vs H Q E h => ?_) (fun cdv A outer s H vs Q E hr h => ?_)
  · obtain ⟨b, k, ns, most, rfl, _⟩ := h
    rfl
  · obtain ⟨b, k, ns, most, rfl, B0, hm, hm81, q⟩ := h
    have hu := hu_of hr
    refine ⟨_, pss_cons (ps_set (i := 2) nd rfl (Or.inl rfl) (pe_call (ok_sizes B N.P N.bP N.gP N.S) hr (by rfl) N.gS N.S.kp N.bS .nil pass0 (pa_cons (pv 0) (pa_cons (pv 1) pa_nil))))
      (pss_cons (ps_par (i := 3) (j := 4) (by rfl) nd rfl rfl (by decide) rfl rfl (pa_cons (pe_call (ok_names B M N.N) hr (by rfl) N.gN N.N.kp N.bN .nil pass0 (pa_cons (pv 0) (pa_cons (pe_callB call_len_seq (by rfl) B.ml PySem.boot_len (pa_cons (pv 2) pa_nil)) pa_nil))) (pa_cons pe_dnewK pa_nil)) (by rfl))
      (pss_cons (ps_for PassesOwn.never rfl (pi_enum (by rfl) me (pa_cons (pv 3) pa_nil)) (pg_tup rfl (pgs_cons (pg_name (i := 5) nd rfl (Or.inl rfl)) (pgs_cons (pg_name (i := 6) nd rfl (Or.inl rfl)) pgs_nil)))
        (pss_one (ps_dput hu (pv 4) (pv 6) (pe_call (ok_names B M N.N) hr (by rfl) N.gN N.N.kp N.bN .nil pass0 (pa_cons (pv 0) (pa_cons (pe_ix ix_list (pv 2) (pv 5) (fun _ _ => rfl)) pa_nil))) rfl)))
      (pss_one (ps_ret (pv 4))))), ?_⟩
    refine ⟨_, rfl, _, rfl, b, k, ns, most, rfl, B0, hm, fun H1 ps is kb1 B1 nps hps hsz => ?_⟩
    obtain ⟨l1, l4, hi4⟩ := menuS_at hsz.me
    refine ⟨_, rfl, _, rfl, ps, _, rfl, .inl (SqL.of hps), b, k, ns, is.length, by rw [List.length_map]; rfl, B1, by omega, fun H2 pz zs kb2 B2 npz hpz hzs => ?_⟩
    refine fun d nd2 => ⟨_, _, rfl, ?_⟩
    have s3 := same_upd (o := .dK []) nd2
    have kb02 := kb1.trans kb2
    have hpsb : ps ≠ b := abag_not B0 nps
    have hpzb : pz ≠ b := abag_not B1 npz
    have nd0 : H d = none := but_free kb02 B2 nd2
    refine ⟨_, rfl, pz, _, rfl, SqL.of (s3 _ _ hpz), for_enum (K := K) (a := pz) (xs := zs.map V.str) (fun i σ H' => ∃ W kvs v5 v6, σ = [some (.ref b), some (.int most), some (.ref ps), some (.ref pz), some (.ref d), v5, v6] ∧ But b H H' ∧ ABag H' b k ns ∧ H' d = some (.dK kvs) ∧ Paired (KvL (fun a => H a = none) H') W kvs ∧
      W.map (·.1) = zs.take i ∧ (W.map fun q => (q.2.length : Int)) = is.take i ∧ (∀ q ∈ W, (q.2.Nodup ∧ ∀ z ∈ q.2, isNm z = true) ∧ ∀ z ∈ q.2, z ∈ menuN) ∧ H' pz = some (.lst (zs.map V.str)) ∧ H' ps = some (.lst (is.map V.int)))
      ⟨[], [], none, none, rfl, kb02.trans (But.of s3), B2.same s3, upd_same, .nil, rfl, rfl, (fun _ h => nomatch h), s3 _ _ hpz, s3 _ _ (kb2 _ _ hps hpsb)⟩ (fun i σ H' ⟨_, _, _, _, _, _, _, _, _, _, _, _, hz, _⟩ => SqL.of hz) ?_ ?_⟩
    · rintro i y t σ H3 hi ⟨W, kvs, v5, v6, rfl, kb3, B3, hd, hW, e1, e2, hok, hz3, hs3⟩ nt
      rw [List.getElem?_map] at hi
      obtain ⟨z, hz, rfl⟩ := Option.map_eq_some_iff.mp hi
      have st := same_upd (o := .tup [.int (i : Nat), .str z]) nt
      have hil : i < is.length := by
        have := (List.getElem?_eq_some_iff.mp hz).1
        rw [hzs.len] at this
        exact this
      have hisi : is[i]? = some is[i] := List.getElem?_eq_getElem hil
      obtain ⟨m1, m4⟩ := hi4 is[i] (List.getElem_mem hil)
      refine ⟨t, _, rfl, SqT.of upd_same, rfl, _, _, rfl, _, _, rfl, rfl, ?_⟩
      refine ⟨_, rfl, _, rfl, _, rfl, ps, _, _, .int is[i], rfl, rfl, SqL.of (st _ _ hs3), atI_nat (by rw [List.getElem?_map, hisi]; rfl), b, k, ns, is[i].toNat, by rw [Int.toNat_of_nonneg (by omega)]; rfl, B3.same st, by omega, fun H4 pw ws kb4 B4 npw hpw hws => ?_⟩
      have kb34 : But b H3 H4 := (But.of st).trans kb4
      have hdb : d ≠ b := abag_not B0 nd0
      have hd4 := kb34 _ _ hd hdb
      have hlk : kvs.length = W.length := (Paired.length hW).symm
      have hWl : W.length ≤ 4 := by
        have := congrArg List.length e1
        rw [List.length_map, List.length_take, hzs.len] at this
        omega
      refine ⟨_, rfl, _, rfl, d, _, rfl, DPut.k (k := Sum.inr z) hd4 (small1000 (by omega)), ?_⟩
      have hnew : (Sum.inr z : Key) ∉ kvs.map (·.1) := by
        rw [keysL hW, e1]
        intro hmem
        obtain ⟨u, hu', eu⟩ := List.mem_map.mp hmem
        cases eu
        exact not_take hzs.nd hz hu'
      have npw0 : H pw = none := but_free (kb3.trans (But.of st)) (B3.same st) npw
      have up : ∀ (q : Way) (kv : Key × V), KvL (fun a => H a = none) H4 q kv → KvL (fun a => H a = none) (upd H4 d (.dK (putK kvs (Sum.inr z) (.ref pw)))) q kv := fun q kv ⟨e, c, ev, n, h⟩ => ⟨e, c, ev, n, by
        rw [upd_ne (ne_of h hd4 (by intro z; cases z))]
        exact h⟩
      refine ⟨W ++ [(z, ws)], kvs ++ [(Sum.inr z, .ref pw)], _, _, rfl, fun r o e hr => ?_, ?_, ?_, ?_, ?_, ?_, ?_, ?_, ?_⟩
      · rw [upd_ne (ne_of_none e nd0)]
        exact kb34 _ _ (kb3 _ _ e hr) hr
      · refine abag_upd B4 hdb fun z => ?_
        rw [z, abag_k B4] at hd4
        cases hd4
      · rw [upd_same, putK_new hnew]
      · rw [← putK_new hnew (v := .ref pw)]
        rw [putK_new hnew] at up ⊢
        refine paired_append (paired_imp hW fun q kv ⟨e, c, ev, n, h⟩ => up q kv ⟨e, c, ev, n, kb34 _ _ h (abag_not B0 n)⟩) (.cons (up _ _ ⟨rfl, pw, rfl, npw0, hpw⟩) .nil)
      · rw [List.map_append, e1, List.take_add_one, hz]
        rfl
      · rw [List.map_append, e2, List.take_add_one, hisi]
        show is.take i ++ [(ws.length : Int)] = _
        rw [hws.len, Int.toNat_of_nonneg (by omega)]
        rfl
      · intro q hq
        rcases List.mem_append.mp hq with hq | hq
        · exact hok q hq
        · rw [List.mem_singleton.mp hq]
          exact ⟨⟨hws.nd, hws.nm⟩, hws.me⟩
      · rw [upd_ne (ne_of hz3 hd (by intro z; cases z))]
        exact kb34 _ _ hz3 hpzb
      · rw [upd_ne (ne_of hs3 hd (by intro z; cases z))]
        exact kb34 _ _ hs3 hpsb
    · rintro σ H' ⟨W, kvs, v5, v6, rfl, kb, B', hd, hW, e1, e2, hok, hz3, hs3⟩
      rw [List.length_map, List.take_length] at e1
      rw [List.length_map, hzs.len, List.take_length] at e2
      have hWl : W.length = is.length := by
        rw [← e2, List.length_map]
      have hsz4 : ∀ q ∈ W, 1 ≤ q.2.length ∧ q.2.length ≤ 4 := fun q hq => by
        have hm : (q.2.length : Int) ∈ is := by
          rw [← e2]
          exact List.mem_map.mpr ⟨q, hq, rfl⟩
        have := hi4 _ hm
        omega
      have hpr : wprod W ≤ most := by
        rw [wprod_prodI, e2]
        exact hsz.pr
      refine ⟨_, rfl, q H' d W kb B' nd0 ⟨kvs, hd, hW⟩ ⟨by rw [e1]; exact hzs.nd, by omega, by omega, fun x hx => ?_, fun x hx => (hok x hx).1.1, fun x hx => (hsz4 x hx).1, fun x hx => (hsz4 x hx).2, fun x hx => (hok x hx).1.2, by omega⟩ hpr (fun x hx => ⟨hzs.me _ (by rw [← e1]; exact List.mem_map.mpr ⟨x, hx, rfl⟩), (hok x hx).2⟩)⟩
      refine hzs.nm _ ?_
      rw [← e1]
      exact List.mem_map.mpr ⟨x, hx, rfl⟩
end
end HG

namespace HG
open PySem PySem.Spec PyProof.Rows L2
open C8 (pss_cut tCut)
def spWider (K : PySem.W.Frag) : Sp := fun args H Q _ => ∃ (p r : Addr) (sts : List (List Str)) (vs : List V) (ws : List Str), args = [.ref p, .ref r] ∧ H p = some (.lst vs) ∧ TupsAt H sts vs ∧ H r = some (.lst (ws.map V.str)) ∧ sts.length * ws.length ≤ 256 ∧ sts.length ≤ 256 ∧ ws.length ≤ 4 ∧ (∀ st ∈ sts, st.length ≤ 4) ∧
  ∀ H' q us, Same H H' → H q = none → H' q = some (.lst us) → TupsAt H' (mul1 sts ws) us → Q (.ref q) H'
theorem mul1_take {sts : List (List Str)} {ws : List Str} {i : Nat} (hi : i ≤ sts.length) : (mul1 (sts.take i) ws).length = i * ws.length := by
  rw [mul1_len, List.length_take, Nat.min_eq_left hi]
section
variable {P : Program} {w : World} {K : PySem.W.Frag} {mg : Str → Option Value} {base : Heap}
theorem ok_wider {f : Addr} {fd : FuncData} (F : Fun K "_law_wider" "_law_wider" s_law_wider f fd) : FnOk P w K mg base CX0 1 f fd ["_law_some", "_law_ways"] (spWider K) := by
  have S : FnScope ["_law_some", "_law_ways", "_law_found", "_law_one_here", "_law_way"] ["_law_some", "_law_ways"] (defScope s_law_wider) := ⟨rfl, rfl, rfl, by decide +kernel, rfl, by decide +kernel, by decide +kernel⟩
  have nd := S.nd
  refine F.ok S (fun vs H Q E h => ?_) (fun cdv A outer s H vs Q E hr h => ?_)
  · obtain ⟨p, r, sts, vs, ws, rfl, _⟩ := h
    rfl
  · obtain ⟨p, r, sts, vs, ws, rfl, hp, ht, hr0, hsz, hs1, hw4, hst4, q⟩ := h
    refine ⟨_, pss_cons (ps_set (i := 2) nd rfl (Or.inl rfl) (pe_lst pa_nil))
      (pss_cons (ps_for PassesOwn.never rfl (pi_list (pv 0)) (pg_name (i := 3) nd rfl (Or.inr rfl))
        (pss_one (ps_expr (pe_bm PySem.F.plainAttrs_list PySem.F.slot_list_extend PySem.F.type_list_extend mt_extend (pv 2) (pa_cons
          (pe_lc (own := [("_law_way", 4)]) (g := gName 4) (tt := tYes) rfl nd (pi_list (pv 1)) (blkOk_by (N := ["_law_some", "_law_ways", "_law_found", "_law_one_here", "_law_way"]) (sc := defScope s_law_wider) (by decide +kernel)) (fun _ _ _ _ _ => pg_name (i := 4) nd rfl (Or.inl rfl)) (fun _ _ _ _ _ => pts_nil)
            (fun _ _ _ _ _ => pe_op op_catB (pv 3) (pe_tup (pa_cons (pv 4) pa_nil)))) pa_nil)))))
      (pss_one (ps_ret (pv 2)))), ?_⟩
    refine ⟨(by show 0 ≤ sizeLine; decide), fun q0 n0 => ?_⟩
    have s0 := same_upd (o := .lst []) n0
    have hl : sts.length = vs.length := Paired.length ht
    refine ⟨_, rfl, p, rfl, ⟨_, SqL.of (s0 _ _ hp)⟩, for_it (walk_list (K := K) (a := p) (xs := vs)) (fun i σ H' => ∃ us v3 v4, σ = [some (.ref p), some (.ref r), some (.ref q0), v3, v4] ∧ Same H H' ∧ H' q0 = some (.lst us) ∧ TupsAt H' (mul1 (sts.take i) ws) us) ⟨[], none, none, rfl, s0, upd_same, .nil⟩ (fun i σ H' _ ⟨_, _, _, _, sm, _⟩ => SqL.of (sm _ _ hp)) ?_ ?_⟩
    · rintro i x σ H1 H2 hi ⟨us, v3, v4, rfl, sm, hq, hus⟩ ⟨rfl, hx⟩
      obtain ⟨st, hst, c, rfl, hc⟩ := paired_get ht hx
      have hc2 := sm _ _ hc
      refine ⟨_, rfl, .inl ⟨rfl, _, SqL.of hq⟩, ?_⟩
      refine ⟨_, rfl, r, rfl, ⟨_, SqL.of (sm _ _ hr0)⟩, fun D nD => ?_⟩
      have sD := same_upd (o := .lst []) nD
      refine lc_it (walk_list (K := K) (a := r) (xs := ws.map V.str)) (fun j H' => ∃ zs, H' D = some (.lst zs) ∧ TupsAt H' ((ws.take j).map fun w => st ++ [w]) zs ∧ Same H2 H') ⟨[], upd_same, .nil, sD⟩ (fun j H' _ ⟨_, _, _, s'⟩ => SqL.of (s' _ _ (sm _ _ hr0))) ?_ ?_
      · rintro j x H3 H4 hj ⟨zs, hD, hzs, s3⟩ ⟨rfl, hx'⟩
        rw [List.length_map] at hj
        have ex : x = .str (ws[j]) := by
          rw [List.getElem?_map, List.getElem?_eq_getElem hj] at hx'
          exact (Option.some.inj hx').symm
        subst ex
        have hl4 := hst4 st (List.mem_of_getElem? hst)
        refine ⟨rfl, _, rfl, _, rfl, (by show 1 ≤ sizeLine; decide), fun p5 n5 => ?_⟩
        have s5 := same_upd (o := .tup [V.str (ws[j])]) n5
        refine ⟨c, p5, _, _, rfl, rfl, s5 _ _ (s3 _ _ hc2), upd_same, (by rw [List.length_map]; show st.length + 1 ≤ 1000; omega), fun H6 p6 s6 h6 => ?_⟩
        have hD6 := s6 _ _ (s5 _ _ hD)
        have ht6 := (hzs.same (s5.trans s6)).upd (o := .lst (zs ++ [.ref p6])) hD6
        refine ⟨zs, hD6, small1000 ?_, _, upd_same, ?_, fun b o e => ?_⟩
        · rw [← Paired.length hzs, List.length_map, List.length_take]
          omega
        · rw [List.take_add_one, List.getElem?_eq_getElem hj, List.map_append]
          refine paired_append ht6 (.cons ⟨p6, rfl, ?_⟩ .nil)
          rw [upd_ne (ne_of h6 hD6 (by intro z; cases z)), h6, List.map_append]
          rfl
        · rw [upd_ne (ne_of_none e nD)]
          exact s6 _ _ (s5 _ _ (s3 _ _ e))
      · rintro H3 ⟨zs, hD, hzs, s3⟩
        rw [List.length_map, List.take_length] at hzs
        have hq3 := s3 _ _ hq
        have e1 : us.length = i * ws.length := by rw [← Paired.length hus, mul1_take (by omega)]
        have e2 : zs.length = ws.length := by rw [← Paired.length hzs, List.length_map]
        have hb : us.length + zs.length ≤ 256 := by
          rw [e1, e2]
          calc i * ws.length + ws.length = (i + 1) * ws.length := (Nat.succ_mul _ _).symm
            _ ≤ sts.length * ws.length := Nat.mul_le_mul_right _ (by omega)
            _ ≤ 256 := hsz
        refine ⟨q0, D, us, zs, rfl, rfl, hq3, hD, Nat.le_trans hb (by rw [sizeLine_eq]; decide), ?_⟩
        refine ⟨_, _, _, rfl, fun b o e => ?_, upd_same, ?_⟩
        · rw [upd_ne (ne_of_none e n0)]
          exact s3 _ _ (sm _ _ e)
        · rw [mul1_more hst]
          exact paired_append ((hus.same s3).upd hq3) (hzs.upd hq3)
    · rintro σ H' ⟨us, v3, v4, rfl, sm, hq, hus⟩
      rw [← hl, List.take_length] at hus
      exact ⟨_, rfl, q H' q0 us sm n0 hq hus⟩
end
end HG

namespace HG
open PySem PySem.Spec PyProof.Rows L2
open C8 (pss_cut tCut)
def spLStds (K : PySem.W.Frag) : Sp := fun args H Q _ => ∃ (d : Addr) (W : List Way), args = [.ref d] ∧ ShAt H d W ∧ WOk W ∧ ∀ H' p vs, Same H H' → H p = none → H' p = some (.lst vs) → TupsAt H' (stds (sh W)) vs → Q (.ref p) H'
section
variable {P : Program} {w : World} {K : PySem.W.Frag} {mg : Str → Option Value} {base : Heap}
variable {fW : Addr} {dW : FuncData}
theorem ok_lstandings {f : Addr} {fd : FuncData} (ms : mg "sorted" = none) (FW : Fun K "_law_wider" "_law_wider" s_law_wider fW dW) (bW : Binds K dW ["_law_some", "_law_ways"] []) (gW : mg "_law_wider" = some (.ref fW)) (F : Fun K "_law_standings" "_law_standings" s_law_standings f fd) :
    FnOk P w K mg base CX0 2 f fd ["_law_ways"] (spLStds K) := by
  have S : FnScope ["_law_ways", "_law_found", "_law_chooser"] ["_law_ways"] (defScope s_law_standings) := ⟨rfl, rfl, rfl, by decide +kernel, rfl, by decide +kernel, by decide +kernel⟩
  have nd := S.nd
  refine F.ok S (fun vs H Q E h => ?_) (fun cdv A outer s H vs Q E hr h => ?_)
  · obtain ⟨d, W, rfl, _⟩ := h
    rfl
  · obtain ⟨d, W, rfl, hsh, ok, q⟩ := h
    have hu := hu_of hr
    obtain ⟨kvs, hd, hp⟩ := id hsh
    have sok := ok.sok
    refine ⟨_, pss_cons (ps_set (i := 1) nd rfl (Or.inl rfl) (pe_lst (pa_cons (pe_tup pa_nil) pa_nil)))
      (pss_cons (ps_for PassesOwn.never rfl (pi_list (pe_callB (call_srtD rfl) (by rfl) ms (by decide +kernel) (pa_cons (pv 0) pa_nil))) (pg_name (i := 2) nd rfl (Or.inl rfl))
        (pss_one (ps_set (i := 1) nd rfl (Or.inl rfl) (pe_call (ok_wider FW) hr (by rfl) gW FW.kp bW .nil pass0 (pa_cons (pv 1) (pa_cons (pe_callB (id := "sorted") (r := rSrt K) call_srt (by rfl) ms (by decide +kernel) (pa_cons (pe_dget hu (pv 0) (pv 2) (fun _ _ => rfl)) pa_nil)) pa_nil))))))
      (pss_one (ps_ret (pv 1)))), ?_⟩
    refine ⟨(by show 0 ≤ sizeLine; decide), fun p0 n0 => ?_⟩
    have s0 := same_upd (o := .tup []) n0
    refine ⟨(by show 1 ≤ sizeLine; decide), fun p1 n1 => ?_⟩
    have s1 := same_upd (o := .lst [V.ref p0]) n1
    have s01 := s0.trans s1
    refine ⟨_, rfl, d, kvs, W.map (·.1), rfl, s01 _ _ hd, keysK hp, (by rw [List.length_map]; exact Nat.lt_of_le_of_lt ok.n4 (by decide)), fun p2 n2 => ?_⟩
    have s2 := same_upd (o := .lst ((srt (W.map (·.1))).map V.str)) n2
    have s02 := s01.trans s2
    have hl2 : (upd (upd (upd H p0 (.tup [])) p1 (.lst [V.ref p0])) p2 (.lst ((srt (W.map (·.1))).map V.str))) p2 = some (.lst ((srt (W.map (·.1))).map V.str)) := upd_same
    have hl1 : (upd (upd (upd H p0 (.tup [])) p1 (.lst [V.ref p0])) p2 (.lst ((srt (W.map (·.1))).map V.str))) p1 = some (.lst [V.ref p0]) := s2 _ _ upd_same
    have hl0 : (upd (upd (upd H p0 (.tup [])) p1 (.lst [V.ref p0])) p2 (.lst ((srt (W.map (·.1))).map V.str))) p0 = some (.tup []) := s2 _ _ (s1 _ _ upd_same)
    generalize upd (upd (upd H p0 (.tup [])) p1 (.lst [V.ref p0])) p2 (.lst ((srt (W.map (·.1))).map V.str)) = H2 at s02 hl2 hl1 hl0
    refine ⟨p2, rfl, ⟨_, SqL.of hl2⟩, for_it (walk_list (K := K) (a := p2) (xs := (srt (W.map (·.1))).map V.str)) (fun i σ H' => ∃ p vs v2, σ = [some (.ref d), some (.ref p), v2] ∧ Same H2 H' ∧ H p = none ∧ H' p = some (.lst vs) ∧ TupsAt H' (stds ((sh W).take i)) vs) ⟨p1, [.ref p0], none, rfl, Same.refl _, s0.free n1, hl1, .cons ⟨p0, rfl, hl0⟩ .nil⟩ (fun i σ H' _ ⟨_, _, _, _, sm, _⟩ => SqL.of (sm _ _ hl2)) ?_ ?_⟩
    · rintro i x σ H3 H4 hi ⟨p, vs, v2, rfl, sm, np, hpv, hvs⟩ ⟨rfl, hx⟩
      rw [List.length_map] at hi
      have ex : x = .str (srt (W.map (·.1)))[i] := by
        rw [List.getElem?_map, List.getElem?_eq_getElem hi] at hx
        exact (Option.some.inj hx).symm
      subst ex
      obtain ⟨qw, hqw, ek⟩ := List.mem_map.mp (srt_mem.mp (List.getElem_mem hi))
      have e0 : (sh W)[i]? = some (qw.1, srt qw.2) := by
        unfold sh
        rw [List.getElem?_map, List.getElem?_eq_getElem hi, ← ek]
        show some (qw.1, srt (lookW W qw.1)) = _
        rw [lookW_of ok.nd hqw]
      have s03 := s02.trans sm
      have hp4 := paired_imp hp fun a b (q : KvW H a b) => (⟨q.1, q.2.same s03⟩ : KvW H4 a b)
      obtain ⟨v, hv, hw1⟩ := valV_of hp4 ok.nd hqw
      obtain ⟨a, rfl, ha⟩ := hw1.sq (K := K)
      have hg : DGet H4 d (.str (srt (W.map (·.1)))[i]) (some (.ref a)) := by
        rw [← ek, ← hv]
        exact DGet.k (k := Sum.inr qw.1) (s03 _ _ hd)
      refine ⟨_, rfl, _, rfl, _, rfl, d, _, rfl, hg, a, qw.2, rfl, ha, Nat.lt_of_le_of_lt (ok.w4 qw hqw) (by decide), fun a2 n2 => ?_⟩
      have s4 := same_upd (o := .lst ((srt qw.2).map V.str)) n2
      have hi' : i < (sh W).length := (List.getElem?_eq_some_iff.mp e0).1
      have hb1 : (stds ((sh W).take (i + 1))).length ≤ 256 := sok.take (i + 1)
      rw [stds_more e0, mul1_len] at hb1
      refine ⟨p, a2, stds ((sh W).take i), vs, srt qw.2, rfl, s4 _ _ hpv, hvs.same s4, upd_same, hb1, sok.take i, by rw [srt_len]; exact ok.w4 qw hqw, fun st hst => ?_, fun H5 p5 us s5 n5 h5 hus => ?_⟩
      · rw [stds_mem hst, List.length_take]
        have := sok.n4
        omega
      · exact ⟨p5, us, _, rfl, sm.trans (s4.trans s5), (s03.trans s4).free n5, h5, by rw [stds_more e0]; exact hus⟩
    · rintro σ H' ⟨p, vs, v2, rfl, sm, np, hpv, hvs⟩
      rw [List.length_map, show (srt (W.map (·.1))).length = (sh W).length from (List.length_map ..).symm, List.take_length] at hvs
      exact ⟨_, rfl, q H' p vs (s02.trans sm) np hpv hvs⟩
end
end HG

namespace HG
open PySem PySem.Spec PyProof.Rows L2
open C8 (pss_cut tCut)
def NumOk (z : Int) : Prop := -(10 ^ 60) ≤ z ∧ z ≤ 10 ^ 60
def spNumber : Sp := fun args H Q _ => ∃ (b k : Addr) (ns : List Int) (y : Int), args = [.ref b, .int y] ∧ ABag H b k ns ∧ ∀ H' z, But b H H' → ABag H' b k ns → NumOk z → Q (.int z) H'
section
variable {P : Program} {w : World} {K : PySem.W.Frag} {mg : Str → Option Value} {base : Heap}
variable {fT fO : Addr} {dT dO : FuncData}
theorem ok_number {f : Addr} {fd : FuncData} (B : BT K mg fT fO dT dO) (F : Fun K "_law_number" "_law_number" s_law_number f fd) : FnOk P w K mg base CX0 2 f fd ["_law_bag_here", "_law_style"] spNumber := by
  have S : FnScope ["_law_bag_here", "_law_style"] ["_law_bag_here", "_law_style"] (defScope s_law_number) := ⟨rfl, rfl, rfl, by decide +kernel, rfl, by decide +kernel, by decide +kernel⟩
  refine F.ok S (fun vs H Q E h => ?_) (fun cdv A outer s H vs Q E hr h => ?_)
  · obtain ⟨b, k, ns, y, rfl, _⟩ := h
    rfl
  · obtain ⟨b, k, ns, y, rfl, B0, q⟩ := h
    have T := ok_take (P := P) (w := w) (base := base) B.T B.ml B.mi
    refine ⟨_, pss_cons (ps_if (pt_cmpR op_eq (pv 1) pe_int (nomark _)) (pss_one (ps_ret (pe_op op_sub (pe_call T (hr.mono (by decide)) (by rfl) B.gT B.T.kp B.bT .nil pass0 (pa_cons (pv 0) (pa_cons pe_int pa_nil))) pe_int))) pss_nil)
      (pss_cons (ps_if (pt_cmpR op_eq (pv 1) pe_int (nomark _)) (pss_one (ps_ret (pe_op op_sub (pe_call T (hr.mono (by decide)) (by rfl) B.gT B.T.kp B.bT .nil pass0 (pa_cons (pv 0) (pa_cons pe_int pa_nil))) pe_int))) pss_nil)
      (pss_cons (ps_if (pt_cmpR op_eq (pv 1) pe_int (nomark _)) (pss_one (ps_ret (pe_op op_add (pe_op op_mul (pe_op op_sub (pe_call T (hr.mono (by decide)) (by rfl) B.gT B.T.kp B.bT .nil pass0 (pa_cons (pv 0) (pa_cons pe_int pa_nil))) pe_int) (pe_op op_pow pe_int pe_int))
          (pe_call T (hr.mono (by decide)) (by rfl) B.gT B.T.kp B.bT .nil pass0 (pa_cons (pv 0) (pa_cons pe_int pa_nil)))))) pss_nil)
      (pss_one (ps_ret (pe_ix ix_list (pe_lst (pa_cons pe_int (pa_cons pe_int (pa_cons (pe_un un_neg pe_int) (pa_cons (pe_op op_pow pe_int pe_int) (pa_cons (pe_un un_neg (pe_op op_pow pe_int pe_int)) pa_nil))))))
        (pe_call T (hr.mono (by decide)) (by rfl) B.gT B.T.kp B.bT .nil pass0 (pa_cons (pv 0) (pa_cons pe_int pa_nil))) (fun _ _ => rfl)))))), ?_⟩
    refine ⟨_, rfl, rfl, _, rfl, ite2 (fun _ => ?_) (fun _ => ?_)⟩
    · exact ⟨_, rfl, b, k, ns, _, rfl, B0, by decide, by decide, fun H1 d kb B1 d0 d1 => ⟨_, _, rfl, rfl, q _ _ kb B1 ⟨by omega, by omega⟩⟩⟩
    refine ⟨_, rfl, rfl, _, rfl, ite2 (fun _ => ?_) (fun _ => ?_)⟩
    · exact ⟨_, rfl, b, k, ns, _, rfl, B0, by decide, by decide, fun H1 d kb B1 d0 d1 => ⟨_, _, rfl, rfl, q _ _ kb B1 ⟨by omega, by omega⟩⟩⟩
    refine ⟨_, rfl, rfl, _, rfl, ite2 (fun _ => ?_) (fun _ => ?_)⟩
    · refine ⟨_, rfl, b, k, ns, _, rfl, B0, by decide, by decide, fun H1 d kb B1 d0 d1 => ⟨_, _, rfl, rfl, _, _, rfl, rfl, ⟨by decide, by decide, by decide⟩, _, _, rfl, rfl, .inl ⟨by omega, by omega⟩, ?_⟩⟩
      have e20 : (10 : Int) ^ (20 : Int).toNat = 100000000000000000000 := by decide
      refine ⟨_, rfl, b, k, ns, _, rfl, B1, by decide, by decide, fun H2 d2 kb2 B2 e0 e1 => ⟨_, _, rfl, rfl, q _ _ (kb.trans kb2) B2 ?_⟩⟩
      rw [e20]
      exact ⟨by omega, by omega⟩
    · refine ⟨_, rfl, _, _, rfl, rfl, ⟨by decide, by decide, by decide⟩, _, _, rfl, rfl, ⟨by decide, by decide, by decide⟩, _, rfl, (by show 5 ≤ sizeLine; decide), fun p np => ?_⟩
      generalize hxs : [V.int 0, V.int 1, V.int (-1), V.int (10 ^ (60 : Int).toNat), V.int (-10 ^ (60 : Int).toNat)] = xs
      have hxl : xs.length = 5 := by rw [← hxs]; rfl
      have hxi : ∀ x ∈ xs, ∃ z, x = V.int z ∧ NumOk z := by
        subst hxs
        intro x hx
        simp only [List.mem_cons, List.not_mem_nil, or_false] at hx
        rcases hx with rfl | rfl | rfl | rfl | rfl <;> exact ⟨_, rfl, by unfold NumOk; decide⟩
      have sp := same_upd (o := .lst xs) np
      refine ⟨_, rfl, b, k, ns, _, rfl, B0.same sp, by decide, by decide, fun H1 d kb B1 d0 d1 => ?_⟩
      have hpb : p ≠ b := abag_not B0 np
      have hj : d.toNat < xs.length := by omega
      obtain ⟨z, hz, hzo⟩ := hxi xs[d.toNat] (List.getElem_mem hj)
      exact ⟨p, xs, d, .int z, rfl, rfl, SqL.of (kb _ _ upd_same hpb), at_of (j := d.toNat) (by omega) (by rw [List.getElem?_eq_getElem hj, hz]), q _ _ ((But.of sp).trans kb) B1 hzo⟩
end
end HG

namespace HG
open PySem PySem.Spec PyProof.Rows L2
/-! ### a dict whose keys are (number, tuple of texts), its values numbers -/
abbrev Line := Int × List Str
def lineK (k : Line) : NestedKey := .tup [.num k.1, .tup (k.2.map NestedKey.text)]
theorem lineK_inj {a b : Line} (h : lineK a = lineK b) : a = b := by
  obtain ⟨i, s⟩ := a
  obtain ⟨j, t⟩ := b
  simp only [lineK, NestedKey.tup.injEq, List.cons.injEq, NestedKey.num.injEq, and_true] at h
  have h2 : s = t := List.map_inj_right (fun _ _ h => NestedKey.text.inj h) |>.mp h.2
  rw [h.1, h2]
def LineAt (H : Hp) (b : Addr) (k : Line) : Prop := ∃ c, H b = some (.tup [.int k.1, .ref c]) ∧ H c = some (.tup (k.2.map V.str))
theorem LineAt.same {H H' : Hp} {b : Addr} {k : Line} (h : LineAt H b k) (s : ∀ c xs, H c = some (.tup xs) → H' c = some (.tup xs)) : LineAt H' b k := let ⟨c, h1, h2⟩ := h; ⟨c, s _ _ h1, s _ _ h2⟩
theorem texts_all {h : Heap} : ∀ {zs : List Str} {its : List Value}, Vals (zs.map V.str) its → NestedAll h (zs.map NestedKey.text) its
  | [], _, .nil => .nil
  | z :: r, _, .cons q t => by
    obtain ⟨t0, rfl⟩ := q
    exact .cons (.text z t0) (texts_all t)
theorem depth_texts : ∀ zs : List Str, NestedKey.depthAll (zs.map NestedKey.text) = 0
  | [] => rfl
  | _ :: r => by
    rw [List.map_cons, NestedKey.depthAll, depth_texts r]
    rfl
theorem line_is {P : Program} {w : World} {H : Hp} {h : Heap} {b : Addr} {k : Line} (ok : HOk P w H h) (l : LineAt H b k) : (nestedKind P w).is h (lineK k) b := by
  obtain ⟨c, hb, hc⟩ := l
  obtain ⟨_, its, r, o, h1, h2, n, h3⟩ := (show ObjOk P w H h b (.tup [.int k.1, .ref c]) from ok b _ hb)
  obtain ⟨_, its2, r2, o2, k1, k2, n2, k3⟩ := (show ObjOk P w H h c (.tup (k.2.map V.str)) from ok c _ hc)
  cases r with
  | cons q1 t1 =>
    cases t1 with
    | cons q2 t2 =>
      cases t2
      obtain ⟨t0, rfl⟩ := q1
      cases q2
      refine ⟨.tup h1 h2 h3 (.cons (.int _ _) (.cons (.tup k1 k2 k3 (texts_all r2)) .nil)), ?_⟩
      show (lineK k).depth ≤ 8
      unfold lineK
      rw [NestedKey.depth, NestedKey.depthAll, NestedKey.depth, NestedKey.depthAll, NestedKey.depth, depth_texts, NestedKey.depthAll]
      decide
/-- the dict's own cell, entry by entry -/
def rawD (d : Addr) (es : Array DictEntry) (ep : Nat) : HO := .ext fun h => (d == sysModules) = false ∧ ∃ o, h.get? d = some o ∧ o.ExactDict ∧ o.data = .dict es ep
theorem rawD_ok {P : Program} {w : World} {H : Hp} {h : Heap} {d : Addr} {es : Array DictEntry} {ep : Nat} (hs : (d == sysModules) = false) {o : Obj} (e : h.get? d = some o) (x : o.ExactDict) (q : o.data = .dict es ep) : ObjOk P w H h d (rawD d es ep) :=
  ⟨⟨hs, o, e, x, q⟩, ⟨_, e⟩, fun h1 h2 ⟨hs, o, e, x, q⟩ k => ⟨hs, o, k _ e, x, q⟩⟩
def EntN (H : Hp) (k : Line) (x : NestedKey × Addr × Value) : Prop := x.1 = lineK k ∧ LineAt H x.2.1 k ∧ ∃ z t, x.2.2 = Value.int z t ∧ NumOk z
def ND (P : Program) (w : World) (H : Hp) (d : Addr) (ks : List Line) : Prop := ∃ es ep xs, H d = some (rawD d es ep) ∧ es.toList = xs.map (entryOfKey (nestedKind P w)) ∧ (xs.map (·.1)).Nodup ∧ Paired (EntN H) ks xs
theorem ND.same {P : Program} {w : World} {H H' : Hp} {d : Addr} {ks : List Line} (h : ND P w H d ks) (s : Same H H') : ND P w H' d ks := by
  obtain ⟨es, ep, xs, e, he, hn, hp⟩ := h
  exact ⟨es, ep, xs, s _ _ e, he, hn, paired_imp hp fun _ _ ⟨a, b, c⟩ => ⟨a, b.same fun _ _ q => s _ _ q, c⟩⟩
theorem ND.but {P : Program} {w : World} {H H' : Hp} {d b : Addr} {ks : List Line} (h : ND P w H d ks) (kb : But b H H') (hd : d ≠ b) {xs0 : List V} (hb : H b = some (.lst xs0)) : ND P w H' d ks := by
  obtain ⟨es, ep, xs, e, he, hn, hp⟩ := h
  exact ⟨es, ep, xs, kb _ _ e hd, he, hn, paired_imp hp fun _ _ ⟨a, l, c⟩ => ⟨a, l.same fun _ _ q => kb _ _ q (fun z => by rw [z, hb] at q; cases q), c⟩⟩
theorem keysN {H : Hp} {ks : List Line} {xs : List (NestedKey × Addr × Value)} (h : Paired (EntN H) ks xs) : xs.map (·.1) = ks.map lineK := by
  induction h with
  | nil => rfl
  | cons r _ ih => rw [List.map_cons, List.map_cons, ih, r.1]
theorem atKey_some {xs : List (NestedKey × Addr × Value)} {k : NestedKey} : (atKey xs k).isSome = decide (k ∈ xs.map (·.1)) := by
  unfold atKey
  rw [Option.isSome_map]
  rw [Bool.eq_iff_iff, decide_eq_true_iff]
  constructor
  · intro h
    obtain ⟨x, hx⟩ := Option.isSome_iff_exists.mp h
    have h1 := List.find?_some hx
    exact List.mem_map.mpr ⟨x, List.mem_of_find?_eq_some hx, of_decide_eq_true h1⟩
  · intro h
    obtain ⟨x, hx, e⟩ := List.mem_map.mp h
    rw [List.find?_isSome]
    exact ⟨x, hx, decide_eq_true e⟩
theorem has_iff {H : Hp} {ks : List Line} {xs : List (NestedKey × Addr × Value)} (h : Paired (EntN H) ks xs) (k : Line) : (atKey xs (lineK k)).isSome = decide (k ∈ ks) := by
  rw [atKey_some, keysN h]
  rw [Bool.eq_iff_iff, decide_eq_true_iff, decide_eq_true_iff, List.mem_map]
  exact ⟨fun ⟨a, ha, e⟩ => lineK_inj e ▸ ha, fun h => ⟨k, h, rfl⟩⟩
section
variable {X : Cx} {pins : List (Addr × Obj)} {σ : L2.St} {H : Hp} {s : Shared} {d b : Addr} {ks : List Line} {k : Line}
theorem nd_of (I : Inv X pins σ H s) (h : ND X.prog X.w H d ks) : ∃ xs, (d == sysModules) = false ∧ s.heap.DictOfH (nestedKind X.prog X.w) d xs ∧ Paired (EntN H) ks xs := by
  obtain ⟨es, ep, xs, e, he, hn, hp⟩ := h
  obtain ⟨⟨hs, o, ho, hx, hd⟩, _⟩ := I.hok d _ e
  refine ⟨xs, hs, ⟨o, es, ep, ho, hx, hd, he, fun x hx => ?_, hn⟩, hp⟩
  obtain ⟨j, hj⟩ := List.mem_iff_getElem?.mp hx
  obtain ⟨k, _, e1, l, _⟩ := paired_get hp hj
  rw [e1]
  exact line_is I.hok l
def tDNewN : TE := fun _ H Q => ∀ p, H p = none → Q (.ref p) (upd H p (rawD p #[] 0))
theorem pe_dnewN {pos : Pos} : PE X (.Dict [] [] pos) tDNewN := ⟨fun pins s σ H Q I h =>
  wpAny_Dict_empty ⟨.ref s.heap.objs.size, _, I.laid (a := s.heap.objs.size) (o := rawD s.heap.objs.size #[] 0) (t' := s.toks) (fun _ _ q => Heap.get?_push_of_some _ q) (Nat.le_refl _) (rawD_ok (beq_eq_false_iff_ne.mpr (Ne.symm (Nat.ne_of_lt I.big))) (Heap.get?_push_size _ rfl) ⟨rfl, rfl, rfl⟩ rfl), rfl, h _ (I.hok.fresh (Nat.le_refl _))⟩⟩
theorem nd_new {P : Program} {w : World} {H : Hp} {p : Addr} : ND P w (upd H p (rawD p #[] 0)) p [] := ⟨#[], 0, [], upd_same, rfl, List.nodup_nil, .nil⟩
def rNotInN (P : Program) (w : World) : R2 := fun x y H Q => ∃ b d k ks, x = .ref b ∧ y = .ref d ∧ LineAt H b k ∧ ND P w H d ks ∧ Q (.bl (!decide (k ∈ ks))) H
theorem op_notInN (hu : X.A.units + 64 < cLine) : OpR X (compareOp .NotIn) (rNotInN X.prog X.w) := by
  intro pins s σ H x y v u Q I rx ry h
  obtain ⟨b, d, k, ks, rfl, rfl, l, n, q⟩ := h
  cases (show v = Value.ref b from rx)
  cases (show u = Value.ref d from ry)
  obtain ⟨xs, hs, hx, hp⟩ := nd_of I n
  refine notIn_keyed (knd := nestedKind X.prog X.w) (k := lineK k) (show X.A.units + 1 + 8 < cLine by omega) (line_is I.hok l) hs ⟨xs, hx, rfl⟩ ?_
  rw [valueAt_pairsH, Option.isSome_map, has_iff hp k]
  exact ⟨.bl _, H, I.tok _, rfl, q⟩
def tGetN (P : Program) (w : World) (td ty : TE) : TE := fun σ H Q => td σ H fun x H1 => ty σ H1 fun y H2 => ∃ b d k ks, x = .ref d ∧ y = .ref b ∧ LineAt H2 b k ∧ ND P w H2 d ks ∧ k ∈ ks ∧ ∀ z, NumOk z → Q (.int z) H2
theorem pe_getN {o i : Expr} {pos : Pos} {td ty : TE} (hu : X.A.units + 64 < cLine) (ho : PE X o td) (hi : PE X i ty) (hs : NoSl i) : PE X (.Subscript o i pos) (tGetN X.prog X.w td ty) := by
  refine ⟨fun pins s σ H Q I h => ?_⟩
  refine subD_of PySem.F.slot_dict_getitem.lookup hs (thn (ho.run pins s σ H _ I h) fun u s1 ⟨x, H1, I1, rx, q1⟩ => thn (hi.run pins s1 σ H1 _ I1 q1) fun iv s2 ⟨y, H2, I2, ry, b, d, k, ks, ex, ey, l, n, hk, q2⟩ => ?_)
  subst ex ey
  cases (show u = Value.ref d from rx)
  cases (show iv = Value.ref b from ry)
  obtain ⟨xs, hsm, hx, hp⟩ := nd_of I2 n
  have hsome : (atKey xs (lineK k)).isSome = true := by rw [has_iff hp k]; exact decide_eq_true hk
  obtain ⟨p, hpk⟩ := Option.isSome_iff_exists.mp hsome
  obtain ⟨x, hxf, ex⟩ := Option.map_eq_some_iff.mp hpk
  obtain ⟨j, hj⟩ := List.mem_iff_getElem?.mp (List.mem_of_find?_eq_some hxf)
  obtain ⟨k', _, _, _, z, t, ez, ok⟩ := paired_get hp hj
  refine ⟨hx.typeIs, wpAny_getItem_heap (knd := nestedKind X.prog X.w) (show X.A.units + 1 + 8 < cLine by omega) (line_is I2.hok l) hx hpk ?_⟩
  rw [← ex, ez]
  exact ⟨.int z, H2, I2.tok _, ⟨_, rfl⟩, q2 z ok⟩
def rSetN (P : Program) (w : World) : TSet := fun o i v H Q => ∃ b d k ks z, o = .ref d ∧ i = .ref b ∧ v = .int z ∧ LineAt H b k ∧ ND P w H d ks ∧ k ∉ ks ∧ ks.length < 5000 ∧ NumOk z ∧ ∀ H', (∀ c u, c ≠ d → H c = some u → H' c = some u) → (∀ c, c ≠ d → H c = none → H' c = none) → ND P w H' d (ks ++ [k]) → Q H'
theorem set_N (hu : X.A.units + 64 < cLine) : PSet X (rSetN X.prog X.w) := by
  intro pins s σ H o i v ov iv u Q I ro ri rv h
  obtain ⟨b, d, k, ks, z, rfl, rfl, rfl, l, n, hk, hz, hzo, q⟩ := h
  cases (show ov = Value.ref d from ro)
  cases (show iv = Value.ref b from ri)
  obtain ⟨t, rfl⟩ := (show ∃ t, u = Value.int z t from rv)
  obtain ⟨xs, hsm, hx, hp⟩ := nd_of I n
  obtain ⟨es0, ep0, xs0, e0, _⟩ := id n
  have hnone : atKey xs (lineK k) = none := by
    have := has_iff hp k
    rw [decide_eq_false hk] at this
    exact Option.not_isSome_iff_eq_none.mp (by rw [this]; exact Bool.false_ne_true)
  have hlen : xs.length = ks.length := (Paired.length hp).symm
  refine wpAny_setItem_heap (knd := nestedKind X.prog X.w) (hsz := by rw [hlen]; exact Nat.le_of_lt (Nat.lt_of_lt_of_le hz (by rw [sizeLine_eq]; decide))) (show X.A.units + 1 + 8 < cLine by omega) (line_is I.hok l) hx fun h' ⟨o, es, ep, ho, hxo, hd, he, his, hn⟩ hs => ?_
  have tup : ∀ c ys, H c = some (.tup ys) → upd H d (rawD d es ep) c = some (.tup ys) := fun c ys e => by
    rw [upd_ne (fun z => by rw [z, e0] at e; cases e)]
    exact e
  refine ⟨upd H d (rawD d es ep), d_write I (by rw [e0]; exact True.intro) hs ⟨o, ho⟩ (rawD_ok hsm ho hxo hd), q _ (fun c u hc e => by rw [upd_ne hc]; exact e) (fun c hc e => by rw [upd_ne hc]; exact e) ⟨es, ep, _, upd_same, he, hn, ?_⟩⟩
  rw [storedH_new hnone]
  exact paired_append (paired_imp hp fun _ _ ⟨a, b, c⟩ => ⟨a, b.same tup, c⟩) (.cons ⟨rfl, l.same tup, z, t, rfl, hzo⟩ .nil)
end
end HG

namespace HG
open PySem PySem.Spec PyProof.Rows L2
theorem paired_of {α β : Type} {F : α → β → Prop} : ∀ {l : List α} {m : List β}, l.length = m.length → (∀ (j : Nat) a b, l[j]? = some a → m[j]? = some b → F a b) → Paired F l m
  | [], [], _, _ => .nil
  | a :: l, b :: m, e, h => .cons (h 0 a b rfl rfl) (paired_of (by simpa using e) fun j x y hx hy => h (j + 1) x y (by simpa using hx) (by simpa using hy))
  | [], _ :: _, e, _ => nomatch e
  | _ :: _, [], e, _ => nomatch e
section
variable {X : Cx}
/-- list(d.items()), keys tuples -/
def rListItT : List V → Hp → VK → Prop := fun vs H Q => ∃ (p a : Addr) (kvs : List (List L2.Key × V)), vs = [.ref p] ∧ H p = some (L2.DX.itemsO p a) ∧ H a = some (.dT kvs) ∧ kvs.length ≤ 1000 ∧
  ∀ H' l ps, Same H H' → H l = none → H' l = some (.lst (ps.map V.ref)) → Paired (fun kv pr => ∃ b, H b = some (.tup (kv.1.map kV)) ∧ H' pr = some (.tup [.ref b, kv.2])) kvs ps → Q (.ref l) H'
theorem call_list_itemsT (hc : X.calm = true) : CallR X (.type "list") rListItT := by
  intro pins s σ H xs us Q I rv h
  obtain ⟨p, a, kvs, rfl, hp, ha, h1000, q⟩ := h
  obtain ⟨u, rfl, ru⟩ := rv.one
  cases ru
  refine callType_codes (Q₁ := fun obj s₁ => obj = .ref s.heap.objs.size ∧ s₁ = { s with heap := s.heap.push { cls := .type "list", data := .seq #[] } }) PySem.F.called_list (PySem.F.typeCall_list_1 _) PySem.F.entry_list_init
    (code_list_new _ ⟨rfl, rfl⟩) fun obj s₁ h₁ => ?_
  obtain ⟨rfl, rfl⟩ := h₁
  have hS : (s.heap.push { cls := .type "list", data := .seq #[] }).get? s.heap.objs.size = some { cls := .type "list", data := .seq #[] } := Heap.get?_push_size _ rfl
  refine ⟨⟨_, hS, rfl⟩, PySem.F.args_list_init_2 _ _, ?_⟩
  have fr : H s.heap.objs.size = none := I.hok.fresh (Nat.le_refl _)
  have I1 : Inv X pins σ (upd H s.heap.objs.size (.lst [])) { s with heap := s.heap.push { cls := .type "list", data := .seq #[] } } := I.lnew (its := []) (t' := s.toks) .nil (Nat.zero_le _)
  show wpAny _ _ (do let old ← Builtin.List.listItems (.ref s.heap.objs.size); Builtin.List.listUpdate (.ref s.heap.objs.size) (fun _ => #[]); letGo old.toList.reverse; Builtin.List.listExtendWith (.ref s.heap.objs.size) (.ref p) .none) _ _ _
  refine wpAny_bind ?_
  unfold Builtin.List.listItems
  refine wpAny_bind (wpAny_seqItems hS rfl (wpAny_pure ?_))
  show wpAny _ _ (updateSeq s.heap.objs.size (fun _ => #[]) >>= fun _ => letGo (#[] : Array Value).toList.reverse >>= fun _ => Builtin.List.listExtendWith (.ref s.heap.objs.size) (.ref p) .none) _ _ _
  refine wpAny_bind (wpAny_updateSeq hS rfl ?_)
  have I2 := I1.lset (f := fun _ => #[]) (its := []) (its' := []) (ys := []) (t' := s.toks) upd_same hS rfl .nil (Nat.zero_le _)
  rw [upd_upd] at I2
  refine wpAny_bind (wpAny_letGo ?_)
  generalize hSS : s.heap.objs.size = S at *
  generalize hsB : ({ s with heap := _ } : Shared) = sB at I2 ⊢
  have sS := same_upd (o := .lst []) fr
  have hp2 := sS _ _ hp
  have ha2 := sS _ _ ha
  have view : sB.heap.IsItemsView p a := (show ObjOk X.prog X.w _ sB.heap p (L2.DX.itemsO p a) from I2.hok p _ hp2).1
  obtain ⟨z, hd, xs', rel, o, es, ep, ho, hx, hdat, hes, his, hn⟩ := dt_of I2.hok ha2
  have l1 : kvs.length = xs'.length := Paired.length rel
  have l2 : es.size = xs'.length := size_of_entries hes
  obtain ⟨z3, its, c0, r3, hl3, e3⟩ := I2.lstM upd_same
  cases r3
  have hSp : S ≠ p := fun z => by subst z; rw [hp] at fr; cases fr
  have haS : a ≠ S := fun z => by subst z; rw [ha] at fr; cases fr
  refine DT.extI (A := X.A.in1) (prog := X.prog) (w := X.w) (es := es) (ep := ep) (R := wants (fun r s₂ => r = .none ∧ EP X pins σ Q (.ref S) s₂) X.xe) (I.ok.hd hc) view ⟨o, ho, hx, hdat⟩ S hSp haS .none c0 e3 (fun h' tk acc c as hk hS' hl hG hacc => ?_) (by rw [l2, ← l1]; exact Nat.le_of_lt (small1000 h1000))
  have lak : as.length = kvs.length := by omega
  have nd : as.Nodup := List.Pairwise.imp (fun h => Nat.ne_of_lt h) hG.rise
  have hSlt : S < sB.heap.objs.size := Heap.lt_size e3
  have I3 : Inv X pins σ (upd (upd H S (.lst [])) S (.lst (as.map V.ref))) { sB with heap := h', toks := tk } := by
    refine I2.write (x := S) (e := S) (by rw [upd_same]; exact True.intro) (.inl rfl) (fun b q hb z => hk b q hb z) ⟨_, hS'⟩ ?_
    refine ⟨by rw [List.length_map, lak]; exact Nat.le_of_lt (small1000 h1000), acc.toList, c, ?_, by simpa using hS'⟩
    rw [hacc]
    clear hacc hG hl nd lak
    induction as with
    | nil => exact .nil
    | cons x r ih => exact .cons rfl ih
  rw [upd_upd] at I3
  have hall : ∀ pr ∈ as, sB.heap.objs.size ≤ pr ∧ (upd H S (.lst (as.map V.ref))) pr = none ∧ ∃ vs, (∃ (j : Nat) (kv : List L2.Key × V) (b : Addr), as[j]? = some pr ∧ kvs[j]? = some kv ∧ H b = some (.tup (kv.1.map kV)) ∧ vs = [.ref b, kv.2]) ∧ ∀ H2, ObjOk X.prog X.w H2 h' pr (.tup vs) := fun pr hpr => by
    obtain ⟨j, hj⟩ := List.mem_iff_getElem?.mp hpr
    obtain ⟨en, he, hg⟩ := hG.pairs j pr hj
    rw [entry_at hes j] at he
    obtain ⟨x, hxj, ex⟩ := Option.map_eq_some_iff.mp he
    obtain ⟨kv, hkv, r1, r2, r4⟩ := paired_get rel hxj
    have hge : sB.heap.objs.size ≤ pr := Nat.le_of_lt (hG.above pr hpr)
    have hprS : pr ≠ S := Nat.ne_of_gt (Nat.lt_of_lt_of_le hSlt hge)
    have hb : H x.2.1 = some (.tup (kv.1.map kV)) := by
      have hbS : x.2.1 ≠ S := fun z => by rw [z, upd_same] at r2; cases r2
      rwa [upd_ne hbS] at r2
    refine ⟨hge, ?_, [.ref x.2.1, kv.2], ⟨j, kv, x.2.1, hj, hkv, hb, rfl⟩, fun H2 => ⟨by show 2 ≤ sizeLine; decide, [.ref x.2.1, x.2.2], .cons rfl (.cons r4 .nil), ?_⟩⟩
    · have := I2.hok.fresh hge
      rwa [upd_ne hprS] at this ⊢
    · rw [← ex] at hg
      exact ⟨_, hg, rfl, _, rfl⟩
  obtain ⟨H4, I4, g4, p4⟩ := L2.DX.takeT (P := fun pr vs => ∃ (j : Nat) (kv : List L2.Key × V) (b : Addr), as[j]? = some pr ∧ kvs[j]? = some kv ∧ H b = some (.tup (kv.1.map kV)) ∧ vs = [.ref b, kv.2]) I2 as _ I3 nd hall
  refine ⟨rfl, .ref S, H4, I4, rfl, q H4 S as (fun b o e => g4 _ _ (by rw [upd_ne (ne_of_none e fr)]; exact e)) fr (g4 _ _ upd_same) (paired_of lak.symm fun j kv pr hkv hpr => ?_)⟩
  obtain ⟨vs, ⟨j', kv', b, h1, h2, h3, rfl⟩, h4⟩ := p4 pr (List.mem_of_getElem? hpr)
  obtain ⟨g1, f1⟩ := List.getElem?_eq_some_iff.mp h1
  obtain ⟨g2, f2⟩ := List.getElem?_eq_some_iff.mp hpr
  have ej : j' = j := (List.getElem_inj nd).mp (f1.trans f2.symm)
  subst ej
  cases h2.symm.trans hkv
  exact ⟨b, h3, h4⟩
end
end HG

namespace HG
open PySem PySem.Spec PyProof.Rows L2
theorem storedAll_new {K : Type} [DecidableEq K] : ∀ (rs acc : List (K × Addr × Value)), ((acc ++ rs).map (·.1)).Nodup → PySem.storedAllH acc rs = acc ++ rs
  | [], acc, _ => by
    rw [List.append_nil]
    rfl
  | r :: rs, acc, h => by
    have hn : atKey acc r.1 = none := by
      cases e : atKey acc r.1 with
      | none => rfl
      | some p =>
        obtain ⟨x, hx, _⟩ := Option.map_eq_some_iff.mp e
        have h0 : decide (x.1 = r.1) = true := List.find?_some (p := fun x : K × Addr × Value => decide (x.1 = r.1)) hx
        have h1 := of_decide_eq_true h0
        have h2 := List.mem_of_find?_eq_some hx
        rw [List.map_append, List.nodup_append] at h
        exact absurd h1 (h.2.2 x.1 (List.mem_map.mpr ⟨x, h2, rfl⟩) r.1 (List.mem_map.mpr ⟨r, List.mem_cons_self, rfl⟩))
    have step : PySem.storedAllH acc (r :: rs) = PySem.storedAllH (storedH acc r.1 r.2.1 r.2.2) rs := rfl
    rw [step, storedH_new hn]
    have := storedAll_new rs (acc ++ [(r.1, r.2.1, r.2.2)]) (by rw [List.append_assoc]; exact h)
    rw [this, List.append_assoc]
    rfl
section
variable {X : Cx}
/-- a pair of a key and a value -/
def PrT (H : Hp) (kv : List L2.Key × V) (pr : Addr) : Prop := ∃ b, H b = some (.tup (kv.1.map kV)) ∧ H pr = some (.tup [.ref b, kv.2])
theorem pairs_T {pins : List (Addr × Obj)} {σ : L2.St} {H : Hp} {s : Shared} (I : Inv X pins σ H s) : ∀ {kvs : List (List L2.Key × V)} {ps : List Addr}, Paired (PrT H) kvs ps →
    ∃ rs : List (List L2.Key × Addr × Value), L2.KT H kvs rs ∧ rs.length = ps.length ∧ ∀ (j : Nat) r, rs[j]? = some r → ∃ pr, ps[j]? = some pr ∧ PySem.PairAt s.heap pr (.ref r.2.1) r.2.2
  | _, _, .nil => ⟨[], .nil, rfl, fun j r h => by simp at h⟩
  | kv :: kvs, pr :: ps, .cons ⟨b, hb, hp⟩ t => by
    obtain ⟨rs, h1, h2, h3⟩ := pairs_T I t
    obtain ⟨_, its, rv, o, ho, hc, n, hd⟩ := (show ObjOk X.prog X.w H s.heap pr (.tup [.ref b, kv.2]) from I.hok pr _ hp)
    cases rv with
    | cons q1 t1 =>
      cases t1 with
      | cons q2 t2 =>
        cases t2
        cases q1
        refine ⟨(kv.1, b, _) :: rs, .cons ⟨rfl, hb, q2⟩ h1, by rw [List.length_cons, List.length_cons, h2], fun j r hj => ?_⟩
        cases j with
        | zero =>
          cases hj
          exact ⟨pr, rfl, .inl ⟨o, ho, hc, n, hd⟩⟩
        | succ j => exact h3 j r (by simpa using hj)
def rDictT : List V → Hp → VK → Prop := fun vs H Q => ∃ (l : Addr) (ps : List Addr) (kvs : List (List L2.Key × V)), vs = [.ref l] ∧ H l = some (.lst (ps.map V.ref)) ∧ Paired (PrT H) kvs ps ∧ (kvs.map (·.1)).Nodup ∧ kvs.length ≤ 1000 ∧ ∀ p, H p = none → Q (.ref p) (upd H p (.dT kvs))
theorem call_dictT (hc : X.calm = true) (hu : X.A.units + 64 < cLine) : CallR X (.type "dict") rDictT := by
  intro pins s σ H xs us Q I r h
  obtain ⟨l, ps, kvs, rfl, hl, hp, hn, hz, q⟩ := h
  rw [Vals.ref1 r]
  obtain ⟨rs, hk, hlen, hpr⟩ := pairs_T I hp
  obtain ⟨z, its, n, rv, he, ho⟩ := I.lstM hl
  have ei := refs_at rv
  subst ei
  have hkl : kvs.length = rs.length := Paired.length hk
  have keys : rs.map (·.1) = kvs.map (·.1) := by
    clear hpr hlen hkl hn hz q hp
    induction hk with
    | nil => rfl
    | cons r _ ih => rw [List.map_cons, List.map_cons, ih, r.1]
  have e0 : PySem.storedAllH [] rs = rs := by
    have := storedAll_new rs [] (by rw [List.nil_append, keys]; exact hn)
    rwa [List.nil_append] at this
  have ha := PairArg.list (prog := X.prog) (w := X.w) l (ps.map Value.ref).toArray (fun j => ps.getD j 0) (rs.map fun r => (Value.ref r.2.1, r.2.2))
  refine call_dict_pairsH (knd := tupleKind (mixKind X.prog X.w)) (ps := rs) ha (I.ok.hd hc) (show X.A.units + 1 + 1 < cLine by omega) ⟨⟨_, n, ho, rfl, rfl, rfl⟩, ?_, fun j k v hj => ?_⟩ ⟨by rw [List.length_map], fun i key v hi => ?_⟩ (fun h' hk' x hx => ?_) (by rw [List.length_map, ← hkl]; exact Nat.le_of_lt (small1000 hz)) fun h' tk hd' k => ?_
  · rw [List.size_toArray, List.length_map, List.length_map, hlen]
  · rw [List.getElem?_map] at hj
    obtain ⟨r, hr, er⟩ := Option.map_eq_some_iff.mp hj
    obtain ⟨pr, h1, h2⟩ := hpr j r hr
    cases er
    have e1 : ps.getD j 0 = pr := by rw [List.getD_eq_getElem?_getD, h1]; rfl
    refine ⟨?_, ?_⟩
    · show (ps.map Value.ref).toArray[j]? = some (Value.ref (ps.getD j 0))
      rw [e1, List.getElem?_toArray, List.getElem?_map, h1]
      rfl
    · show PySem.PairAt s.heap (ps.getD j 0) _ _
      rw [e1]
      exact h2
  · unfold PairRel at hi
    rw [List.getElem?_map] at hi
    obtain ⟨r, hr, er⟩ := Option.map_eq_some_iff.mp hi
    cases er
    exact ⟨r.1, r.2.1, hr, rfl⟩
  · obtain ⟨j, hj⟩ := List.mem_iff_getElem?.mp hx
    obtain ⟨kv, hkv, r1, r2, r3⟩ := paired_get hk hj
    have hb := key_of (ks := kv.1) I.hok r2
    rw [← r1]
    exact (tupleKind_stays (knd := mixKind X.prog X.w)).all h' (fun b o _ e => hk' b o (Nat.ne_of_lt (Heap.lt_size e)) (by simp) e) _ _ hb
  · rw [e0] at hd'
    obtain ⟨o, es, ep, ho', hx', hdd, hee, _, hnn⟩ := hd'
    have hm : (s.heap.objs.size == sysModules) = false := beq_eq_false_iff_ne.mpr (Nat.ne_of_gt I.big)
    have hf : H s.heap.objs.size = none := I.hok.fresh (Nat.le_refl _)
    refine ⟨.ref s.heap.objs.size, upd H s.heap.objs.size (.dT kvs), I.laid (t' := tk) (fun b o e => k b o (by simp) e) (Nat.le_refl _) ?_, rfl, q _ hf⟩
    exact ⟨Nat.le_of_lt (small1000 hz), hm, rs, hk.keeps fun c ys ec => by rw [upd_ne (ne_of_none ec hf)]; exact ec, o, es, ep, ho', hx', hdd, hee, hnn⟩
end
end HG

namespace HG
open PySem PySem.Spec PyProof.Rows L2
/-! ### gains drawn: what stands between the steps -/
def GainLo (z : Int) : Prop := -(2 * 10 ^ 60) ≤ z ∧ z ≤ 2 * 10 ^ 60
def GainOk (z : Int) : Prop := -(3 * 10 ^ 60) ≤ z ∧ z ≤ 3 * 10 ^ 60
abbrev Row := List Str × List Int
def KvE (H : Hp) (e : Row) (kv : List L2.Key × V) : Prop := kv.1 = kS e.1 ∧ ∃ a, kv.2 = .ref a ∧ H a = some (.tup (e.2.map V.int))
structure RowsOk (M : Int → Prop) (es : List Row) (sts : List (List Str)) (n : Nat) : Prop where
  ks : es.map (·.1) = sts
  len : ∀ e ∈ es, e.2.length = n
  ok : ∀ e ∈ es, ∀ z ∈ e.2, M z
theorem KvE.tups {H H' : Hp} {e : Row} {kv : List L2.Key × V} (h : KvE H e kv) (s : ∀ c xs, H c = some (.tup xs) → H' c = some (.tup xs)) : KvE H' e kv := ⟨h.1, let ⟨a, e, q⟩ := h.2; ⟨a, e, s _ _ q⟩⟩
structure GSt (P : Program) (w : World) (H H' : Hp) (b k : Addr) (ns : List Int) (g ps X : Addr) (vs : List V) (sts : List (List Str)) (kvs : List (List L2.Key × V)) (es : List Row) (ks : List Line) : Prop where
  ng : H g = none
  np : H ps = none
  nx : H X = none
  hb : ∃ xs, H b = some (.lst xs)
  kb : But b H H'
  B : ABag H' b k ns
  hg : H' g = some (.dT kvs)
  he : Paired (KvE H') es kvs
  nX : ND P w H' X ks
  hp : H' ps = some (.lst vs)
  ht : TupsAt H' sts vs
section
variable {P : Program} {w : World} {H H' H'' : Hp} {b k : Addr} {ns : List Int} {g ps X : Addr} {vs : List V} {sts : List (List Str)} {kvs : List (List L2.Key × V)} {es : List Row} {ks : List Line}
theorem GSt.off (G : GSt P w H H' b k ns g ps X vs sts kvs es ks) {c : Addr} (n : H c = none) : c ≠ b := fun z => by
  obtain ⟨xs, e⟩ := G.hb
  rw [z, e] at n
  cases n
theorem TupsAt.tups {sts : List (List Str)} {vs : List V} (h : TupsAt H sts vs) (s : ∀ c xs, H c = some (.tup xs) → H' c = some (.tup xs)) : TupsAt H' sts vs := paired_imp h fun _ _ ⟨a, e, q⟩ => ⟨a, e, s _ _ q⟩
theorem GSt.but (G : GSt P w H H' b k ns g ps X vs sts kvs es ks) (kb : But b H' H'') (B : ABag H'' b k ns) : GSt P w H H'' b k ns g ps X vs sts kvs es ks := by
  obtain ⟨xs, hb⟩ := abag_ne G.B
  have t : ∀ c ys, H' c = some (.tup ys) → H'' c = some (.tup ys) := fun c ys e => kb _ _ e (fun z => by rw [z, hb] at e; cases e)
  exact ⟨G.ng, G.np, G.nx, G.hb, G.kb.trans kb, B, kb _ _ G.hg (G.off G.ng), paired_imp G.he fun _ _ h => h.tups t, G.nX.but kb (G.off G.nx) hb, kb _ _ G.hp (G.off G.np), G.ht.tups t⟩
theorem GSt.same (G : GSt P w H H' b k ns g ps X vs sts kvs es ks) (s : Same H' H'') : GSt P w H H'' b k ns g ps X vs sts kvs es ks := G.but (But.of s) (G.B.same s)
/-- a list that is none of these is changed -/
theorem GSt.list (G : GSt P w H H' b k ns g ps X vs sts kvs es ks) {T : Addr} {ys : List V} {o : HO} (hT : H' T = some (.lst ys)) (h1 : T ≠ b) (h2 : T ≠ k) (h3 : T ≠ ps) (h4 : H T = none) : GSt P w H (upd H' T o) b k ns g ps X vs sts kvs es ks := by
  have t : ∀ c zs, H' c = some (.tup zs) → (upd H' T o) c = some (.tup zs) := fun c zs e => by
    rw [upd_ne (ne_of e hT (by intro z; cases z))]
    exact e
  obtain ⟨esX, ep, xs, eX, _⟩ := id G.nX
  have hXT : X ≠ T := ne_of eX hT (by intro z; cases z)
  refine ⟨G.ng, G.np, G.nx, G.hb, fun q u e hq => ?_, abag_upd G.B h1 h2, ?_, paired_imp G.he fun _ _ h => h.tups t, ?_, ?_, G.ht.tups t⟩
  · rw [upd_ne (ne_of_none e h4)]
    exact G.kb _ _ e hq
  · rw [upd_ne (ne_of G.hg hT (by intro z; cases z))]
    exact G.hg
  · obtain ⟨esX, ep, xs, eX, he, hn, hp⟩ := G.nX
    exact ⟨esX, ep, xs, by rw [upd_ne hXT]; exact eX, he, hn, paired_imp hp fun _ _ ⟨a, l, c⟩ => ⟨a, l.same t, c⟩⟩
  · rw [upd_ne h3.symm]
    exact G.hp
/-- the nested dict is changed -/
theorem GSt.setX (G : GSt P w H H' b k ns g ps X vs sts kvs es ks) {ks' : List Line} (s : ∀ c u, c ≠ X → H' c = some u → H'' c = some u) (n : ND P w H'' X ks') : GSt P w H H'' b k ns g ps X vs sts kvs es ks' := by
  obtain ⟨esX, ep, xs, eX, _⟩ := id G.nX
  have t : ∀ c zs, H' c = some (.tup zs) → H'' c = some (.tup zs) := fun c zs e => s _ _ (ne_of e eX (by intro z; cases z)) e
  have hkX : k ≠ X := ne_of (abag_k G.B) eX (by intro z; cases z)
  have hbX : b ≠ X := fun z => G.off G.nx z.symm
  refine ⟨G.ng, G.np, G.nx, G.hb, fun q u e hq => s _ _ (ne_of_none e G.nx) (G.kb _ _ e hq), ?_, s _ _ (ne_of G.hg eX (by intro z; cases z)) G.hg, paired_imp G.he fun _ _ h => h.tups t, n, s _ _ (ne_of G.hp eX (by intro z; cases z)) G.hp, G.ht.tups t⟩
  obtain ⟨a, c, m, B⟩ := G.B
  exact ⟨a, c, m, s _ _ hbX B.at_, s _ _ hkX B.cells, B.n0, B.c0, B.c1⟩
/-- the dict of the gains is changed -/
theorem GSt.setG (G : GSt P w H H' b k ns g ps X vs sts kvs es ks) {kvs' : List (List L2.Key × V)} {es' : List Row} (he : Paired (KvE H') es' kvs') : GSt P w H (upd H' g (.dT kvs')) b k ns g ps X vs sts kvs' es' ks := by
  have t : ∀ c zs, H' c = some (.tup zs) → (upd H' g (.dT kvs')) c = some (.tup zs) := fun c zs e => by
    rw [upd_ne (ne_of e G.hg (by intro z; cases z))]
    exact e
  obtain ⟨esX, ep, xs, eX, hee, hn, hp⟩ := id G.nX
  refine ⟨G.ng, G.np, G.nx, G.hb, fun q u e hq => ?_, ?_, upd_same, paired_imp he fun _ _ h => h.tups t, ⟨esX, ep, xs, ?_, hee, hn, paired_imp hp fun _ _ ⟨a, l, c⟩ => ⟨a, l.same t, c⟩⟩, ?_, G.ht.tups t⟩
  · rw [upd_ne (ne_of_none e G.ng)]
    exact G.kb _ _ e hq
  · refine abag_upd G.B (G.off G.ng) fun z => ?_
    have := G.hg
    rw [z, abag_k G.B] at this
    cases this
  · rw [upd_ne (ne_of eX G.hg (by intro z; cases z))]
    exact eX
  · rw [upd_ne (ne_of G.hp G.hg (by intro z; cases z))]
    exact G.hp
end
theorem ShL.but {N : Addr → Prop} {H H' : Hp} {d b k : Addr} {ns : List Int} {W : List Way} (h : ShL N H d W) (B : ABag H b k ns) (w1 : ∀ q ∈ W, 1 ≤ q.2.length) (kb : But b H H') : ShL N H' d W := by
  obtain ⟨kvs, e, p⟩ := h
  obtain ⟨a, c, n, B⟩ := B
  have hd : d ≠ b := ne_of e B.at_ (by intro z; cases z)
  refine ⟨kvs, kb _ _ e hd, ?_⟩
  have key : ∀ {W : List Way} {kvs : List (Key × V)}, Paired (KvL N H) W kvs → (∀ q ∈ W, 1 ≤ q.2.length) → Paired (KvL N H') W kvs := by
    intro W kvs p
    induction p with
    | nil => exact fun _ => .nil
    | @cons q kv qs kvs r t ih =>
      intro hw
      obtain ⟨e1, x, ev, nx, hx⟩ := r
      refine .cons ⟨e1, x, ev, nx, kb _ _ hx (ne_of hx B.at_ fun z => ?_)⟩ (ih fun q hq => hw q (List.mem_cons_of_mem _ hq))
      have h1 := hw q List.mem_cons_self
      cases hq2 : q.2 with
      | nil =>
        rw [hq2] at h1
        exact absurd h1 (by decide)
      | cons y r =>
        rw [hq2] at z
        injection z with z
        injection z with z1 _
        cases z1
  exact key p w1
end HG

namespace HG
open PySem PySem.Spec PyProof.Rows L2
open C8 (pss_cut tCut)
/-! ### gains drawn -/
def spLGains : Sp := fun args H Q _ => ∃ (b k d : Addr) (ns : List Int) (W : List Way), args = [.ref b, .ref d] ∧ ABag H b k ns ∧ ShL (fun _ => True) H d W ∧ WOk W ∧
  ∀ H' g kvs es sts, But b H H' → ABag H' b k ns → H g = none → H' g = some (.dT kvs) → Paired (KvE H') es kvs → sts.Perm (stds (sh W)) → RowsOk GainOk es sts W.length → Q (.ref g) H'
structure GnT (K : PySem.W.Frag) (mg : Str → Option Value) (fN fS fW : Addr) (dN dS dW : FuncData) : Prop where
  m_sorted : mg "sorted" = none
  m_min : mg "min" = none
  m_range : mg "range" = none
  m_tuple : mg "tuple" = none
  m_list : mg "list" = none
  m_dict : mg "dict" = none
  N : Fun K "_law_number" "_law_number" s_law_number fN dN
  bN : Binds K dN ["_law_bag_here", "_law_style"] []
  gN : mg "_law_number" = some (.ref fN)
  S : Fun K "_law_standings" "_law_standings" s_law_standings fS dS
  bS : Binds K dS ["_law_ways"] []
  gS : mg "_law_standings" = some (.ref fS)
  W : Fun K "_law_wider" "_law_wider" s_law_wider fW dW
  bW : Binds K dW ["_law_some", "_law_ways"] []
  gW : mg "_law_wider" = some (.ref fW)

theorem row_at {H : Hp} : ∀ {es : List Row} {kvs : List (List L2.Key × V)} {st : List Str}, Paired (KvE H) es kvs → st ∈ es.map (·.1) → ∃ e ∈ es, e.1 = st ∧ ∃ a, valV kvs (kS st) = some (.ref a) ∧ H a = some (.tup (e.2.map V.int))
  | _, _, _, .nil, h => nomatch h
  | e :: r, kv :: kvs, st, .cons q t, h => by
    obtain ⟨e1, a, ev, ha⟩ := q
    by_cases hx : e.1 = st
    · subst hx
      exact ⟨e, List.mem_cons_self, rfl, a, by rw [valV_pos e1, ev], ha⟩
    · have hm : st ∈ r.map (·.1) := by
        rw [List.map_cons] at h
        rcases List.mem_cons.mp h with h | h
        · exact absurd h.symm hx
        · exact h
      obtain ⟨e', he, h1, a', h2, h3⟩ := row_at t hm
      refine ⟨e', List.mem_cons_of_mem _ he, h1, a', ?_, h3⟩
      rw [valV_neg (fun e' => hx ?_)]
      · exact h2
      · have := congrArg (List.map kV) (e1.symm.trans e')
        rw [kS_v, kS_v] at this
        exact List.map_inj_right (fun _ _ h => V.str.inj h) |>.mp this
def setRow (es : List Row) (st : List Str) (row : List Int) : List Row := es.map fun e => if e.1 = st then (e.1, row) else e
theorem setRow_paired {H : Hp} {es : List Row} {kvs : List (List L2.Key × V)} {st : List Str} {row : List Int} {pt : Addr} (h : Paired (KvE H) es kvs) (hm : st ∈ es.map (·.1)) (hp : H pt = some (.tup (row.map V.int))) : Paired (KvE H) (setRow es st row) (putK kvs (kS st) (.ref pt)) := by
  have hin : (kvs.any fun kv => decide (kv.1 = kS st)) = true := by
    obtain ⟨_, _, _, a, hv, _⟩ := row_at h hm
    rw [valV_any, hv]
    rfl
  unfold putK
  rw [if_pos hin]
  clear hin hm
  unfold setRow
  induction h with
  | nil => exact .nil
  | @cons e kv es kvs r t ih =>
    rw [List.map_cons, List.map_cons]
    refine .cons ?_ ih
    obtain ⟨e1, a, ev, ha⟩ := r
    by_cases hx : e.1 = st
    · rw [if_pos hx, if_pos (by rw [e1, hx])]
      exact ⟨e1, pt, rfl, hp⟩
    · rw [if_neg hx, if_neg fun z => hx ?_]
      · exact ⟨e1, a, ev, ha⟩
      · have := congrArg (List.map kV) (e1.symm.trans z)
        rw [kS_v, kS_v] at this
        exact List.map_inj_right (fun _ _ h => V.str.inj h) |>.mp this
theorem setRow_keys (es : List Row) (st : List Str) (row : List Int) : (setRow es st row).map (·.1) = es.map (·.1) := by
  unfold setRow
  rw [List.map_map]
  refine List.map_congr_left fun e _ => ?_
  show (if e.1 = st then (e.1, row) else e).1 = e.1
  by_cases h : e.1 = st
  · rw [if_pos h]
  · rw [if_neg h]
theorem setRow_mem {es : List Row} {st : List Str} {row : List Int} {e : Row} (h : e ∈ setRow es st row) : e ∈ es ∨ e.2 = row := by
  unfold setRow at h
  obtain ⟨x, hx, rfl⟩ := List.mem_map.mp h
  by_cases hs : x.1 = st
  · rw [if_pos hs]
    exact .inr rfl
  · rw [if_neg hs]
    exact .inl hx
theorem paired_rev {α β : Type} {F : α → β → Prop} {l : List α} {m : List β} (h : Paired F l m) : Paired F l.reverse m.reverse := by
  induction h with
  | nil => exact .nil
  | cons r _ ih =>
    rw [List.reverse_cons, List.reverse_cons]
    exact paired_append ih (.cons r .nil)
theorem GainLo.ok {z : Int} (h : GainLo z) : GainOk z := by
  obtain ⟨h1, h2⟩ := h
  exact ⟨by omega, by omega⟩
theorem RowsOk.rev {M : Int → Prop} {es : List Row} {sts : List (List Str)} {n : Nat} (h : RowsOk M es sts n) : RowsOk M es.reverse sts.reverse n :=
  ⟨by rw [List.map_reverse, h.ks], fun e he => h.len e (List.mem_reverse.mp he), fun e he => h.ok e (List.mem_reverse.mp he)⟩
theorem KvE.keys {H : Hp} {es : List Row} {kvs : List (List L2.Key × V)} (h : Paired (KvE H) es kvs) : kvs.map (·.1) = (es.map (·.1)).map kS := by
  induction h with
  | nil => rfl
  | cons r _ ih => rw [List.map_cons, List.map_cons, List.map_cons, ih, r.1]
theorem kS_nd {sts : List (List Str)} (h : sts.Nodup) : (sts.map kS).Nodup := by
  rw [List.Nodup, List.pairwise_map]
  refine List.Pairwise.imp (fun {x y} hne e => hne ?_) h
  have := congrArg (List.map kV) e
  rw [kS_v, kS_v] at this
  exact List.map_inj_right (fun _ _ h => V.str.inj h) |>.mp this
section
variable {P : Program} {w : World} {K : PySem.W.Frag} {mg : Str → Option Value} {base : Heap}
variable {fT fO fN fS fW : Addr} {dT dO dN dS dW : FuncData}
theorem ok_lgains {f : Addr} {fd : FuncData} (B : BT K mg fT fO dT dO) (G : GnT K mg fN fS fW dN dS dW) (F : Fun K "_law_gains" "_law_gains" s_law_gains f fd) : FnOk P w K mg base CX0 4 f fd ["_law_bag_here", "_law_ways"] spLGains := by
  have S : FnScope ["_law_bag_here", "_law_ways", "_law_style", "_law_way", "_law_found", "_law_standings_here", "_law_many", "_law_extras", "_law_standing", "_law_level", "_law_told", "_law_at", "_law_line", "_law_spot"] ["_law_bag_here", "_law_ways"] (defScope s_law_gains) := ⟨rfl, rfl, rfl, by decide +kernel, rfl, by decide +kernel, by decide +kernel⟩
  have nd := S.nd
  refine F.ok S (fun vs H Q E h => ?_) (fun cdv A outer s H vs Q E hr h => ?_)
  · obtain ⟨b, k, d, ns, W, rfl, _⟩ := h
    rfl
  · obtain ⟨b, k, d, ns, W, rfl, B0, hW0, ok, q⟩ := h
    have hu := hu_of hr
    have hu64 : _ + 64 < cLine := hr.units
    have T := ok_take (P := P) (w := w) (base := base) B.T B.ml B.mi
    have NN := ok_number (P := P) (w := w) (base := base) B G.N
    refine ⟨_, pss_cons (ps_par3 (i := 2) (j := 3) (l := 4) (by rfl) nd rfl rfl rfl (by decide) (by decide) (by decide) rfl rfl rfl (pa_cons (pe_call T (hr.mono (by decide)) (by rfl) B.gT B.T.kp B.bT .nil pass0 (pa_cons (pv 0) (pa_cons pe_int pa_nil))) (pa_cons (pe_call T (hr.mono (by decide)) (by rfl) B.gT B.T.kp B.bT .nil pass0 (pa_cons (pv 0) (pa_cons pe_int pa_nil))) (pa_cons pe_dnewT pa_nil))) (by rfl))
      (pss_cons (ps_par3 (i := 5) (j := 6) (l := 7) (by rfl) nd rfl rfl rfl (by decide) (by decide) (by decide) rfl rfl rfl (pa_cons (pe_call (ok_lstandings G.m_sorted G.W G.bW G.gW G.S) (hr.mono (by decide)) (by rfl) G.gS G.S.kp G.bS .nil pass0 (pa_cons (pv 1) pa_nil)) (pa_cons (pe_callB call_lenD (by rfl) B.ml PySem.boot_len (pa_cons (pv 1) pa_nil)) (pa_cons pe_dnewN pa_nil))) (by rfl))
      (pss_cons (ps_for PassesOwn.never rfl (pi_list (pv 5)) (pg_name (i := 8) nd rfl (Or.inl rfl))
        (pss_cons (ps_set (i := 9) nd rfl (Or.inl rfl) (pe_call NN (hr.mono (by decide)) (by rfl) G.gN G.N.kp G.bN .nil pass0 (pa_cons (pv 0) (pa_cons (pe_callB (call_min2 rfl) (by rfl) G.m_min (by decide +kernel) (pa_cons (pv 2) (pa_cons pe_int pa_nil))) pa_nil))))
        (pss_cons (ps_set (i := 10) nd rfl (Or.inl rfl) (pe_lst pa_nil))
        (pss_cons (ps_for PassesOwn.never rfl (pi_range1 rfl G.m_range (pa_cons (pv 6) pa_nil)) (pg_name (i := 11) nd rfl (Or.inl rfl))
          (pss_cons (ps_set (i := 12) nd rfl (Or.inl rfl) (pe_tup (pa_cons (pv 11) (pa_cons (pe_op op_catB (pe_slice sl_tupB (pv 8) po_none (po_some (pv 11))) (pe_slice sl_tupB (pv 8) (po_some (pe_op op_add (pv 11) pe_int)) po_none)) pa_nil))))
          (pss_cut (ps_if (pt_cmpR (op_notInN hu64) (pv 12) (pv 7) (by rfl)) (pss_one (ps_asg (pe_call NN (hr.mono (by decide)) (by rfl) G.gN G.N.kp G.bN .nil pass0 (pa_cons (pv 0) (pa_cons (pe_callB (call_min2 rfl) (by rfl) G.m_min (by decide +kernel) (pa_cons (pv 2) (pa_cons pe_int pa_nil))) pa_nil))) (pg_sub (pv 7) (pv 12) (set_N hu64)))) pss_nil)
          (pss_one (ps_expr (pe_bm PySem.F.plainAttrs_list PySem.F.slot_list_append PySem.F.type_list_append mt_append (pv 10) (pa_cons (pe_ifExp (pt_cmpR op_lt (pv 3) pe_int (nomark _)) (pe_op op_add (pv 9) (pe_getN hu64 (pv 7) (pv 12) (fun _ _ => rfl))) (pe_call NN (hr.mono (by decide)) (by rfl) G.gN G.N.kp G.bN .nil pass0 (pa_cons (pv 0) (pa_cons (pv 2) pa_nil)))) pa_nil)))))))
        (pss_one (ps_dput hu (pv 4) (pv 8) (pe_callTy call_tup (by rfl) G.m_tuple (by decide +kernel) (pa_cons (pv 10) pa_nil)) rfl)))))
      )
      (pss_cut (ps_if (pt_cmpR op_eq (pv 3) pe_int (nomark _))
        (pss_cons (ps_par (i := 13) (j := 11) (by rfl) nd rfl rfl (by decide) rfl rfl (pa_cons (pe_call (ok_one B.O B.T B.bT B.gT B.ml B.mi) (hr.mono (by decide)) (by rfl) B.gO B.O.kp B.bO .nil pass0 (pa_cons (pv 0) (pa_cons (pv 5) pa_nil))) (pa_cons (pe_call T (hr.mono (by decide)) (by rfl) B.gT B.T.kp B.bT .nil pass0 (pa_cons (pv 0) (pa_cons (pv 6) pa_nil))) pa_nil)) (by rfl))
        (pss_cons (ps_set (i := 10) nd rfl (Or.inl rfl) (pe_callTy call_list_of (by rfl) G.m_list (by decide +kernel) (pa_cons (pe_dget hu (pv 4) (pv 13) (fun _ _ => rfl)) pa_nil)))
        (pss_cons (ps_asg (pe_op op_add (pe_ix ix_list (pv 10) (pv 11) (fun _ _ => rfl)) (pe_ix ix_list (pe_lst (pa_cons pe_int (pa_cons (pe_un un_neg pe_int) (pa_cons pe_int pa_nil)))) (pe_call T (hr.mono (by decide)) (by rfl) B.gT B.T.kp B.bT .nil pass0 (pa_cons (pv 0) (pa_cons pe_int pa_nil))) (fun _ _ => rfl))) (pg_sub (pv 10) (pv 11) set_list))
        (pss_one (ps_dput hu (pv 4) (pv 13) (pe_callTy call_tup (by rfl) G.m_tuple (by decide +kernel) (pa_cons (pv 10) pa_nil)) rfl))))) pss_nil)
      (pss_one (ps_ret (pe_ifExp (pt_cmpR op_eq (pe_call T (hr.mono (by decide)) (by rfl) B.gT B.T.kp B.bT .nil pass0 (pa_cons (pv 0) (pa_cons pe_int pa_nil))) pe_int (nomark _)) (pv 4)
        (pe_callTy (call_dictT rfl hu64) (by rfl) G.m_dict (by decide +kernel) (pa_cons (pe_revL (pe_callTy (call_list_itemsT rfl) (by rfl) G.m_list (by decide +kernel) (pa_cons (pe_bm0 PySem.F.plainAttrs_dict PySem.F.slot_dict_items PySem.F.type_dict_items L2.DX.mt_itemsT (pv 4)) pa_nil))) pa_nil)))))))), ?_⟩
    refine ⟨_, rfl, b, k, ns, _, rfl, B0, by decide, by decide, fun H1 d1 kb1 B1 d1a d1b => ?_⟩
    refine ⟨_, rfl, b, k, ns, _, rfl, B1, by decide, by decide, fun H2 d2 kb2 B2 d2a d2b => ?_⟩
    refine fun g ng2 => ⟨_, _, _, rfl, ?_⟩
    have s3 := same_upd (o := .dT []) ng2
    have kb02 := kb1.trans kb2
    have hW2 := (hW0.but B0 ok.w1 kb02).same s3
    obtain ⟨kw, hkw, pkw⟩ := id hW2
    have hkwl : kw.length = W.length := (Paired.length pkw).symm
    refine ⟨_, rfl, d, W, rfl, hW2.at, ok, fun H4 ps vs s4 nps h4 t4 => ?_⟩
    refine ⟨_, rfl, d, kw, rfl, s4 _ _ hkw, ?_⟩
    refine fun X nX => ⟨_, _, _, rfl, ?_⟩
    have s5 := same_upd (o := rawD X #[] 0) nX
    have ngH : H g = none := but_free kb02 B2 ng2
    have npH : H ps = none := by
      have := s3.free nps
      exact but_free kb02 B2 this
    have nXH : H X = none := by
      have h1 := s4.free nX
      exact but_free kb02 B2 (s3.free h1)
    have sok := ok.sok
    have hn4 := ok.n4
    have hn1 := ok.n1
    have G0 : GSt P w H (upd H4 X (rawD X #[] 0)) b k ns g ps X vs (stds (sh W)) [] [] [] :=
      ⟨ngH, npH, nXH, abag_ne B0, kb02.trans (But.of (s3.trans (s4.trans s5))), B2.same (s3.trans (s4.trans s5)), s5 _ _ (s4 _ _ upd_same), .nil, nd_new, s5 _ _ h4, t4.same s5⟩
    have hfew := sok.few
    have hsv : (stds (sh W)).length = vs.length := Paired.length t4
    rw [hkwl]
    generalize hst : stds (sh W) = sts at *
    refine ⟨_, rfl, ps, rfl, ⟨_, SqL.of G0.hp⟩, for_it (walk_list (K := K) (a := ps) (xs := vs)) (fun i σ H' => ∃ es kvs ks v8 v9 v10 v11 v12, σ = [some (.ref b), some (.ref d), some (.int d1), some (.int d2), some (.ref g), some (.ref ps), some (.int (W.length : Int)), some (.ref X), v8, v9, v10, v11, v12, none] ∧
      GSt P w H H' b k ns g ps X vs sts kvs es ks ∧ RowsOk GainLo es (sts.take i) W.length ∧ ks.length ≤ 4 * i) ⟨[], [], [], none, none, none, none, none, rfl, G0, ⟨rfl, (fun _ h => nomatch h), (fun _ h => nomatch h)⟩, Nat.le_refl _⟩ (fun i σ H' _ ⟨_, _, _, _, _, _, _, _, _, G', _⟩ => SqL.of G'.hp) ?_ ?_⟩
    · rintro i x σ H5 H6 hi ⟨es, kvs, ks, v8, v9, v10, v11, v12, rfl, G6, hes, hks⟩ ⟨rfl, hx⟩
      obtain ⟨st, hsti, a, rfl, ha⟩ := paired_get G6.ht hx
      have hstm : st ∈ sts := List.mem_of_getElem? hsti
      have hstl : st.length = W.length := by
        rw [← hst] at hstm
        rw [stds_mem hstm, sh_len]
      refine ⟨_, rfl, _, rfl, d1, 2, rfl, b, k, ns, _, rfl, G6.B, fun H7 lev kb7 B7 levok => ?_⟩
      have G7 := G6.but kb7 B7
      refine ⟨(by show 0 ≤ sizeLine; decide), fun Tl nT => ?_⟩
      have sT := same_upd (o := .lst []) nT
      have G8 := G7.same sT
      have hTb : Tl ≠ b := abag_not B7 nT
      have hTk : Tl ≠ k := fun z => by rw [z, abag_k B7] at nT; cases nT
      have hTp : Tl ≠ ps := fun z => by rw [z, G7.hp] at nT; cases nT
      have hTH : H Tl = none := but_free G7.kb G7.B nT
      have ha7 : (upd H7 Tl (.lst [])) a = some (.tup (st.map V.str)) := by
        refine sT _ _ (kb7 _ _ ha fun z => ?_)
        obtain ⟨ys, e⟩ := abag_ne G6.B
        rw [z, e] at ha
        cases ha
      refine ⟨_, rfl, W.length, rfl, by omega, by omega, for_range (lo := 0) (n := W.length) (fun j σ H' => ∃ zs ks2 u11 u12, σ = [some (.ref b), some (.ref d), some (.int d1), some (.int d2), some (.ref g), some (.ref ps), some (.int (W.length : Int)), some (.ref X), some (.ref a), some (.int lev), some (.ref Tl), u11, u12, none] ∧
        GSt P w H H' b k ns g ps X vs sts kvs es ks2 ∧ ks2.length ≤ 4 * i + j ∧ H' Tl = some (.lst (zs.map V.int)) ∧ zs.length = j ∧ (∀ z ∈ zs, GainLo z) ∧ H' a = some (.tup (st.map V.str))) ⟨[], ks, v11, v12, rfl, G8, by omega, upd_same, rfl, (fun _ h => nomatch h), ha7⟩ ?_ ?_⟩
      · rintro j σ H9 hj ⟨zs, ks2, u11, u12, rfl, G9, hk2, hT9, hzl, hzo, ha9⟩
        rw [Int.zero_add]
        refine ⟨_, rfl, _, rfl, _, rfl, (j : Int), rfl, a, _, rfl, ha9, fun Ha pa sa hpa => ?_⟩
        rw [cut_to] at hpa
        refine ⟨_, rfl, _, rfl, _, _, rfl, rfl, ((j + 1 : Nat) : Int), rfl, a, _, rfl, sa _ _ ha9, fun Hb pb sb hpb => ?_⟩
        rw [cut_from] at hpb
        refine ⟨pa, pb, _, _, rfl, rfl, sb _ _ hpa, hpb, ?_, fun Hc pc sc hpc => ?_⟩
        · rw [List.length_take, List.length_drop, List.length_map]
          omega
        refine ⟨(by show 2 ≤ sizeLine; decide), fun L nL => ?_⟩
        have sL := same_upd (o := .tup [.int (j : Int), .ref pc]) nL
        have s9L := sa.trans (sb.trans (sc.trans sL))
        have GL := G9.same s9L
        have hline : LineAt (upd Hc L (.tup [.int (j : Int), .ref pc])) L ((j : Int), st.take j ++ st.drop (j + 1)) := ⟨pc, upd_same, by rw [sL _ _ hpc, List.map_append, List.map_take, List.map_drop]⟩
        have hTL := s9L _ _ hT9
        have haL := s9L _ _ ha9
        generalize (upd Hc L (.tup [.int (j : Int), .ref pc])) = HL at *
        refine ⟨fun σ' H' => ∃ ks3, σ' = [some (.ref b), some (.ref d), some (.int d1), some (.int d2), some (.ref g), some (.ref ps), some (.int (W.length : Int)), some (.ref X), some (.ref a), some (.int lev), some (.ref Tl), some (.int (j : Int)), some (.ref L), none] ∧
          GSt P w H H' b k ns g ps X vs sts kvs es ks3 ∧ ks3.length ≤ 4 * i + (j + 1) ∧ ((j : Int), st.take j ++ st.drop (j + 1)) ∈ ks3 ∧ LineAt H' L ((j : Int), st.take j ++ st.drop (j + 1)) ∧ H' Tl = some (.lst (zs.map V.int)) ∧ H' a = some (.tup (st.map V.str)), ?_, ?_⟩
        · have hi256 : i < 256 := by omega
          have tb : ∀ {Hx Hy : Hp}, But b Hx Hy → (∃ xs, Hx b = some (.lst xs)) → ∀ c ys, Hx c = some (.tup ys) → Hy c = some (.tup ys) := fun kb ⟨xs, hb⟩ c ys e => kb _ _ e (fun z => by rw [z, hb] at e; cases e)
          refine ⟨_, rfl, _, rfl, L, X, _, ks2, rfl, rfl, hline, GL.nX, _, rfl, ?_⟩
          by_cases hin : ((j : Int), st.take j ++ st.drop (j + 1)) ∈ ks2
          · rw [decide_eq_true hin]
            exact iteF ⟨ks2, rfl, GL, by omega, hin, hline, hTL, haL⟩
          · rw [decide_eq_false hin]
            refine iteT ⟨_, rfl, _, rfl, d1, 2, rfl, b, k, ns, _, rfl, GL.B, fun HN z kbN BN zok => ?_⟩
            have GN' := GL.but kbN BN
            have tN := tb kbN (abag_ne GL.B)
            refine ⟨_, rfl, _, rfl, L, X, _, ks2, z, rfl, rfl, rfl, hline.same tN, GN'.nX, hin, by omega, zok, fun HS s' n' nd' => ?_⟩
            obtain ⟨esX, ep, xs0, eX, _⟩ := id GN'.nX
            have tS : ∀ c ys, HN c = some (.tup ys) → HS c = some (.tup ys) := fun c ys e => s' _ _ (ne_of e eX (by intro z; cases z)) e
            have hTN := kbN _ _ hTL hTb
            exact ⟨ks2 ++ [((j : Int), st.take j ++ st.drop (j + 1))], rfl, GN'.setX s' nd', by rw [List.length_append, List.length_singleton]; omega, List.mem_append_right _ (List.mem_singleton.mpr rfl), (hline.same tN).same tS, s' _ _ (ne_of hTN eX (by intro z; cases z)) hTN, tS _ _ (tN _ _ haL)⟩
        · rintro σ' HM ⟨ks3, rfl, GM, hk3, hin, hlM, hTM, haM⟩
          refine ⟨_, rfl, .inl ⟨rfl, _, SqL.of hTM⟩, ?_⟩
          have fin : ∀ (HF : Hp) (z : Int), GSt P w H HF b k ns g ps X vs sts kvs es ks3 → HF Tl = some (.lst (zs.map V.int)) → HF a = some (.tup (st.map V.str)) → GainLo z →
              ∃ l xs y, V.ref Tl = .ref l ∧ [V.int z] = [y] ∧ HF l = some (.lst xs) ∧ xs.length < sizeLine ∧ ∃ (zs' : List Int) (ks2 : List Line) (u11 u12 : Option V), [some (V.ref b), some (.ref d), some (.int d1), some (.int d2), some (.ref g), some (.ref ps), some (.int (W.length : Int)), some (.ref X), some (.ref a), some (.int lev), some (.ref Tl), some (.int (j : Int)), some (.ref L), none] = [some (V.ref b), some (.ref d), some (.int d1), some (.int d2), some (.ref g), some (.ref ps), some (.int (W.length : Int)), some (.ref X), some (.ref a), some (.int lev), some (.ref Tl), u11, u12, none] ∧
                GSt P w H (upd HF l (.lst (xs ++ [y]))) b k ns g ps X vs sts kvs es ks2 ∧ ks2.length ≤ 4 * i + (j + 1) ∧ (upd HF l (.lst (xs ++ [y]))) Tl = some (.lst (zs'.map V.int)) ∧ zs'.length = j + 1 ∧ (∀ z ∈ zs', GainLo z) ∧ (upd HF l (.lst (xs ++ [y]))) a = some (.tup (st.map V.str)) := fun HF z GF hTF haF hz => by
            refine ⟨Tl, _, _, rfl, rfl, hTF, small1000 (by rw [List.length_map]; omega), zs ++ [z], ks3, _, _, rfl, GF.list hTF hTb hTk hTp hTH, hk3, by rw [upd_same, List.map_append]; rfl, by rw [List.length_append, hzl]; rfl, fun y hy => ?_, ?_⟩
            · rcases List.mem_append.mp hy with hy | hy
              · exact hzo y hy
              · rw [List.mem_singleton.mp hy]
                exact hz
            · rw [upd_ne (ne_of haF hTF (by intro z; cases z))]
              exact haF
          refine ⟨_, rfl, _, _, rfl, rfl, _, rfl, ?_⟩
          obtain ⟨lv1, lv2⟩ := levok
          cases decide (d2 < 3) with
          | true =>
            refine iteT ⟨_, rfl, _, rfl, _, rfl, L, X, _, ks3, rfl, rfl, hlM, GM.nX, hin, fun z zok => ⟨_, _, rfl, rfl, fin HM (lev + z) GM hTM haM ?_⟩⟩
            obtain ⟨z1, z2⟩ := zok
            exact ⟨by omega, by omega⟩
          | false =>
            refine iteF ⟨_, rfl, _, rfl, b, k, ns, d1, rfl, GM.B, fun HN z kbN BN zok => fin HN z (GM.but kbN BN) (kbN _ _ hTM hTb) (kbN _ _ haM fun z => ?_) ?_⟩
            · obtain ⟨ys, e⟩ := abag_ne GM.B
              rw [z, e] at haM
              cases haM
            · obtain ⟨z1, z2⟩ := zok
              exact ⟨by omega, by omega⟩
      · rintro σ H9 ⟨zs, ks2, u11, u12, rfl, G9, hk2, hT9, hzl, hzo, ha9⟩
        have hzl : zs.length = W.length := by simpa using hzl
        have hk2 : ks2.length ≤ 4 * i + W.length := by simpa using hk2
        refine ⟨_, rfl, Tl, _, rfl, .inl ⟨SqL.of hT9, fun pt npt => ?_⟩⟩
        have spt := same_upd (o := .tup (zs.map V.int)) npt
        have Gt := G9.same spt
        have hel : es.length = i := by
          have := congrArg List.length hes.ks
          rw [List.length_map, List.length_take] at this
          omega
        have hkl : kvs.length = i := by rw [← Paired.length Gt.he, hel]
        refine ⟨_, rfl, _, rfl, g, _, rfl, DPut.t (k := kS st) Gt.hg (by rw [kS_v]; exact spt _ _ ha9) (small1000 (by omega)), ?_⟩
        have keys : kvs.map (·.1) = (es.map (·.1)).map kS := by
          have hq := Gt.he
          clear hkl hel
          generalize (upd H9 pt (.tup (zs.map V.int))) = HT at hq
          clear G6 hes hks G7 G8 G9 Gt
          induction hq with
          | nil => rfl
          | cons r _ ih => rw [List.map_cons, List.map_cons, List.map_cons, ih, r.1]
        have hnew : kS st ∉ kvs.map (·.1) := by
          rw [keys, hes.ks]
          intro hm
          obtain ⟨y, hy, ey⟩ := List.mem_map.mp hm
          have ey' : y = st := by
            have := congrArg (List.map kV) ey
            rw [kS_v, kS_v] at this
            exact List.map_inj_right (fun _ _ h => V.str.inj h) |>.mp this
          rw [ey'] at hy
          exact not_take (by rw [← hst]; exact stds_nd sok.wd) hsti hy
        rw [putK_new hnew]
        refine ⟨es ++ [(st, zs)], _, ks2, _, _, _, _, _, rfl, Gt.setG (paired_append Gt.he (.cons ⟨rfl, pt, rfl, upd_same⟩ .nil)), ⟨?_, ?_, ?_⟩, by omega⟩
        · rw [List.map_append, hes.ks, List.take_add_one, hsti]
          rfl
        · intro e he
          rcases List.mem_append.mp he with he | he
          · exact hes.len e he
          · rw [List.mem_singleton.mp he]
            exact hzl
        · intro e he
          rcases List.mem_append.mp he with he | he
          · exact hes.ok e he
          · rw [List.mem_singleton.mp he]
            exact hzo
    · rintro σ H6 ⟨es, kvs, ks, v8, v9, v10, v11, v12, rfl, G6, hes, hks⟩
      rw [← hsv, List.take_length] at hes
      have snd : sts.Nodup := by rw [← hst]; exact stds_nd sok.wd
      have sne : 1 ≤ sts.length := by rw [← hst]; exact stds_ne sok
      refine ⟨fun σ' H' => ∃ es kvs ks v8 v9 v10 v11 v12 v13, σ' = [some (.ref b), some (.ref d), some (.int d1), some (.int d2), some (.ref g), some (.ref ps), some (.int (W.length : Int)), some (.ref X), v8, v9, v10, v11, v12, v13] ∧ GSt P w H H' b k ns g ps X vs sts kvs es ks ∧ RowsOk GainOk es sts W.length, ?_, ?_⟩
      · refine ⟨_, rfl, rfl, _, rfl, ite2 (fun _ => ?_) (fun _ => ⟨es, kvs, ks, _, _, _, _, _, _, rfl, G6, ⟨hes.ks, hes.len, fun e he z hz => (hes.ok e he z hz).ok⟩⟩)⟩
        refine ⟨_, rfl, _, rfl, b, k, ps, ns, vs, rfl, G6.B, SqL.of G6.hp, G6.off G6.np, ?_, by omega, fun H7 x kb7 B7 hx => ?_⟩
        · intro z
          rw [z] at hsv
          rw [List.length_nil] at hsv
          omega
        have G7 := G6.but kb7 B7
        refine ⟨_, rfl, _, rfl, b, k, ns, _, rfl, B7, by omega, by omega, fun H8 at8 kb8 B8 a0 a1 => ⟨_, _, rfl, ?_⟩⟩
        have G8 := G7.but kb8 B8
        obtain ⟨j, hj⟩ := List.mem_iff_getElem?.mp hx
        obtain ⟨st, hsti, a, rfl, ha⟩ := paired_get G8.ht hj
        have hstm : st ∈ es.map (·.1) := by rw [hes.ks]; exact List.mem_of_getElem? hsti
        obtain ⟨e, hee, he1, pa, hv, hpa⟩ := row_at G8.he hstm
        refine ⟨_, rfl, _, rfl, g, _, rfl, (by rw [← hv]; exact DGet.t (k := kS st) G8.hg (by rw [kS_v]; exact ha)), pa, _, rfl, .inr (SqT.of hpa), fun Tl nT => ?_⟩
        have sT := same_upd (o := .lst (e.2.map V.int)) nT
        have G9 := G8.same sT
        have hTb : Tl ≠ b := abag_not B8 nT
        have hTk : Tl ≠ k := fun z => by rw [z, abag_k B8] at nT; cases nT
        have hTp : Tl ≠ ps := fun z => by rw [z, G8.hp] at nT; cases nT
        have hTH : H Tl = none := but_free G8.kb G8.B nT
        have hT9 : (upd H8 Tl (.lst (e.2.map V.int))) Tl = some (.lst (e.2.map V.int)) := upd_same
        have ha9 := sT _ _ ha
        generalize (upd H8 Tl (.lst (e.2.map V.int))) = H9 at *
        have hal : at8.toNat < e.2.length := by
          rw [hes.len e hee]
          omega
        refine ⟨_, rfl, _, rfl, Tl, _, at8, .int e.2[at8.toNat], rfl, rfl, SqL.of hT9, at_of (j := at8.toNat) (by omega) (by rw [List.getElem?_map, List.getElem?_eq_getElem hal]; rfl), ?_⟩
        refine ⟨_, rfl, (by show 3 ≤ sizeLine; decide), fun p3 n3 => ?_⟩
        generalize hxs : [V.int 1, V.int (-1), V.int 7] = xs3
        have s3' := same_upd (o := .lst xs3) n3
        have G10 := G9.same s3'
        refine ⟨_, rfl, b, k, ns, _, rfl, G10.B, by decide, by decide, fun H11 d9 kb11 B11 c0 c1 => ?_⟩
        have G11 := G10.but kb11 B11
        have hxl : xs3.length = 3 := by rw [← hxs]; rfl
        have hxi : ∀ x ∈ xs3, ∃ z, x = V.int z ∧ -1 ≤ z ∧ z ≤ 7 := by
          subst hxs
          intro x hx
          simp only [List.mem_cons, List.not_mem_nil, or_false] at hx
          rcases hx with rfl | rfl | rfl <;> exact ⟨_, rfl, by decide, by decide⟩
        have hj3 : d9.toNat < xs3.length := by omega
        obtain ⟨z3, hz3, z3a, z3b⟩ := hxi xs3[d9.toNat] (List.getElem_mem hj3)
        have h3b : p3 ≠ b := abag_not G9.B n3
        have hT11 := kb11 _ _ (s3' _ _ hT9) hTb
        have ha11 := kb11 _ _ (s3' _ _ ha9) (fun z => by
          obtain ⟨ys, e⟩ := abag_ne G9.B
          rw [z, e] at ha9
          cases ha9)
        refine ⟨p3, xs3, d9, .int z3, rfl, rfl, SqL.of (kb11 _ _ upd_same h3b), at_of (j := d9.toNat) (by omega) (by rw [List.getElem?_eq_getElem hj3, hz3]), _, _, rfl, rfl, ?_⟩
        refine ⟨_, rfl, _, rfl, Tl, _, at8, at8.toNat, rfl, rfl, hT11, ?_, ?_⟩
        · rw [List.length_map]
          unfold ixN
          rw [if_pos a0, if_pos (by omega)]
        have hrow : (e.2.map V.int).set at8.toNat (.int (e.2[at8.toNat] + z3)) = (e.2.set at8.toNat (e.2[at8.toNat] + z3)).map V.int := by rw [List.map_set]
        rw [hrow]
        have G12 := G11.list (o := .lst ((e.2.set at8.toNat (e.2[at8.toNat] + z3)).map V.int)) hT11 hTb hTk hTp hTH
        have hT12 : (upd H11 Tl (.lst ((e.2.set at8.toNat (e.2[at8.toNat] + z3)).map V.int))) Tl = some (.lst ((e.2.set at8.toNat (e.2[at8.toNat] + z3)).map V.int)) := upd_same
        have ha12 : (upd H11 Tl (.lst ((e.2.set at8.toNat (e.2[at8.toNat] + z3)).map V.int))) a = some (.tup (st.map V.str)) := by
          rw [upd_ne (ne_of ha11 hT11 (by intro z; cases z))]
          exact ha11
        generalize (upd H11 Tl (.lst ((e.2.set at8.toNat (e.2[at8.toNat] + z3)).map V.int))) = H12 at *
        refine ⟨_, rfl, Tl, _, rfl, .inl ⟨SqL.of hT12, fun pt npt => ?_⟩⟩
        have spt := same_upd (o := .tup ((e.2.set at8.toNat (e.2[at8.toNat] + z3)).map V.int)) npt
        have G13 := G12.same spt
        have hkl : kvs.length ≤ 256 := by
          rw [← Paired.length G13.he]
          have := congrArg List.length hes.ks
          rw [List.length_map] at this
          omega
        refine ⟨_, rfl, _, rfl, g, _, rfl, DPut.t (k := kS st) G13.hg (by rw [kS_v]; exact spt _ _ ha12) (small1000 (by omega)), ?_⟩
        refine ⟨setRow es st (e.2.set at8.toNat (e.2[at8.toNat] + z3)), _, ks, _, _, _, _, _, _, rfl, G13.setG (setRow_paired G13.he hstm upd_same), ⟨by rw [setRow_keys]; exact hes.ks, fun e' he' => ?_, fun e' he' z hz => ?_⟩⟩
        · rcases setRow_mem he' with h1 | h1
          · exact hes.len e' h1
          · rw [h1, List.length_set]
            exact hes.len e hee
        · rcases setRow_mem he' with h1 | h1
          · exact (hes.ok e' h1 z hz).ok
          · rw [h1] at hz
            rcases List.mem_or_eq_of_mem_set hz with h2 | h2
            · exact (hes.ok e hee z h2).ok
            · obtain ⟨b1, b2⟩ := hes.ok e hee e.2[at8.toNat] (List.getElem_mem hal)
              rw [h2]
              exact ⟨by omega, by omega⟩
      · rintro σ' HF ⟨es, kvs, ks, v8, v9, v10, v11, v12, v13, rfl, GF, hes⟩
        refine ⟨_, rfl, b, k, ns, _, rfl, GF.B, by decide, by decide, fun HE de kbE BE e0 e1 => ⟨rfl, _, rfl, ?_⟩⟩
        have GE := GF.but kbE BE
        have hkl : kvs.length ≤ 256 := by
          rw [← Paired.length GE.he]
          have := congrArg List.length hes.ks
          rw [List.length_map] at this
          omega
        cases decide (V.int de = V.int 0) with
        | true => exact iteT ⟨_, rfl, q HE g kvs es sts GE.kb GE.B ngH GE.hg GE.he (List.Perm.refl _) hes⟩
        | false =>
          refine iteF ⟨_, rfl, .inr (.inr (.inl ⟨rfl, .inr ⟨kvs, GE.hg⟩⟩)), g, kvs, rfl, rfl, GE.hg, fun pv npv => ?_⟩
          have spv := same_upd (o := L2.DX.itemsO pv g) npv
          have G1 := GE.same spv
          refine ⟨pv, g, kvs, rfl, upd_same, G1.hg, by omega, fun H2 l prs s2 nl hl hpr => ?_⟩
          have G2 := G1.same s2
          refine ⟨l, _, rfl, SqL.of hl, fun p2 np2 => ?_⟩
          have s3' := same_upd (o := .lst (prs.map V.ref).reverse) np2
          have G3 := G2.same s3'
          refine ⟨p2, prs.reverse, kvs.reverse, rfl, by rw [upd_same, List.map_reverse], paired_rev (paired_imp hpr fun kv pr ⟨b', h1, h2⟩ => ⟨b', s3' _ _ (s2 _ _ h1), s3' _ _ h2⟩), ?_, by rw [List.length_reverse]; omega, fun gd ngd => ?_⟩
          · rw [List.map_reverse, KvE.keys GE.he, hes.ks]
            exact (List.reverse_perm _).nodup_iff.mpr (kS_nd snd)
          · have s4' := same_upd (o := .dT kvs.reverse) ngd
            have G4 := G3.same s4'
            exact q _ gd kvs.reverse es.reverse sts.reverse G4.kb G4.B (but_free G3.kb G3.B ngd) upd_same (paired_rev G4.he) (List.reverse_perm _) hes.rev
end
end HG

namespace HG
open PySem PySem.Spec PyProof.Rows L2
/-! ### d.values(), list of it, d.clear(), keys of either kind -/
def valsO (p d : Addr) : HO := .ext fun h => h.IsValuesView p d
theorem valsO_ok {P : Program} {w : World} {H : Hp} {h : Heap} {p d : Addr} (e : h.get? p = some { cls := .type "dict_values", data := .fields #[.ref d] }) : ObjOk P w H h p (valsO p d) :=
  ⟨⟨_, e, rfl, rfl⟩, ⟨_, e⟩, fun h1 h2 x k => let ⟨o, ho, r⟩ := x; ⟨o, k o ho, r⟩⟩
/-- a dict of either kind, its values -/
def DVal (H : Hp) (a : Addr) (xs : List V) : Prop := (∃ kvs, H a = some (.dK kvs) ∧ xs = kvs.map (·.2)) ∨ ∃ kvs, H a = some (.dT kvs) ∧ xs = kvs.map (·.2)
theorem DVal.same {H H' : Hp} {a : Addr} {xs : List V} (h : DVal H a xs) (s : Same H H') : DVal H' a xs := h.imp (fun ⟨k, e, q⟩ => ⟨k, s _ _ e, q⟩) (fun ⟨k, e, q⟩ => ⟨k, s _ _ e, q⟩)
section
variable {X : Cx} {pins : List (Addr × Obj)} {σ : L2.St} {H : Hp} {s : Shared} {a : Addr} {xs : List V}
theorem dval_raw (I : Inv X pins σ H s) (h : DVal H a xs) : (a == sysModules) = false ∧ xs.length ≤ sizeLine ∧ ∃ es ep, s.heap.DictRaw a es ep ∧ es.size = xs.length ∧ ∀ (i : Nat) x, xs[i]? = some x → ∃ e, es[i]? = some e ∧ RelV x e.val := by
  rcases h with ⟨kvs, e, rfl⟩ | ⟨kvs, e, rfl⟩
  · obtain ⟨z, hd, vs, rel, dd⟩ := dk_of I.hok e
    obtain ⟨es, ep, raw, hs, hi⟩ := dd.raw
    have hl : kvs.length = vs.length := rel.length
    refine ⟨hd, by rw [List.length_map]; exact z, es, ep, raw, by rw [hs, List.length_map, hl], fun i x hx => ?_⟩
    have hil : i < kvs.length := by
      have := (List.getElem?_eq_some_iff.mp hx).1
      rwa [List.length_map] at this
    rw [List.getElem?_map] at hx
    obtain ⟨kv, hkv, rfl⟩ := Option.map_eq_some_iff.mp hx
    have hie : i < es.size := by omega
    obtain ⟨y, hy⟩ : ∃ y, vs[i]? = some y := ⟨vs[i]'(by omega), List.getElem?_eq_getElem (by omega)⟩
    unfold KV at rel
    obtain ⟨kv', hkv', r1, r2⟩ := paired_get rel hy
    cases hkv'.symm.trans hkv
    refine ⟨es[i], Array.getElem?_eq_getElem hie, ?_⟩
    rw [(hi i hie y.1 y.2 hy).2]
    exact r2
  · obtain ⟨z, hd, rs, rel, dd⟩ := dt_of I.hok e
    obtain ⟨es, ep, raw, hs, hi⟩ := dd.raw
    have hl : kvs.length = rs.length := Paired.length rel
    refine ⟨hd, by rw [List.length_map]; exact z, es, ep, raw, by rw [hs, List.length_map, hl], fun i x hx => ?_⟩
    rw [List.getElem?_map] at hx
    obtain ⟨kv, hkv, rfl⟩ := Option.map_eq_some_iff.mp hx
    have hil : i < kvs.length := (List.getElem?_eq_some_iff.mp hkv).1
    have hie : i < es.size := by omega
    obtain ⟨y, hy, _, h2, _⟩ := hi i hie
    obtain ⟨kv', hkv', r1, r2, r3⟩ := paired_get rel hy
    cases hkv'.symm.trans hkv
    refine ⟨es[i], Array.getElem?_eq_getElem hie, ?_⟩
    rw [h2]
    exact r3
def rValues : V → List V → Hp → VK → Prop := fun x vs H Q => ∃ (a : Addr) (xs : List V), x = .ref a ∧ vs = [] ∧ DVal H a xs ∧ ∀ p, H p = none → Q (.ref p) (upd H p (valsO p a))
theorem mt_values : MtR X "dict.values" rValues := by
  intro pins s σ H x vs v us Q I rx rxs h
  obtain ⟨a, xs, rfl, rfl, ha, q⟩ := h
  cases rx
  cases rxs
  obtain ⟨hd, _, es, ep, raw, _⟩ := dval_raw I ha
  have hf : H s.heap.objs.size = none := I.hok.fresh (Nat.le_refl _)
  exact call_meetsIn PySem.F.slot_dict_values raw.typeIs PySem.F.entry_dict_values (PySem.F.args_dict_values_1 _) (meets_dict_values_raw a hd) ⟨⟨es, ep, raw⟩, .ref s.heap.objs.size, upd H s.heap.objs.size (valsO s.heap.objs.size a), I.laid (t' := s.toks) (fun b u e => Heap.get?_push_of_some _ e) (Nat.le_refl _) (valsO_ok (Heap.get?_push_size _ rfl)), rfl, q _ hf⟩
theorem raw_src {prog : Program} {w : World} {r d : Addr} {es : Array DictEntry} {ep : Nat} : PySem.W.KdlSrc prog w "dict_values" r d es.size (fun i v => ∃ hi : i < es.size, v = es[i].val) (fun h => h.IsValuesView r d ∧ h.DictRaw d es ep) where
  type := fun _ hm => hm.1.typeIs
  there := fun _ hm => ⟨let ⟨_, ho, _⟩ := hm.1; Heap.lt_size ho, let ⟨_, ho, _⟩ := hm.2; Heap.lt_size ho⟩
  keep := fun _ _ hm hk => ⟨let ⟨o, ho, x⟩ := hm.1; ⟨o, hk r (.inl rfl) o ho, x⟩, hm.2.at fun o e => hk d (.inr rfl) o e⟩
  notList := by decide
  notTuple := by decide
  hint := fun _ _ _ _ hm hq => PySem.W.kdl_hint_values hm.1.typeIs hq
  iter := fun _ _ hh hm => ⟨_, _, (fun _ _ hq => wpAny_pyIter_values_raw hm.1 hm.2 hq), Walks.rawValues hh _ d (let ⟨_, ho, _⟩ := hm.2; Nat.ne_of_lt (Heap.lt_size ho)) es ep, ⟨⟨_, Heap.get?_push_size _ rfl, rfl, rfl⟩, hm.2.at fun _ e => Heap.get?_push_of_some _ e⟩⟩
theorem vals_of : ∀ {xs : List V} {us : List Value}, us.length = xs.length → (∀ (j : Nat) x u, xs[j]? = some x → us[j]? = some u → RelV x u) → Vals xs us
  | [], [], _, _ => .nil
  | x :: r, u :: us, hl, all => .cons (all 0 x u rfl rfl) (vals_of (by simpa using hl) fun j x u hx hu => all (j + 1) x u (by simpa using hx) (by simpa using hu))
  | [], _ :: _, hl, _ => nomatch hl
  | _ :: _, [], hl, _ => nomatch hl
def rListVals : List V → Hp → VK → Prop := fun vs H Q => ∃ (p a : Addr) (xs : List V), vs = [.ref p] ∧ H p = some (valsO p a) ∧ DVal H a xs ∧ ∀ l, H l = none → Q (.ref l) (upd H l (.lst xs))
theorem call_list_vals (hc : X.calm = true) : CallR X (.type "list") rListVals := by
  intro pins s σ H xs us Q I rv h
  obtain ⟨p, a, xs, rfl, hp, ha, q⟩ := h
  obtain ⟨u, rfl, ru⟩ := rv.one
  cases ru
  refine callType_codes (Q₁ := fun obj s₁ => obj = .ref s.heap.objs.size ∧ s₁ = { s with heap := s.heap.push { cls := .type "list", data := .seq #[] } }) PySem.F.called_list (PySem.F.typeCall_list_1 _) PySem.F.entry_list_init
    (code_list_new _ ⟨rfl, rfl⟩) fun obj s₁ h₁ => ?_
  obtain ⟨rfl, rfl⟩ := h₁
  have hS : (s.heap.push { cls := .type "list", data := .seq #[] }).get? s.heap.objs.size = some { cls := .type "list", data := .seq #[] } := Heap.get?_push_size _ rfl
  refine ⟨⟨_, hS, rfl⟩, PySem.F.args_list_init_2 _ _, ?_⟩
  have fr : H s.heap.objs.size = none := I.hok.fresh (Nat.le_refl _)
  have I1 : Inv X pins σ (upd H s.heap.objs.size (.lst [])) { s with heap := s.heap.push { cls := .type "list", data := .seq #[] } } := I.lnew (its := []) (t' := s.toks) .nil (Nat.zero_le _)
  show wpAny _ _ (do let old ← Builtin.List.listItems (.ref s.heap.objs.size); Builtin.List.listUpdate (.ref s.heap.objs.size) (fun _ => #[]); letGo old.toList.reverse; Builtin.List.listExtendWith (.ref s.heap.objs.size) (.ref p) .none) _ _ _
  refine wpAny_bind ?_
  unfold Builtin.List.listItems
  refine wpAny_bind (wpAny_seqItems hS rfl (wpAny_pure ?_))
  show wpAny _ _ (updateSeq s.heap.objs.size (fun _ => #[]) >>= fun _ => letGo (#[] : Array Value).toList.reverse >>= fun _ => Builtin.List.listExtendWith (.ref s.heap.objs.size) (.ref p) .none) _ _ _
  refine wpAny_bind (wpAny_updateSeq hS rfl ?_)
  have I2 := I1.lset (f := fun _ => #[]) (its := []) (its' := []) (ys := []) (t' := s.toks) upd_same hS rfl .nil (Nat.zero_le _)
  rw [upd_upd] at I2
  refine wpAny_bind (wpAny_letGo ?_)
  generalize hSS : s.heap.objs.size = S at *
  generalize hsB : ({ s with heap := _ } : Shared) = sB at I2 ⊢
  have sS := same_upd (o := .lst []) fr
  have view : sB.heap.IsValuesView p a := (show ObjOk X.prog X.w _ sB.heap p (valsO p a) from I2.hok p _ (sS _ _ hp)).1
  obtain ⟨hd, hz, es, ep, raw, hes, hval⟩ := dval_raw I2 (ha.same sS)
  obtain ⟨z3, its, c0, r3, hl3, e3⟩ := I2.lstM upd_same
  cases r3
  have hSp : S ≠ p := fun z => by subst z; rw [hp] at fr; cases fr
  have hSa : S ≠ a := fun z => by
    subst z
    rcases ha with ⟨k, e, _⟩ | ⟨k, e, _⟩ <;> (rw [e] at fr; cases fr)
  refine PySem.W.kdl_extend (A := X.A.in1) (prog := X.prog) (w := X.w) (R := wants (fun r s₂ => r = .none ∧ EP X pins σ Q (.ref S) s₂) X.xe) (raw_src (es := es) (ep := ep)) (I.ok.hd hc) ⟨view, raw⟩ S hSp hSa .none c0 e3 (fun h' tk acc c hk hS' hit => ?_) (by rw [hes]; exact hz)
  have hvals : Vals xs acc.toList := by
    have hl : acc.toList.length = xs.length := by rw [Array.length_toList, hit.1, hes]
    have all : ∀ (j : Nat) x u, xs[j]? = some x → acc.toList[j]? = some u → RelV x u := fun j x u hx hu => by
      obtain ⟨e, he, r⟩ := hval j x hx
      obtain ⟨hj, rfl⟩ := hit.2 j u (by simpa using hu)
      rw [Array.getElem?_eq_getElem hj] at he
      cases he
      exact r
    exact vals_of hl all
  have I3 : Inv X pins σ (upd (upd H S (.lst [])) S (.lst xs)) { sB with heap := h', toks := tk } := by
    refine I2.write (x := S) (e := S) (by rw [upd_same]; exact True.intro) (.inl rfl) (fun b q hb z => hk b q hb z) ⟨_, hS'⟩ ?_
    exact ⟨hz, acc.toList, c, hvals, by simpa using hS'⟩
  rw [upd_upd] at I3
  exact ⟨rfl, .ref S, _, I3, rfl, q S fr⟩
end
end HG

namespace HG
open PySem PySem.Spec PyProof.Rows L2
open C8 (pss_cut tCut)
section
variable {X : Cx}
def rClearT : V → List V → Hp → VK → Prop := fun x vs H Q => ∃ (a : Addr) (kvs : List (List L2.Key × V)), x = .ref a ∧ vs = [] ∧ H a = some (.dT kvs) ∧ Q .non (upd H a (.dT []))
theorem mt_clearT : MtR X "dict.clear" rClearT := by
  intro pins s σ H x vs v us Q I rx rv h
  obtain ⟨a, kvs, rfl, rfl, e, q⟩ := h
  obtain rfl : v = Value.ref a := rx
  have hus := rv.zero
  subst hus
  obtain ⟨z, hd, xs, rel, dd⟩ := dt_of I.hok e
  have hx : xs.length ≤ sizeLine := by rw [← Paired.length rel]; exact z
  refine clear_keyed (knd := tupleKind (mixKind X.prog X.w)) (hsz := by rw [pairsH_length]; exact hx) ⟨xs, dd, rfl⟩ fun h' dk hs => ?_
  obtain ⟨ys, ⟨o, es, ep, ho, hxo, hdd, hee, _, hnn⟩, ey⟩ := dk
  have hy : ys = [] := by
    cases ys with
    | nil => rfl
    | cons _ _ => cases ey
  subst hy
  have new : ObjOk X.prog X.w (upd H a (.dT [])) h' a (.dT []) := ⟨Nat.zero_le _, hd, [], .nil, o, es, ep, ho, hxo, hdd, hee, hnn⟩
  exact ⟨.non, _, d_write I (by rw [e]; exact True.intro) hs ⟨o, ho⟩ new, rfl, q⟩
end
/-- what is emptied -/
def Emp (H : Hp) (d1 d2 : Addr) (xs : List V) (c : Addr) : Prop := c = d1 ∨ c = d2 ∨ (V.ref c ∈ xs ∧ ∃ ys, H c = some (.lst ys))
def spEmptied (K : PySem.W.Frag) : Sp := fun args H Q _ => ∃ (d1 d2 : Addr) (k1 : List (Key × V)) (k2 : List (List L2.Key × V)), args = [.ref d1, .ref d2] ∧ H d1 = some (.dK k1) ∧ H d2 = some (.dT k2) ∧ k1.length + k2.length ≤ 900 ∧
  (∀ x ∈ k1.map (·.2) ++ k2.map (·.2), ∃ c, x = .ref c ∧ ((∃ ys, H c = some (.lst ys)) ∨ ∃ ys, H c = some (.tup ys))) ∧
  ∀ H', (∀ c u, ¬ Emp H d1 d2 (k1.map (·.2) ++ k2.map (·.2)) c → H c = some u → H' c = some u) → Q .non H'
section
variable {P : Program} {w : World} {K : PySem.W.Frag} {mg : Str → Option Value} {base : Heap}
end
end HG

namespace HG
open PySem PySem.Spec PyProof.Rows L2
open C8 (pss_cut tCut)
theorem mergeK_new : ∀ (more kvs : List (Key × V)), ((kvs ++ more).map (·.1)).Nodup → mergeK kvs more = kvs ++ more
  | [], kvs, _ => by
    rw [List.append_nil]
    rfl
  | r :: more, kvs, h => by
    have hn : r.1 ∉ kvs.map (·.1) := by
      rw [List.map_append, List.nodup_append] at h
      exact fun hm => h.2.2 r.1 hm r.1 (List.mem_map.mpr ⟨r, List.mem_cons_self, rfl⟩) rfl
    have step : mergeK kvs (r :: more) = mergeK (putK kvs r.1 r.2) more := rfl
    rw [step, putK_new hn]
    have := mergeK_new more (kvs ++ [(r.1, r.2)]) (by rw [List.append_assoc]; exact h)
    rw [this, List.append_assoc]
    rfl
/-- handed in: a list, new, or a tuple -/
def Hnd (H0 H : Hp) (v : V) (xs : List V) : Prop := ∃ a, v = .ref a ∧ ((H0 a = none ∧ H a = some (.lst xs)) ∨ H a = some (.tup xs))

def ShW (W : List Way) (q : Way) : Prop := ∃ q0 ∈ W, q0.1 = q.1 ∧ q.2.Perm q0.2
def PrW (H0 H : Hp) (D : Addr) (q : Way) (pr : Addr) : Prop := ∃ a, H pr = some (.tup [.str q.1, .ref a]) ∧ H0 a = none ∧ a ≠ D ∧ H a = some (.lst (q.2.map V.str))
theorem pr_dict {K : PySem.W.Frag} {H0 H : Hp} {D : Addr} {W1 : List Way} {prs : List Addr} (h : Paired (PrW H0 H D) W1 prs) : ∃ k1 : List (Key × V), Paired (fun (q : Way) kv => kv.1 = Sum.inr q.1 ∧ ∃ a, kv.2 = .ref a ∧ H0 a = none ∧ H a = some (.lst (q.2.map V.str))) W1 k1 ∧ Paired (fun p (kv : Key × V) => SqT K H p [kV kv.1, kv.2]) prs k1 ∧ k1.map (·.1) = (W1.map (·.1)).map Sum.inr := by
  induction h with
  | nil => exact ⟨[], .nil, .nil, rfl⟩
  | @cons q pr qs prs r _ ih =>
    obtain ⟨k1, h1, h2, h3⟩ := ih
    obtain ⟨a, hp, n, _, ha⟩ := r
    exact ⟨(Sum.inr q.1, .ref a) :: k1, .cons ⟨rfl, a, rfl, n, ha⟩ h1, .cons (SqT.of hp) h2, by rw [List.map_cons, List.map_cons, List.map_cons, h3]⟩
def KvH (H0 H : Hp) (q : Way) (kv : Key × V) : Prop := kv.1 = Sum.inr q.1 ∧ Hnd H0 H kv.2 (q.2.map V.str)
def EvH (H0 H : Hp) (e : Row) (kv : List L2.Key × V) : Prop := kv.1 = kS e.1 ∧ Hnd H0 H kv.2 (e.2.map V.int)
theorem keysH {H0 H : Hp} {W1 : List Way} {k1 : List (Key × V)} (h : Paired (KvH H0 H) W1 k1) : k1.map (·.1) = (W1.map (·.1)).map Sum.inr := by
  induction h with
  | nil => rfl
  | cons r _ ih => rw [List.map_cons, List.map_cons, List.map_cons, ih, r.1]
theorem h_at {H0 H : Hp} : ∀ {W1 : List Way} {k1 : List (Key × V)} {z : Str}, Paired (KvH H0 H) W1 k1 → z ∈ W1.map (·.1) → ∃ q ∈ W1, q.1 = z ∧ ∃ v, valV k1 (Sum.inr z) = some v ∧ Hnd H0 H v (q.2.map V.str)
  | _, _, _, .nil, h => nomatch h
  | q :: r, kv :: k1, z, .cons p t, h => by
    obtain ⟨e1, hv⟩ := p
    by_cases hx : q.1 = z
    · subst hx
      exact ⟨q, List.mem_cons_self, rfl, kv.2, valV_pos e1, hv⟩
    · have hm : z ∈ r.map (·.1) := by
        rw [List.map_cons] at h
        rcases List.mem_cons.mp h with h | h
        · exact absurd h.symm hx
        · exact h
      obtain ⟨q', h1, h2, v, h3, h4⟩ := h_at t hm
      refine ⟨q', List.mem_cons_of_mem _ h1, h2, v, ?_, h4⟩
      rw [valV_neg (fun e' => hx (Sum.inr.inj (e1.symm.trans e')))]
      exact h3
theorem h_put {H0 H H' : Hp} {W1 : List Way} {k1 : List (Key × V)} {z : Str} {pt : Addr} {xs : List V} (h : Paired (KvH H0 H) W1 k1) (nd : (W1.map (·.1)).Nodup) (hm : z ∈ W1.map (·.1)) (hq : ∀ q ∈ W1, q.1 = z → xs = q.2.map V.str) (hpt : H' pt = some (.tup xs)) (keep : ∀ v ys, Hnd H0 H v ys → Hnd H0 H' v ys) : Paired (KvH H0 H') W1 (putK k1 (Sum.inr z) (.ref pt)) := by
  have hin : (k1.any fun kv => decide (kv.1 = Sum.inr z)) = true := by
    obtain ⟨_, _, _, v, hv, _⟩ := h_at h hm
    rw [valV_any, hv]
    rfl
  unfold putK
  rw [if_pos hin]
  clear hin hm
  induction h with
  | nil => exact .nil
  | @cons q kv qs k1 r t ih =>
    rw [List.map_cons]
    rw [List.map_cons, List.nodup_cons] at nd
    refine .cons ?_ (ih nd.2 fun q' hq' => hq q' (List.mem_cons_of_mem _ hq'))
    by_cases hx : q.1 = z
    · rw [if_pos (by rw [r.1, hx])]
      refine ⟨r.1, pt, rfl, .inr ?_⟩
      rw [hpt, hq q List.mem_cons_self hx]
    · rw [if_neg fun e => hx (Sum.inr.inj (r.1.symm.trans e))]
      exact ⟨r.1, keep _ _ r.2⟩
theorem Hnd.but {H0 H H' : Hp} {b : Addr} {v : V} {xs : List V} (h : Hnd H0 H v xs) (kb : But b H H') (hb0 : H0 b ≠ none) (hb : ∃ ys, H b = some (.lst ys)) : Hnd H0 H' v xs := by
  obtain ⟨a, rfl, h⟩ := h
  refine ⟨a, rfl, h.imp (fun ⟨n, h⟩ => ⟨n, kb _ _ h fun z => hb0 (z ▸ n)⟩) (fun h => kb _ _ h fun z => ?_)⟩
  obtain ⟨ys, e⟩ := hb
  rw [z, e] at h
  cases h
theorem unlockB {H H' : Hp} {b d : Addr} {u o : HO} (hd : H d = some u) (s : But b (upd H d o) H') : But b H (upd H' d u) := fun c x e hc => by
  by_cases h : c = d
  · subst h
    rw [upd_same]
    exact hd.symm.trans e
  · rw [upd_ne h]
    exact s c x (by rw [upd_ne h]; exact e) hc

theorem paired_perm {α β : Type} {R : α → β → Prop} {bs cs : List β} (p : cs.Perm bs) : ∀ {es : List α}, Paired R es bs → ∃ es', es'.Perm es ∧ Paired R es' cs := by
  induction p with
  | nil => exact fun {es} h => ⟨es, .refl _, h⟩
  | cons x p ih =>
    intro es h
    cases h with
    | cons r t =>
      obtain ⟨es', h1, h2⟩ := ih t
      exact ⟨_, h1.cons _, .cons r h2⟩
  | swap x y l =>
    intro es h
    cases h with
    | cons r t =>
      cases t with
      | cons r2 t2 => exact ⟨_, .swap _ _ _, .cons r2 (.cons r t2)⟩
  | trans p1 p2 ih1 ih2 =>
    intro es h
    obtain ⟨e1, h1, h2⟩ := ih2 h
    obtain ⟨e2, h3, h4⟩ := ih1 h2
    exact ⟨e2, h3.trans h1, h4⟩
theorem refs_of_perm {ys : List V} {bs : List Addr} (h : ys.Perm (bs.map V.ref)) : ∃ cs : List Addr, ys = cs.map V.ref ∧ cs.Perm bs := by
  have key : ∀ {xs ys : List V}, ys.Perm xs → ∀ zs : List Addr, xs = zs.map V.ref → ∃ ws : List Addr, ys = ws.map V.ref ∧ ws.Perm zs := by
    intro xs ys h
    induction h with
    | nil => exact fun zs e => ⟨[], rfl, by cases zs with | nil => exact .nil | cons a r => cases e⟩
    | cons x p ih =>
      intro zs e
      cases zs with
      | nil => cases e
      | cons a r =>
        rw [List.map_cons, List.cons.injEq] at e
        obtain ⟨ws, e1, p1⟩ := ih r e.2
        exact ⟨a :: ws, by rw [e1, e.1]; rfl, p1.cons a⟩
    | swap x y l =>
      intro zs e
      match zs, e with
      | a :: c :: r, e =>
        rw [List.map_cons, List.map_cons, List.cons.injEq, List.cons.injEq] at e
        exact ⟨c :: a :: r, by rw [e.1, e.2.1, e.2.2]; rfl, List.Perm.swap a c r⟩
    | trans p1 p2 ih1 ih2 =>
      intro zs e
      obtain ⟨ws, e1, q1⟩ := ih2 zs e
      obtain ⟨us, e2, q2⟩ := ih1 ws e1
      exact ⟨us, e2, q2.trans q1⟩
  exact key h bs rfl
theorem keys_row {H : Hp} {es : List Row} {kvs : List (List L2.Key × V)} {bs : List Addr} (h : Paired (KvE H) es kvs) : L2.IsKeys H kvs bs → Paired (fun (e : Row) c => H c = some (.tup (e.1.map V.str))) es bs := by
  unfold L2.IsKeys
  intro q
  induction h generalizing bs with
  | nil =>
    cases q
    exact .nil
  | cons r _ ih =>
    cases q with
    | cons a t =>
      refine .cons ?_ (ih t)
      rw [← kS_v, ← r.1]
      exact a
theorem Hnd.upd {H0 H : Hp} {d : Addr} {o u : HO} {v : V} {xs : List V} (h : Hnd H0 H v xs) (hd : H d = some u) (h1 : ∀ ys, u ≠ .lst ys) (h2 : ∀ ys, u ≠ .tup ys) : Hnd H0 (upd H d o) v xs := by
  obtain ⟨a, rfl, h⟩ := h
  refine ⟨a, rfl, h.imp (fun ⟨n, h⟩ => ⟨n, ?_⟩) (fun h => ?_)⟩
  · rw [upd_ne (ne_of h hd fun z => h2 _ z.symm)]
    exact h
  · rw [upd_ne (ne_of h hd fun z => h1 _ z.symm)]
    exact h
def spHanded : Sp := fun args H Q _ => ∃ (b k d g : Addr) (ns : List Int) (W : List Way) (kvs : List (List L2.Key × V)) (es : List Row) (sts : List (List Str)), args = [.ref b, .ref d, .ref g] ∧ ABag H b k ns ∧ ShL (fun _ => True) H d W ∧ WOk W ∧ H g = some (.dT kvs) ∧ Paired (KvE H) es kvs ∧ es.map (·.1) = sts ∧ sts.Nodup ∧ sts.length ≤ 256 ∧
  ∀ H' T d1 d2 W1 k1 k2 es2, But b H H' → ABag H' b k ns → H' T = some (.tup [.ref d1, .ref d2]) → H d1 = none → H d2 = none → d1 ≠ d2 → H' d1 = some (.dK k1) → Paired (fun (q : Way) kv => kv.1 = Sum.inr q.1 ∧ Hnd H H' kv.2 (q.2.map V.str)) W1 k1 → (W1.map (·.1)).Perm (W.map (·.1)) → (∀ q ∈ W1, ∃ q0 ∈ W, q0.1 = q.1 ∧ q.2.Perm q0.2) →
    H' d2 = some (.dT k2) → Paired (fun (e : Row) kv => kv.1 = kS e.1 ∧ Hnd H H' kv.2 (e.2.map V.int)) es2 k2 → es2.Perm es → Q (.ref T) H'
section
variable {P : Program} {w : World} {K : PySem.W.Frag} {mg : Str → Option Value} {base : Heap}
variable {fT fO fM : Addr} {dT dO dM : FuncData}
end
end HG

namespace HG
open PySem PySem.Spec PyProof.Rows L2 HT
section
variable {prog : Program} {w : World} {A : Around} {E : Value → Shared → Prop} {s : Shared}
theorem sliceApplied_rev {sl : Addr} {vk : Value} {n : Nat} {Q : Int × Int × Nat → Shared → Prop} (hs : s.heap.IsSliceOf sl .none .none vk) (pk : IsPart vk (some (-1)))
    (h : Q ((n : Int) - 1, -1, n) s) : wpAny (model prog w) A (Builtin.Slice.sliceApplied (.ref sl) (pure (n : Int))) Q E s := by
  obtain ⟨os, hos, hcs, hds⟩ := id hs
  unfold Builtin.Slice.sliceApplied Builtin.Slice.sliceFields
  refine wpAny_bind (wpAny_bind (wpAny_field hos hds (x := .none) rfl (wpAny_bind (wpAny_field hos hds (x := .none) rfl (wpAny_bind (wpAny_field hos hds (x := vk) rfl (wpAny_pure ?_)))))))
  refine wpAny_bind (slicePart_ pk ?_)
  show wpAny _ _ (if ((-1 : Int) == 0) = true then _ else _) _ _ s
  rw [if_neg (by decide)]
  refine wpAny_bind (slicePart_none (wpAny_bind (slicePart_none (wpAny_bind (wpAny_pure ?_)))))
  show wpAny _ _ (match Builtin.Slice.sliceAdjust none none (-1) (n : Int) with | (lo, hi) => pure (lo, (-1 : Int), Builtin.Slice.slicePlaces lo hi (-1))) _ _ s
  rw [show Builtin.Slice.sliceAdjust none none (-1) (n : Int) = ((n : Int) - 1, -1) from rfl]
  show wpAny _ _ (pure ((n : Int) - 1, (-1 : Int), Builtin.Slice.slicePlaces ((n : Int) - 1) (-1) (-1))) _ _ s
  have e : Builtin.Slice.slicePlaces ((n : Int) - 1) (-1) (-1) = n := by
    unfold Builtin.Slice.slicePlaces
    have h1 : ¬ ((-1 : Int) > 0) := by decide
    simp only [h1, if_false]
    rw [show (- -1 : Int) = 1 by decide, Int.ediv_one]
    split <;> omega
  rw [e]
  exact wpAny_pure h
theorem getItem_tuple_rev {t sl : Addr} {items : Array Value} {vk : Value} {Q : Value → Shared → Prop} (ht : IsTup s.heap t items) (hs : s.heap.IsSliceOf sl .none .none vk) (pk : IsPart vk (some (-1)))
    (h : Q (.ref s.heap.objs.size) { s with heap := s.heap.push { cls := .type "tuple", data := .seq items.toList.reverse.toArray } })
    (hsz : items.size ≤ sizeLine) : wpAny (model prog w) A (getItem (.ref t) (.ref sl)) Q E s := by
  have htake : sizeOk (.seq items.toList.reverse.toArray) := by
    show items.toList.reverse.toArray.size ≤ sizeLine
    rw [List.size_toArray, List.length_reverse, Array.length_toList]
    exact hsz
  obtain ⟨os, hos, hcs, hds⟩ := id hs
  have hTs : s.TypeIs (.ref sl) "slice" := ⟨os, hos, hcs⟩
  unfold getItem
  try with_reducible refine wpAny_holding ?_
  first | refine wpAny_bind (wpAny_pure ?_) | skip
  refine wpAny_bind (wpAny_sequenceKey ht.typeIs (by decide) ?_)
  refine wpAny_bind (wpAny_callSpecial?_slot (name := Str.ofString "__getitem__") ht.typeIs PyProof.Rows.slot_tuple_getitem
    (wpAny_call_entry PyProof.Rows.slot_tuple_getitem ht.typeIs entry_tuple_getitem ?_ (args_tuple_getitem _ _)))
  show wpAny _ _ (Builtin.Tuple.tupleItemsOf (.ref t) >>= _) _ _ s
  refine wpAny_bind (tupleItemsOf_ ht ?_)
  refine wpAny_bind (wpAny_typeOf hTs ?_)
  rw [if_pos (by decide)]
  refine wpAny_bind (sliceApplied_rev hs pk ?_)
  have hno : ¬ ((((items.size : Int) - 1) == 0 && (-1 : Int) == 1 && items.size == items.size) = true) := by
    intro q
    rw [Bool.and_eq_true, Bool.and_eq_true] at q
    exact absurd q.1.2 (by decide)
  show wpAny _ _ (if (((items.size : Int) - 1) == 0 && (-1 : Int) == 1 && items.size == items.size) = true then _ else _) _ _ s
  rw [if_neg hno]
  have pick : ((List.range items.size).filterMap fun (m : Nat) => items[((items.size : Int) - 1 + (m : Int) * (-1)).toNat]?).toArray = items.toList.reverse.toArray := by
    congr 1
    have e : (List.range items.size).filterMap (fun (m : Nat) => items[((items.size : Int) - 1 + (m : Int) * (-1)).toNat]?) = ((List.range items.size).map fun k => items.size - 1 - k).filterMap (items[·]?) := by
      rw [List.filterMap_map]
      have hc : ∀ (l : List Nat), (∀ m ∈ l, m < items.size) → l.filterMap (fun (m : Nat) => items[((items.size : Int) - 1 + (m : Int) * (-1)).toNat]?) = l.filterMap ((fun x => items[x]?) ∘ fun k => items.size - 1 - k) := by
        intro l
        induction l with
        | nil => intro _; rfl
        | cons m r ih =>
          intro hl
          have hm := hl m List.mem_cons_self
          have e : ((items.size : Int) - 1 + (m : Int) * (-1)).toNat = items.size - 1 - m := by omega
          rw [List.filterMap_cons, List.filterMap_cons, ih fun z hz => hl z (List.mem_cons_of_mem _ hz)]
          have e2 : ((fun x => items[x]?) ∘ fun k => items.size - 1 - k) m = items[items.size - 1 - m]? := rfl
          rw [e, e2]
      exact hc _ fun m hm => List.mem_range.mp hm
    rw [e, PySem.W.krv_range, List.filterMap_reverse, PySem.W.krv_all]
  rw [pick]
  first
    | exact wpAny_bind (m := Builtin.Tuple.tupleExact _) (wpAny_newObj_type (wpAny_pure ⟨_, rfl, wpAny_pure h⟩) htake)
    | exact wpAny_bind (m := Builtin.Tuple.tupleExact _) (wpAny_newObj_type (wpAny_bind (wpAny_pure (wpAny_pure ⟨_, rfl, wpAny_pure h⟩))) htake)
    | exact wpAny_bind (wpAny_bind (m := Builtin.Tuple.tupleExact _) (wpAny_newObj_type (wpAny_pure (wpAny_pure ⟨_, rfl, wpAny_pure h⟩)) htake))
    | exact wpAny_bind (wpAny_bind (m := Builtin.Tuple.tupleExact _) (wpAny_newObj_type (wpAny_pure ⟨_, rfl, wpAny_pure h⟩) htake))
end
section
variable {X : Cx}
/-- t[::-1] of a tuple -/
def tRevT (K : PySem.W.Frag) (te : TE) : TE := fun σ H Q => te σ H fun x H1 => ∃ a xs, x = .ref a ∧ SqT K H1 a xs ∧ ∀ p, H1 p = none → Q (.ref p) (upd H1 p (.tup xs.reverse))
theorem pe_revT {e : Expr} {te : TE} {k : Nat} {p1 p2 p3 pos : Pos} (he : PE X e te) : PE X (.Subscript e (.Slice none none (some (.UnaryOp .USub (.Constant (.int 1) k p1) p2)) p3) pos) (tRevT X.K te) := by
  refine ⟨fun pins s σ H Q I h => ?_⟩
  refine Subscript_ (thn (he.run pins s σ H _ I h) fun v s1 ⟨x, H1, I1, r1, q1⟩ => ?_)
  obtain ⟨a, xs, ex, hx, q⟩ := q1
  subst ex
  cases r1
  have hst : PO X (some (.UnaryOp .USub (.Constant (.int 1) k p1) p2)) (tPart (tUn (rU fun i => .int (-i)) (tC (.int 1)))) := po_some (pe_un un_neg pe_int)
  refine wpAny_Slice (thn (po_none.run pins s1 σ H1 (fun o H2 => o = none ∧ H2 = H1) I1 ⟨rfl, rfl⟩) fun vl s2 ⟨l, H2, I2, pl, el, e2⟩ => ?_)
  subst el e2
  refine thn (po_none.run pins s2 σ H2 (fun o H3 => o = none ∧ H3 = H2) I2 ⟨rfl, rfl⟩) fun vu s3 ⟨u, H3, I3, pu, eu, e3⟩ => ?_
  subst eu e3
  refine thn (hst.run pins s3 σ H3 (fun o H4 => o = some (-1) ∧ H4 = H3) I3 ⟨1, rfl, -1, rfl, rfl, rfl⟩) fun vs s4 ⟨o, H4, I4, ps, eo, e4⟩ => ?_
  subst eo e4
  have I5 : Inv X pins σ H4 { s4 with heap := s4.heap.push { cls := .type "slice", data := .fields #[vl, vu, vs] } } := I4.kept (t' := s4.toks) fun b ob q => Heap.get?_push_of_some _ q
  obtain ⟨its, r, ht, hz⟩ := I5.tuple hx
  have hlen := r.length
  cases pl
  cases pu
  show wpAny (model X.prog X.w) X.A (subscriptTail e (.Slice none none (some (.UnaryOp .USub (.Constant (.int 1) k p1) p2)) p3) (.ref a) (.ref s4.heap.objs.size)) (EP X pins σ Q) X.xe { s4 with heap := s4.heap.push { cls := .type "slice", data := .fields #[.none, .none, vs] } }
  refine tail_any (ops := [.ref a, .ref s4.heap.objs.size]) ht.typeIs (PyProof.Rows.slot_tuple_getitem.lookup) ?_ (by with_unfolding_all rfl)
  refine getItem_tuple_rev ht (Heap.IsSliceOf.new _ .none .none vs) ps ?_ (by rw [List.size_toArray]; omega)
  refine ⟨.ref _, _, I5.laid (t' := s4.toks) (o := .tup xs.reverse) (fun b ob q => Heap.get?_push_of_some _ q) (Nat.le_refl _) ?_, rfl, q _ (I5.hok.fresh (Nat.le_refl _))⟩
  exact ⟨by rw [List.length_reverse]; exact hz, _, r.reverse, IsTup.new _ _⟩
end
/-! ### tuple * 1 -/
theorem tuple_mul1 (l : Addr) (items : Array Value) (n : Nat) (dd : Option Addr) (sl : Array (Option Value)) (u : Tok) :
    Meets (Builtin.«tuple.__mul__» ⟨[.ref l, .int 1 u], []⟩) (fun _ R s => s.heap.get? l = some { cls := .type "tuple", dict := dd, data := .seq items n, slots := sl } ∧
      R (.ok (.ret (Value.ref l))) s) :=
  .of_wp fun prog w A R s h => by
    obtain ⟨hp, g, d, tk, os⟩ := s
    obtain ⟨hl, h⟩ := h
    have f1 := AutoSeq1.idx_int
    wp_walk using wpAny_loadPart' hl
    repeat (first
      | (refine wpAny_ite_false (decide_eq_false (by decide)) ?_; wp_walk using wpAny_loadPart' hl)
      | (refine wpAny_ite_true (decide_eq_true (by rw [show ((1 : Int) == 1) = true from rfl, Bool.or_true])) ?_; wp_walk using wpAny_loadPart' hl))
    exact ⟨_, rfl, h⟩
/-- t * k -/
def rRepA (K : PySem.W.Frag) : R2 := fun x y H Q => ∃ l k xs, x = .ref l ∧ y = .int k ∧ SqT K H l xs ∧ xs ≠ [] ∧ 1 ≤ k ∧ k ≤ 1000 ∧ xs.length ≤ 1000 ∧ ∀ H' p, Same H H' → SqT K H' p (List.replicate k.toNat xs).flatten → Q (.ref p) H'
section
variable {X : Cx}
theorem op_repA : OpR X (binaryOp .Mult) (rRepA X.K) := by
  intro pins s σ H x y v u Q I rx ry h
  obtain ⟨l, k, xs, rfl, rfl, hT, hne, h1, h2, hz, q⟩ := h
  by_cases hk : k = 1
  · subst hk
    cases rx
    obtain ⟨t, rfl⟩ := ry
    obtain ⟨its, r, ⟨⟨cls, dd, data, sl⟩, ho, hc, n, hd⟩, hs⟩ := I.tuple hT
    simp only at hc hd
    subst hc hd
    refine wpAny_binaryOp_repeat_ref (T := "tuple") (U := "int") (by decide) ⟨_, ho, rfl⟩ (fun s' => typeIs_int s' 1 t) noFill_tuple_mul F.fills_int_mul F.slot_int_rmul repeat_tuple F.slot_int_index.lookup
      (call_meets F.slot_int_rmul (typeIs_int s 1 t) F.entry_int_rmul (F.args_int_rmul_2 _ _) (int_rmul_tuple 1 t l its.toArray n dd sl)
        ⟨ho, rfl, ⟨_, ho, rfl⟩, call_meets F.slot_tuple_mul ⟨_, ho, rfl⟩ F.entry_tuple_mul (F.args_tuple_mul_2 _ _) (tuple_mul1 l its.toArray n dd sl t) ⟨ho, ?_⟩⟩)
    refine ⟨.ref l, H, I, rfl, q H l (Same.refl _) ?_⟩
    show SqT X.K H l (List.replicate 1 xs).flatten
    rw [List.replicate_one, List.flatten_cons, List.flatten_nil, List.append_nil]
    exact hT
  · exact op_repT pins s σ H _ _ v u Q I rx ry ⟨l, k, xs, rfl, rfl, hT, hne, by omega, h2, hz, fun p hp => q _ p (same_upd hp) (SqT.of upd_same)⟩
end
end HG

namespace HG
open PySem PySem.Spec PyProof.Rows L2
open C8 (pss_cut tCut)
/-! ### texts' tuples as data -/
def dT (st : List Str) : PyData := .tuple (st.map PyData.str)
theorem eqvAll_strs : ∀ (a b : List Str), PyData.eqvAll (a.map PyData.str) (b.map PyData.str) = decide (a = b)
  | [], [] => by simp [PyData.eqvAll]
  | [], _ :: _ => by simp [PyData.eqvAll]
  | _ :: _, [] => by simp [PyData.eqvAll]
  | x :: xs, y :: ys => by
    rw [List.map_cons, List.map_cons, PyData.eqvAll, eqvAll_strs xs ys, PyData.eqv, show (x == y) = decide (x = y) from (str_beq x y)]
    by_cases h : x = y
    · subst h
      by_cases h2 : xs = ys
      · subst h2
        simp
      · rw [decide_eq_false h2, decide_eq_false (show ¬ (x :: xs = x :: ys) from fun z => h2 (List.cons.inj z).2), Bool.and_false]
    · rw [decide_eq_false h, decide_eq_false (show ¬ (x :: xs = y :: ys) from fun z => h (List.cons.inj z).1), Bool.false_and]
theorem dT_eqv (a b : List Str) : PyData.eqv (dT a) (dT b) = decide (a = b) := by
  unfold dT
  rw [PyData.eqv, eqvAll_strs]
theorem any_dT (sts : List (List Str)) (x : List Str) : ((sts.map dT).any fun z => PyData.eqv z (dT x)) = decide (x ∈ sts) := by
  induction sts with
  | nil => rfl
  | cons a r ih =>
    rw [List.map_cons, List.any_cons, ih, dT_eqv]
    by_cases h : a = x
    · subst h
      simp
    · rw [decide_eq_false h, Bool.false_or]
      by_cases h2 : x ∈ r
      · rw [decide_eq_true h2, decide_eq_true (List.mem_cons_of_mem _ h2)]
      · rw [decide_eq_false h2, decide_eq_false fun z => by rcases List.mem_cons.mp z with z | z; exact h z.symm; exact h2 z]
theorem nm_strOk {z : Str} (h : isNm z = true) : PyData.strOk z = true := by
  unfold isNm at h
  rw [Bool.and_eq_true, Bool.and_eq_true] at h
  have h1 := h.2.1
  unfold Txt.isascii at h1
  unfold PyData.strOk
  rw [Array.all_eq_true] at h1 ⊢
  intro i hi
  have := h1 i hi
  rw [decide_eq_true_iff] at this ⊢
  omega
theorem lay_strs : ∀ {st : List Str}, (∀ z ∈ st, PyData.strOk z = true) → PyData.canLayAll0 (st.map PyData.str) = true
  | [], _ => by simp [PyData.canLayAll0]
  | x :: xs, h => by
    rw [List.map_cons, PyData.canLayAll0, PyData.canLay0, h x List.mem_cons_self, lay_strs fun z hz => h z (List.mem_cons_of_mem _ hz)]
    rfl
theorem depth_strs : ∀ (st : List Str), PyData.depthAll (st.map PyData.str) = 0
  | [] => by simp [PyData.depthAll]
  | x :: xs => by rw [List.map_cons, PyData.depthAll, depth_strs xs, PyData.depth]; rfl
theorem dT_lay {st : List Str} (h : ∀ z ∈ st, isNm z = true) : PyData.canLay0 (dT st) = true := by
  unfold dT
  rw [PyData.canLay0]
  exact lay_strs fun z hz => nm_strOk (h z hz)
theorem dT_depth (st : List Str) : PyData.depth (dT st) = 1 := by
  unfold dT
  rw [PyData.depth, depth_strs]
theorem dT_shaped {st : List Str} (h : ∀ z ∈ st, isNm z = true) : SeqAt.shaped (dT st) = true := by
  unfold SeqAt.shaped
  rw [dT_lay h, dT_depth]
  rfl
theorem layAll_dT : ∀ {sts : List (List Str)}, (∀ st ∈ sts, ∀ z ∈ st, isNm z = true) → PyData.canLayAll0 (sts.map dT) = true
  | [], _ => by simp [PyData.canLayAll0]
  | x :: xs, h => by
    rw [List.map_cons, PyData.canLayAll0, dT_lay (h x List.mem_cons_self), layAll_dT fun z hz => h z (List.mem_cons_of_mem _ hz)]
    rfl
theorem depthAll_dT : ∀ (sts : List (List Str)), PyData.depthAll (sts.map dT) ≤ 1
  | [] => by simp [PyData.depthAll]
  | x :: xs => by
    rw [List.map_cons, PyData.depthAll, dT_depth]
    have := depthAll_dT xs
    omega
theorem tups_shaped {sts : List (List Str)} (h : ∀ st ∈ sts, ∀ z ∈ st, isNm z = true) : SeqAt.shaped (.list (sts.map dT)) = true := by
  unfold SeqAt.shaped
  rw [PyData.canLay0, layAll_dT h, PyData.depth, Bool.true_and, decide_eq_true_iff]
  have := depthAll_dT sts
  omega
theorem dpAll_strs {K : PySem.W.Frag} {H : Hp} : ∀ (st : List Str), DpAll K H (st.map V.str) (st.map PyData.str)
  | [] => .nil
  | x :: xs => .cons (.str x) (dpAll_strs xs)
theorem dp_tup {K : PySem.W.Frag} {H : Hp} {a : Addr} {st : List Str} (h : SqT K H a (st.map V.str)) : Dp K H (.ref a) (dT st) := .tup h (dpAll_strs st)
theorem dp_tups {K : PySem.W.Frag} {H : Hp} {sts : List (List Str)} {vs : List V} (h : TupsAt H sts vs) : DpAll K H vs (sts.map dT) := by
  induction h with
  | nil => exact .nil
  | cons r _ ih =>
    obtain ⟨a, rfl, ha⟩ := r
    exact .cons (dp_tup (SqT.of ha)) ih
theorem hu65_of {k : Nat} {A : Around} (r : Room k A) : A.units + 65 < cLine := by
  have := r.un
  omega
/-! ### near standings -/
structure NearOk (S : List Way) (fs : List (List Str)) : Prop where
  no : ∀ x ∈ fs, x ∉ stds S
  nm : ∀ x ∈ fs, ∀ z ∈ x, isNm z = true
  ln : ∀ x ∈ fs, x.length ≤ 9
  few : fs.length ≤ 100
  n1 : ∀ x ∈ fs, 1 ≤ x.length
def spLNear : Sp := fun args H Q _ => ∃ (d a : Addr) (W : List Way) (st : List Str), args = [.ref d, .ref a] ∧ ShL (fun _ => True) H d W ∧ WOk W ∧ H a = some (.tup (st.map V.str)) ∧ st.length ≤ 4 ∧ 1 ≤ st.length ∧ (∀ z ∈ st, isNm z = true) ∧
  ∀ H' p vs fs, Same H H' → H p = none → H' p = some (.lst vs) → TupsAt H' fs vs → NearOk (sh W) fs → Q (.ref p) H'
def zq : Str := "zq"
theorem zq_nm : isNm zq = true := by decide +kernel
section
variable {P : Program} {w : World} {K : PySem.W.Frag} {mg : Str → Option Value} {base : Heap}
variable {fT fO fN fS fW : Addr} {dT' dO dN dS dW : FuncData}
theorem ok_lnear {f : Addr} {fd : FuncData} (B : BT K mg fT fO dT' dO) (G : GnT K mg fN fS fW dN dS dW) (F : Fun K "_law_near" "_law_near" s_law_near f fd) : FnOk P w K mg base CX0 3 f fd ["_law_ways", "_law_standing"] spLNear := by
  have S : FnScope ["_law_ways", "_law_standing", "_law_names_here", "_law_found", "_law_at", "_law_other", "_law_way", "_law_spot"] ["_law_ways", "_law_standing"] (defScope s_law_near) := ⟨rfl, rfl, rfl, by decide +kernel, rfl, by decide +kernel, by decide +kernel⟩
  have nd := S.nd
  refine F.ok S (fun vs H Q E h => ?_) (fun cdv A outer s H vs Q E hr h => ?_)
  · obtain ⟨d, a, W, st, rfl, _⟩ := h
    rfl
  · obtain ⟨d, a, W, st, rfl, hW0, ok, ha, hst4, hst1, hstn, q⟩ := h
    have hu := hu_of hr
    have hu65 := hu65_of hr
    obtain ⟨kvs, hd, hp⟩ := id hW0
    have sok := ok.sok
    refine ⟨_, pss_cons (ps_par (i := 2) (j := 3) (by rfl) nd rfl rfl (by decide) rfl rfl (pa_cons (pe_callB (call_srtD rfl) (by rfl) G.m_sorted (by decide +kernel) (pa_cons (pv 0) pa_nil)) (pa_cons (pe_lst (pa_cons (pe_revT (pv 1)) pa_nil)) pa_nil)) (by rfl))
      (pss_cons (ps_for PassesOwn.never rfl (pi_range1 rfl G.m_range (pa_cons (pe_callB call_len_seq (by rfl) B.ml PySem.boot_len (pa_cons (pv 2) pa_nil)) pa_nil)) (pg_name (i := 4) nd rfl (Or.inr rfl))
        (pss_one (ps_for PassesOwn.never rfl (pi_list (pv 2)) (pg_name (i := 5) nd rfl (Or.inl rfl))
          (pss_one (ps_set (i := 3) nd rfl (Or.inl rfl) (pe_op op_cat (pv 3) (pe_lc (own := [("_law_way", 6)]) (g := gName 6) (tt := tYes) rfl nd (pi_list (pe_op op_cat (pe_dget hu (pv 0) (pv 5) (fun _ _ => rfl)) (pe_lst (pa_cons pe_str pa_nil)))) (blkOk_by (N := ["_law_ways", "_law_standing", "_law_names_here", "_law_found", "_law_at", "_law_other", "_law_way", "_law_spot"]) (sc := defScope s_law_near) (by decide +kernel)) (fun _ _ _ _ _ => pg_name (i := 6) nd rfl (Or.inl rfl)) (fun _ _ _ _ _ => pts_nil)
            (fun _ _ _ _ _ => pe_op op_catB (pe_op op_catB (pe_slice sl_tupB (pv 1) po_none (po_some (pv 4))) (pe_tup (pa_cons (pv 6) pa_nil))) (pe_slice sl_tupB (pv 1) (po_some (pe_op op_add (pv 4) pe_int)) po_none)))))))))
      (pss_one (ps_ret (pe_lc (own := [("_law_spot", 7)]) (g := gName 7) rfl nd (pi_list (pv 3)) (blkOk_by (N := ["_law_ways", "_law_standing", "_law_names_here", "_law_found", "_law_at", "_law_other", "_law_way", "_law_spot"]) (sc := defScope s_law_near) (by decide +kernel)) (fun _ _ _ _ _ => pg_name (i := 7) nd rfl (Or.inl rfl))
        (fun _ _ _ _ _ => pts_one (pt_cmpR (r := rNotInD K) (op_notInD hu65) (pv 7) (pe_call (ok_lstandings G.m_sorted G.W G.bW G.gW G.S) (hr.mono (by decide)) (by rfl) G.gS G.S.kp G.bS .nil pass0 (pa_cons (pv 0) pa_nil)) (by rfl))) (fun _ _ _ _ _ => pv 7))))), ?_⟩
    refine ⟨_, rfl, d, kvs, W.map (·.1), rfl, hd, keysL hp, (by rw [List.length_map]; exact Nat.lt_of_le_of_lt ok.n4 (by decide)), fun np nn => ?_⟩
    have s0 := same_upd (o := .lst ((srt (W.map (·.1))).map V.str)) nn
    refine ⟨_, rfl, a, _, rfl, SqT.of (s0 _ _ ha), fun rp nrp => ?_⟩
    have s1 := same_upd (o := .tup (st.map V.str).reverse) nrp
    refine ⟨(by show 1 ≤ sizeLine; decide), fun lp nlp => ?_⟩
    have s2 := same_upd (o := .lst [V.ref rp]) nlp
    have nlH : H lp = none := (s0.trans s1).free nlp
    have sm : Same H (upd (upd (upd H np (.lst ((srt (W.map (·.1))).map V.str))) rp (.tup (st.map V.str).reverse)) lp (.lst [V.ref rp])) := s0.trans (s1.trans s2)
    have hN : (upd (upd (upd H np (.lst ((srt (W.map (·.1))).map V.str))) rp (.tup (st.map V.str).reverse)) lp (.lst [V.ref rp])) np = some (.lst ((srt (W.map (·.1))).map V.str)) := s2 _ _ (s1 _ _ upd_same)
    have hR : (upd (upd (upd H np (.lst ((srt (W.map (·.1))).map V.str))) rp (.tup (st.map V.str).reverse)) lp (.lst [V.ref rp])) rp = some (.tup (st.reverse.map V.str)) := by
      rw [s2 _ _ upd_same, List.map_reverse]
    have hF : (upd (upd (upd H np (.lst ((srt (W.map (·.1))).map V.str))) rp (.tup (st.map V.str).reverse)) lp (.lst [V.ref rp])) lp = some (.lst [V.ref rp]) := upd_same
    refine ⟨_, _, rfl, ?_⟩
    generalize (upd (upd (upd H np (.lst ((srt (W.map (·.1))).map V.str))) rp (.tup (st.map V.str).reverse)) lp (.lst [V.ref rp])) = H2 at sm hN hR hF
    have hnl : (srt (W.map (·.1))).length = W.length := by rw [srt_len, List.length_map]
    generalize hnm : srt (W.map (·.1)) = nms at hN hnl
    have hnms : ∀ z ∈ nms, ∃ qw ∈ W, qw.1 = z := fun z hz => by
      rw [← hnm] at hz
      exact List.mem_map.mp (srt_mem.mp hz)
    have w4 := ok.n4
    refine ⟨_, rfl, np, _, rfl, .inl (SqL.of hN), W.length, by rw [List.length_map, hnl], by omega, by omega, for_range (lo := 0) (n := W.length) (fun i σ H' => ∃ p vs fs v4 v5, σ = [some (.ref d), some (.ref a), some (.ref np), some (.ref p), v4, v5, none, none] ∧ Same H2 H' ∧ H p = none ∧ H' p = some (.lst vs) ∧ TupsAt H' fs vs ∧ (∀ x ∈ fs, (∀ z ∈ x, isNm z = true) ∧ 1 ≤ x.length ∧ x.length ≤ 9) ∧ fs.length ≤ 1 + 20 * i) ⟨lp, _, [st.reverse], none, none, rfl, Same.refl _, nlH, hF, .cons ⟨rp, rfl, hR⟩ .nil, fun x hx => ?_, Nat.le_refl _⟩ ?_ ?_⟩
    · rw [List.mem_singleton.mp hx, List.length_reverse]
      exact ⟨fun z hz => hstn z (List.mem_reverse.mp hz), by omega⟩
    · rintro i σ H3 hi ⟨p, vs, fs, v4, v5, rfl, s3, np3, hp3, ht3, hf3, hl3⟩
      rw [Int.zero_add]
      refine ⟨_, rfl, np, rfl, ⟨_, SqL.of (s3 _ _ hN)⟩, for_it (walk_list (K := K) (a := np) (xs := nms.map V.str)) (fun j σ H' => ∃ p vs fs v5, σ = [some (.ref d), some (.ref a), some (.ref np), some (.ref p), some (.int (i : Int)), v5, none, none] ∧ Same H2 H' ∧ H p = none ∧ H' p = some (.lst vs) ∧ TupsAt H' fs vs ∧ (∀ x ∈ fs, (∀ z ∈ x, isNm z = true) ∧ 1 ≤ x.length ∧ x.length ≤ 9) ∧ fs.length ≤ 1 + 20 * i + 5 * j) ⟨p, vs, fs, v5, rfl, s3, np3, hp3, ht3, hf3, hl3⟩ (fun j σ H' _ ⟨_, _, _, _, _, sx, _⟩ => SqL.of (sx _ _ hN)) ?_ ?_⟩
      · rintro j x σ H4 H5 hj ⟨p, vs, fs, v5, rfl, s5, np5, hp5, ht5, hf5, hl5⟩ ⟨rfl, hx⟩
        rw [List.getElem?_map] at hx
        obtain ⟨z, hz, rfl⟩ := Option.map_eq_some_iff.mp hx
        obtain ⟨qw, hqw, hqz⟩ := hnms z (List.mem_of_getElem? hz)
        have hj4 : j < 4 := by
          rw [List.length_map] at hj
          omega
        have s05 := sm.trans s5
        obtain ⟨aw, hv, _, haw⟩ := way_at (paired_imp hp fun q kv h => h.same s05) ok.nd hqw
        have hg : DGet H5 d (.str z) (some (.ref aw)) := by
          rw [← hqz, ← hv]
          exact DGet.k (k := Sum.inr qw.1) (s05 _ _ hd)
        have hw4 := ok.w4 qw hqw
        refine ⟨_, rfl, _, rfl, _, rfl, d, _, rfl, hg, (by show 1 ≤ sizeLine; decide), fun zp nzp => ?_⟩
        have s6 := same_upd (o := .lst [V.str (Str.ofString "zq")]) nzp
        refine ⟨aw, zp, qw.2.map V.str, _, rfl, rfl, s6 _ _ haw, upd_same, Nat.le_of_lt (small1000 (by rw [List.length_map]; show qw.2.length + 1 ≤ 1000; omega)), fun cp ncp => ?_⟩
        have s7 := same_upd (o := .lst (qw.2.map V.str ++ [V.str (Str.ofString "zq")])) ncp
        have hcp : (upd (upd H5 zp (.lst [V.str (Str.ofString "zq")])) cp (.lst (qw.2.map V.str ++ [V.str (Str.ofString "zq")]))) cp = some (.lst ((qw.2 ++ [zq]).map V.str)) := by
          rw [upd_same, List.map_append]
          rfl
        have s57 := s6.trans s7
        refine ⟨cp, rfl, ⟨_, SqL.of hcp⟩, fun D nD => ?_⟩
        have sD := same_upd (o := .lst []) nD
        generalize (upd (upd H5 zp (.lst [V.str (Str.ofString "zq")])) cp (.lst (qw.2.map V.str ++ [V.str (Str.ofString "zq")]))) = H7 at s57 hcp nD sD
        have hwz : ∀ z ∈ qw.2 ++ [zq], isNm z = true := fun y hy => by
          rcases List.mem_append.mp hy with hy | hy
          · exact ok.wn qw hqw y hy
          · rw [List.mem_singleton.mp hy]
            exact zq_nm
        have hwl : (qw.2 ++ [zq]).length ≤ 5 := by
          rw [List.length_append]
          show qw.2.length + 1 ≤ 5
          omega
        refine lc_it (walk_list (K := K) (a := cp) (xs := (qw.2 ++ [zq]).map V.str)) (fun m H' => ∃ zs, H' D = some (.lst zs) ∧ TupsAt H' (((qw.2 ++ [zq]).take m).map fun w => st.take i ++ [w] ++ st.drop (i + 1)) zs ∧ Same H7 H') ⟨[], upd_same, .nil, sD⟩ (fun m H' _ ⟨_, _, _, s'⟩ => SqL.of (s' _ _ hcp)) ?_ ?_
        · rintro m x H8 H9 hm ⟨zs, hD, hzs, s8⟩ ⟨rfl, hx'⟩
          rw [List.length_map] at hm
          rw [List.getElem?_map] at hx'
          obtain ⟨y, hy, rfl⟩ := Option.map_eq_some_iff.mp hx'
          have ha9 := s8 _ _ (s57 _ _ (s05 _ _ ha))
          refine ⟨rfl, _, rfl, _, rfl, (i : Int), rfl, a, _, rfl, ha9, fun Ha pa sa hpa => ?_⟩
          rw [cut_to] at hpa
          refine ⟨_, rfl, (by show 1 ≤ sizeLine; decide), fun pt npt => ?_⟩
          have st' := same_upd (o := .tup [V.str y]) npt
          refine ⟨pa, pt, _, _, rfl, rfl, st' _ _ hpa, upd_same, (by rw [List.length_take, List.length_map]; show min i st.length + 1 ≤ 1000; omega), fun Hb pb sb hpb => ?_⟩
          refine ⟨_, rfl, _, rfl, _, _, rfl, rfl, ((i + 1 : Nat) : Int), rfl, a, _, rfl, sb _ _ (st' _ _ (sa _ _ ha9)), fun Hc pc sc hpc => ?_⟩
          rw [cut_from] at hpc
          refine ⟨pb, pc, _, _, rfl, rfl, sc _ _ hpb, hpc, (by rw [List.length_append, List.length_take, List.length_drop, List.length_map]; show min i st.length + 1 + _ ≤ 1000; omega), fun Hd pd sd hpd => ?_⟩
          have s9d := sa.trans (st'.trans (sb.trans (sc.trans sd)))
          have hDd := s9d _ _ hD
          refine ⟨zs, hDd, small1000 ?_, _, upd_same, ?_, fun r o e => ?_⟩
          · rw [← Paired.length hzs, List.length_map, List.length_take]
            omega
          · rw [List.take_add_one, hy, List.map_append]
            refine paired_append ((hzs.same s9d).upd hDd) (.cons ⟨pd, rfl, ?_⟩ .nil)
            rw [upd_ne (ne_of hpd hDd (by intro z; cases z)), hpd, List.map_append, List.map_append, List.map_take, List.map_drop]
            rfl
          · rw [upd_ne (ne_of_none e nD)]
            exact s9d _ _ (s8 _ _ e)
        · rintro H8 ⟨zs, hD, hzs, s8⟩
          rw [List.length_map, List.take_length] at hzs
          have hp8 := s8 _ _ (s57 _ _ hp5)
          have hzl : zs.length ≤ 5 := by
            rw [← Paired.length hzs, List.length_map]
            exact hwl
          have hvl : vs.length = fs.length := (Paired.length ht5).symm
          refine ⟨p, D, vs, zs, rfl, rfl, hp8, hD, Nat.le_of_lt (small1000 (by omega)), fun p9 n9 => ?_⟩
          have s9 := same_upd (o := .lst (vs ++ zs)) n9
          refine ⟨p9, vs ++ zs, fs ++ (qw.2 ++ [zq]).map (fun w => st.take i ++ [w] ++ st.drop (i + 1)), _, rfl, s5.trans (s57.trans (s8.trans s9)), sm.free (s5.free (s57.free (s8.free n9))), upd_same, paired_append (ht5.same (s57.trans (s8.trans s9))) (hzs.same s9), fun x hx => ?_, ?_⟩
          · rcases List.mem_append.mp hx with hx | hx
            · exact hf5 x hx
            · obtain ⟨w', hw', rfl⟩ := List.mem_map.mp hx
              refine ⟨fun z hz => ?_, ?_⟩
              · rcases List.mem_append.mp hz with hz | hz
                · rcases List.mem_append.mp hz with hz | hz
                  · exact hstn z (List.mem_of_mem_take hz)
                  · rw [List.mem_singleton.mp hz]
                    exact hwz _ hw'
                · exact hstn z (List.mem_of_mem_drop hz)
              · rw [List.length_append, List.length_append, List.length_take, List.length_drop, List.length_singleton]
                omega
          · rw [List.length_append, List.length_map]
            omega
      · rintro σ H5 ⟨p, vs, fs, v5, rfl, s5, np5, hp5, ht5, hf5, hl5⟩
        rw [List.length_map, hnl] at hl5
        exact ⟨p, vs, fs, _, v5, rfl, s5, np5, hp5, ht5, hf5, by omega⟩
    · rintro σ H3 ⟨p, vs, fs, v4, v5, rfl, s3, np3, hp3, ht3, hf3, hl3⟩
      refine ⟨_, rfl, p, rfl, ⟨_, SqL.of hp3⟩, fun D nD => ?_⟩
      have sD := same_upd (o := .lst []) nD
      have s03 := sm.trans s3
      have hvl : fs.length = vs.length := Paired.length ht3
      refine lc_it (walk_list (K := K) (a := p) (xs := vs)) (fun i H' => ∃ gs, H' D = some (.lst gs) ∧ TupsAt H' ((fs.take i).filter fun x => !decide (x ∈ stds (sh W))) gs ∧ Same H3 H') ⟨[], upd_same, .nil, sD⟩ (fun i H' _ ⟨_, _, _, sx⟩ => SqL.of (sx _ _ hp3)) ?_ ?_
      · rintro i x H4 H5 hi ⟨gs, hD, hgs, s4⟩ ⟨rfl, hx⟩
        obtain ⟨y, hy, c, rfl, hc⟩ := paired_get ht3 hx
        have hym := List.mem_of_getElem? hy
        have hc5 := s4 _ _ hc
        refine ⟨rfl, _, rfl, _, rfl, d, W, rfl, ShL.at ⟨kvs, s4 _ _ (s03 _ _ hd), paired_imp hp fun q kv h => h.same (s03.trans s4)⟩, ok, fun H6 p6 us s6 n6 h6 t6 => ?_⟩
        refine ⟨dT y, (stds (sh W)).map dT, dp_tup (SqT.of (s6 _ _ hc5)), .lst (SqL.of h6) (dp_tups t6), dT_shaped (hf3 y hym).1, tups_shaped (fun z hz => stds_names sok.wn hz), _, rfl, ?_⟩
        rw [any_dT]
        have hD6 := s6 _ _ hD
        cases e : (!decide (y ∈ stds (sh W))) with
        | false =>
          refine iteF ⟨gs, hD6, ?_, s4.trans s6⟩
          rw [List.take_add_one, hy, List.filter_append, show List.filter (fun x => !decide (x ∈ stds (sh W))) (some y).toList = [] by show List.filter _ [y] = []; rw [List.filter_cons, e]; rfl, List.append_nil]
          exact hgs.same s6
        | true =>
          have hgl : gs.length ≤ 100 := by
            rw [← Paired.length hgs]
            exact Nat.le_trans (List.length_filter_le _ _) (by rw [List.length_take]; omega)
          refine iteT ⟨_, rfl, gs, hD6, small1000 (by omega), _, upd_same, ?_, fun r o e => ?_⟩
          · rw [List.take_add_one, hy, List.filter_append, show List.filter (fun x => !decide (x ∈ stds (sh W))) (some y).toList = [y] by show List.filter _ [y] = [y]; rw [List.filter_cons, e]; rfl]
            exact paired_append ((hgs.same s6).upd hD6) (.cons ⟨c, rfl, by rw [upd_ne (ne_of (s6 _ _ hc5) hD6 (by intro z; cases z))]; exact s6 _ _ hc5⟩ .nil)
          · rw [upd_ne (ne_of_none e nD)]
            exact s6 _ _ (s4 _ _ e)
      · rintro H4 ⟨gs, hD, hgs, s4⟩
        rw [← hvl, List.take_length] at hgs
        refine q H4 D gs _ (s03.trans s4) (s03.free nD) hD hgs ⟨fun x hx hm => ?_, fun x hx => (hf3 x (List.mem_filter.mp hx).1).1, fun x hx => (hf3 x (List.mem_filter.mp hx).1).2.2, ?_, fun x hx => (hf3 x (List.mem_filter.mp hx).1).2.1⟩
        · have := (List.mem_filter.mp hx).2
          rw [decide_eq_true hm] at this
          cases this
        · refine Nat.le_trans (List.length_filter_le _ _) ?_
          omega
end
end HG

namespace HG
open PySem PySem.Spec PyProof.Rows L2
open C8 (pss_cut tCut)
structure E3 (K : PySem.W.Frag) (CW CN CS : Addr) : Prop where
  hw : PySem.W.exmAny K (.ref CW) [.ref CW, .ref CN, .ref CS] = some true
  hn : PySem.W.exmAny K (.ref CN) [.ref CW, .ref CN, .ref CS] = some true
  hs : PySem.W.exmAny K (.ref CS) [.ref CW, .ref CN, .ref CS] = some true
theorem row_nm {H : Hp} {S : List Way} {x : V} {st : List Str} {cs : List Ch} (ok : SOk S) (hin : st ∈ stds S) (hcan : ∀ i c, cs[i]? = some c → canP S (goes S st (cs.take i)) c = true) {i : Nat} (hi : i ≤ cs.length) : ∀ z ∈ goes S st (cs.take i), isNm z = true :=
  stds_names ok.wn (goes_in ok hin hi fun k c _ => hcan k c)
section
variable {P : Program} {w : World} {K : PySem.W.Frag} {mg : Str → Option Value} {base : Heap}
variable {C : Addr}
theorem ok_is_ring {f fW CW CN CS iW iN iS : Addr} {fd dW eW eN eS : FuncData} (ml : mg "len" = none) (EW : EK K mg "Wrong" "place" CW iW eW) (EN : EK K mg "NoStanding" "standing" CN iN eN) (ES : EK K mg "NoStep" "index" CS iS eS) (X3 : E3 K CW CN CS)
    (W : DfB K mg "walked" s_walked ["game", "row"] fW dW) (oW : FnOk P w K mg base (L2.CX P w) 6 fW dW ["game", "row"] (spWalked K C CW CN CS)) (D : Df K mg "is_ring" s_is_ring f fd) : FnOk P w K mg base CX0 7 f fd ["game", "thing"] (spRing K C) := by
  have S : FnScope ["game", "thing", "places"] ["game", "thing"] (defScope s_is_ring) := ⟨rfl, rfl, rfl, by decide +kernel, rfl, by decide +kernel, by decide +kernel⟩
  have nd := S.nd
  refine D.F.ok S (fun vs H Q E h => ?_) (fun cdv A outer s H vs Q E hr h => ?_)
  · obtain ⟨g, x, N, S, γ, o, rfl, _⟩ := h
    rfl
  · obtain ⟨g, x, N, S, γ, o, rfl, hg, ok, ho, hQ⟩ := h
    have hu64 := hr.units
    refine ⟨_, pss_cons (ps_try_tup (tb := fun W => tAsg (tCallS (spWalked K C CW CN CS) (WE W) (tCons (tVar 0) (tCons (tVar 1) tNil))) (gName 2)) (ts := fun _ _ _ => tRet (tC (.bl false))) rfl rfl ⟨rfl, by decide, .inl EW.g⟩ ⟨rfl, by decide, .inl EN.g⟩ ⟨rfl, by decide, .inl ES.g⟩
        (fun W' pn xe tk _ => pss_one (ps_set (i := 2) nd rfl (Or.inl rfl) (by exact (pe_callS oW hr rfl W.d.g W.d.F.kp W.b (fun σ => passAt tk σ) (by exact (pa_cons (pv 0) (pa_cons (pv 1) pa_nil)))))))
        (fun a oe cls d pn _ _ => pss_one (ps_ret pe_bl)))
      (pss_one (ps_ret (pe_and (pe_cmpR op_gt (pe_callB call_len_seq (by rfl) ml PySem.boot_len (pa_cons (pv 2) pa_nil)) pe_int (nomark _)) (pe_one (pe_cmpR (op_eqD hu64) (pe_ix ix_list (pv 2) pe_int (fun _ _ => rfl)) (pe_ix ix_list (pv 2) (pe_un un_neg pe_int) (fun _ _ => rfl)) (nomark _)))))), ?_⟩
    refine ⟨_, rfl, _, rfl, g, x, N, S, γ, o, rfl, hg, ok, ho, fun H1 s1 => ?_, fun st cs e H1 p vs s1 np hp hts => ?_⟩
    · cases o with
      | wrong => exact fun d hd => ⟨X3.hw, fun a _ => hQ H1 s1⟩
      | stand st => exact fun d p hd hp => ⟨X3.hn, fun a _ => hQ H1 s1⟩
      | step j => exact fun d hd => ⟨X3.hs, fun a _ => hQ H1 s1⟩
      | fine st cs => trivial
    · subst e
      obtain ⟨hra, hin, hcan⟩ := ho
      have vl : vs.length = cs.length + 1 := by rw [← Paired.length hts, stops_len]
      have q := hQ H1 s1
      refine ⟨_, rfl, p, vs, rfl, .inl (SqL.of hp), _, _, rfl, rfl, _, rfl, ?_⟩
      by_cases h0 : cs = []
      · rw [decide_eq_false (show ¬ (1 : Int) < vs.length by rw [vl, h0]; decide)]
        rw [show ringB S (.fine st cs) = false by show (decide (cs ≠ []) && _) = false; rw [decide_eq_false (fun z => z h0)]; rfl] at q
        exact q
      · have hc0 : cs.length ≠ 0 := fun z => h0 (List.length_eq_zero_iff.mp z)
        rw [decide_eq_true (show (1 : Int) < vs.length by omega)]
        rw [show ringB S (.fine st cs) = decide (st = goes S st cs) by show (decide (cs ≠ []) && _) = _; rw [decide_eq_true h0]; rfl] at q
        have hv0 : vs[0]? = some (vs[0]'(by omega)) := List.getElem?_eq_getElem (by omega)
        have hv1 : vs[cs.length]? = some (vs[cs.length]'(by omega)) := List.getElem?_eq_getElem (by omega)
        obtain ⟨s0, hs0, a0, ev0, ha0⟩ := paired_get hts hv0
        obtain ⟨s1', hs1, a1, ev1, ha1⟩ := paired_get hts hv1
        rw [stops_at (Nat.zero_le _)] at hs0
        rw [stops_at (Nat.le_refl _), List.take_length] at hs1
        cases hs0
        cases hs1
        have nm0 : ∀ z ∈ st, isNm z = true := hra.nm
        have nm1 := row_nm (x := x) (H := H) ok hin hcan (Nat.le_refl cs.length)
        rw [List.take_length] at nm1
        refine ⟨_, rfl, p, vs, _, .ref a0, rfl, rfl, SqL.of hp, atI_nat (j := 0) (by rw [hv0, ev0]), _, rfl, _, rfl, p, vs, -1, .ref a1, rfl, rfl, SqL.of hp, by rw [← ev1]; exact atI_fin vl hv1, _, _, dp_tup (SqT.of ha0), dp_tup (SqT.of ha1), dT_shaped nm0, dT_shaped nm1, ?_⟩
        rw [dT_eqv]
        exact q
end
end HG

namespace HG
open PySem PySem.Spec PyProof.Rows L2
open C8 (pss_cut tCut)
/-! ### dicts of data: ==, != -/
def SameD (K : PySem.W.Frag) (H : Hp) (a b : Addr) : Prop := ∃ ks ls, H a = some (.dK ks) ∧ H b = some (.dK ls) ∧ ks.length = ls.length ∧ ∀ p ∈ ks, ∃ u d, valV ls p.1 = some u ∧ Dp K H p.2 d ∧ Dp K H u d ∧ SeqAt.shaped d = true
def rDD (K : PySem.W.Frag) (r : Bool) : R2 := fun x y H Q => ∃ a b, x = .ref a ∧ y = .ref b ∧ SameD K H a b ∧ Q (.bl r) H
theorem shaped_lay {d : PyData} (h : SeqAt.shaped d = true) : d.canLay0 = true := by
  unfold SeqAt.shaped at h
  exact (Bool.and_eq_true_iff.mp h).1
section
variable {X : Cx} {pins : List (Addr × Obj)} {σ : L2.St} {H : Hp} {s : Shared}
theorem hitsD (I : Inv X pins σ H s) (hu : X.A.in1.units + 64 < cLine) {ls : List (Key × V)} {vb : List (Key × Value)} (rb : KV ls vb) {ks : List (Key × V)} {va : List (Key × Value)} (ra : KV ks va) :
    (∀ p ∈ ks, ∃ u d, valV ls p.1 = some u ∧ Dp X.K H p.2 d ∧ Dp X.K H u d ∧ SeqAt.shaped d = true) → PySem.W.KeqHits X.A.in1 s vb va true := by
  unfold KV at ra
  induction ra with
  | nil => intro _; exact .nil
  | @cons p q ps qs h t k =>
    intro hp
    obtain ⟨h1, h2⟩ := h
    obtain ⟨u, d, e, d1, d2, sd⟩ := hp p List.mem_cons_self
    have rr : RelO (some u) (valueAt vb p.1) := by rw [← e]; exact rb.val p.1
    obtain ⟨y, hy, ry⟩ := rr.some_of
    obtain ⟨key, v⟩ := q
    have h1' : p.1 = key := h1
    rw [h1'] at hy
    obtain ⟨as, r1⟩ := Dp.reads I d _ v d1 h2
    obtain ⟨bs, r2⟩ := Dp.reads I d u y d2 ry
    have x := PySem.W.keq_at (A := X.A) r1 r2 sd sd hu
    rw [SeqAt.eqv_refl d (shaped_lay sd)] at x
    show PySem.W.KeqHits X.A.in1 s vb ((key, v) :: qs) (true && true)
    exact .hit hy x (k fun p' hm => hp p' (List.mem_cons_of_mem _ hm))
end
section
variable {X : Cx}
theorem op_neDD (hu : X.A.units + 65 < cLine) : OpR X (compareOp .NotEq) (rDD X.K false) := by
  intro pins s σ H x y v u Q I rx ry h
  obtain ⟨a, b, rfl, rfl, ⟨ks, ls, ha, hb, hl, hp⟩, q⟩ := h
  cases (show v = Value.ref a from rx)
  cases (show u = Value.ref b from ry)
  obtain ⟨_, ya, va, ra, da⟩ := (show ObjOk X.prog X.w H s.heap a (.dK ks) from I.hok a _ ha)
  obtain ⟨_, yb, vb, rb, db⟩ := (show ObjOk X.prog X.w H s.heap b (.dK ls) from I.hok b _ hb)
  refine PySem.W.keq_ne (knd := mixKind X.prog X.w) (r := true) ya yb da db (by omega) (fun _ => hitsD I (by show X.A.units + 1 + 64 < cLine; omega) rb ra hp) ?_
  have e : va.length = vb.length := by rw [← ra.length, ← rb.length]; exact hl
  rw [show (!(va.length == vb.length && true)) = false from by rw [e]; simp]
  exact ⟨.bl false, H, I, rfl, q⟩
theorem op_eqDD (hu : X.A.units + 65 < cLine) : OpR X (compareOp .Eq) (rDD X.K true) := by
  intro pins s σ H x y v u Q I rx ry h
  obtain ⟨a, b, rfl, rfl, ⟨ks, ls, ha, hb, hl, hp⟩, q⟩ := h
  cases (show v = Value.ref a from rx)
  cases (show u = Value.ref b from ry)
  obtain ⟨_, ya, va, ra, da⟩ := (show ObjOk X.prog X.w H s.heap a (.dK ks) from I.hok a _ ha)
  obtain ⟨_, yb, vb, rb, db⟩ := (show ObjOk X.prog X.w H s.heap b (.dK ls) from I.hok b _ hb)
  refine PySem.W.keq_eq (knd := mixKind X.prog X.w) (r := true) ya yb da db (by omega) (fun _ => hitsD I (by show X.A.units + 1 + 64 < cLine; omega) rb ra hp) ?_
  have e : va.length = vb.length := by rw [← ra.length, ← rb.length]; exact hl
  rw [show (va.length == vb.length && true) = true from by rw [e]; simp]
  exact ⟨.bl true, H, I, rfl, q⟩
end
/-! ### shapes, sorted twice -/
theorem sh_names (W : List Way) : (sh W).map (·.1) = srt (W.map (·.1)) := by
  unfold sh
  rw [List.map_map]
  exact List.map_id _
theorem srt_srt (l : List Str) : srt (srt l) = srt l := srt_of_perm (srt_perm l)
theorem sh_sh {W : List Way} (ok : WOk W) : sh (sh W) = sh W := by
  have nd := ok.sok.nd
  show (srt ((sh W).map (·.1))).map (fun k => (k, srt (lookW (sh W) k))) = sh W
  rw [sh_names, srt_srt, ← sh_names, List.map_map]
  have : ∀ q ∈ sh W, ((fun k => (k, srt (lookW (sh W) k))) ∘ fun q : Way => q.1) q = q := fun q hq => by
    show (q.1, srt (lookW (sh W) q.1)) = q
    rw [lookW_of nd hq]
    obtain ⟨q0, _, rfl⟩ := sh_of ok.nd hq
    show (q0.1, srt (srt q0.2)) = (q0.1, srt q0.2)
    rw [srt_srt]
  rw [List.map_congr_left this, List.map_id']
theorem strs_shaped {zs : List Str} (h : ∀ z ∈ zs, isNm z = true) : SeqAt.shaped (.list (zs.map PyData.str)) = true := by
  unfold SeqAt.shaped
  rw [PyData.canLay0, lay_strs fun z hz => nm_strOk (h z hz), PyData.depth, depth_strs]
  rfl
theorem eqv_strs {zs : List Str} (h : ∀ z ∈ zs, isNm z = true) : PyData.eqv (.list (zs.map PyData.str)) (.list (zs.map PyData.str)) = true := SeqAt.eqv_refl _ (shaped_lay (strs_shaped h))
theorem dp_strs {K : PySem.W.Frag} {H : Hp} {a : Addr} {zs : List Str} (h : H a = some (.lst (zs.map V.str))) : Dp K H (.ref a) (.list (zs.map PyData.str)) := .lst (SqL.of h) (dpAll_strs zs)
theorem valV_mem {κ : Type} [DecidableEq κ] {kvs : List (κ × V)} {k : κ} {v : V} (h : valV kvs k = some v) : ∃ kv ∈ kvs, kv.2 = v := by
  unfold valV at h
  obtain ⟨kv, h1, h2⟩ := Option.map_eq_some_iff.mp h
  exact ⟨kv, List.mem_of_find?_eq_some h1, h2⟩
theorem kvl_mem {N : Addr → Prop} {H : Hp} {S : List Way} {kvs : List (Key × V)} (h : Paired (KvL N H) S kvs) {kv : Key × V} (m : kv ∈ kvs) : ∃ q ∈ S, KvL N H q kv := by
  obtain ⟨i, hi, ei⟩ := List.getElem_of_mem m
  obtain ⟨q, hq, r⟩ := paired_get h (show kvs[i]? = some kv by rw [List.getElem?_eq_getElem hi, ei])
  exact ⟨q, List.mem_of_getElem? hq, r⟩
theorem shl_same {K : PySem.W.Frag} {N M : Addr → Prop} {H : Hp} {a b : Addr} {S : List Way} (ok : SOk S) (h1 : ShL N H a S) (h2 : ShL M H b S) : SameD K H a b := by
  obtain ⟨ks, ha, p1⟩ := h1
  obtain ⟨ls, hb, p2⟩ := h2
  refine ⟨ks, ls, ha, hb, by rw [← Paired.length p1, ← Paired.length p2], fun p hp => ?_⟩
  obtain ⟨i, hi, ei⟩ := List.getElem_of_mem hp
  obtain ⟨q, hq, ek, c, ev, _, hc⟩ := paired_get p1 (show ks[i]? = some p by rw [List.getElem?_eq_getElem hi, ei])
  have hqm := List.mem_of_getElem? hq
  obtain ⟨c', hv, _, hc'⟩ := way_at p2 ok.nd hqm
  refine ⟨.ref c', .list (q.2.map PyData.str), by rw [ek]; exact hv, ?_, dp_strs hc', strs_shaped (ok.wn q hqm)⟩
  rw [ev]
  exact dp_strs hc
/-! ### _law_shape_right -/
def spShapeR (K : PySem.W.Frag) (C : Addr) : Sp := fun args H Q _ => ∃ (g d : Addr) (W : List Way) (N : Addr → Prop) (γ : List Str → List Int), args = [.ref g, .ref d] ∧ IsG K C N H g (sh W) γ ∧ ShL (fun _ => True) H d W ∧ WOk W ∧ ∀ H', Same H H' → Q (.bl true) H'
section
variable {P : Program} {w : World} {K : PySem.W.Frag} {mg : Str → Option Value} {base : Heap} {C : Addr}
variable {fShape fNames fName fSorted fStds fTable fInts fInt fOne fPut : Addr} {dShape dNames dName dSorted dStds dTable dInts dInt dOne dPut : FuncData}
end
end HG

namespace HG
open PySem PySem.Spec PyProof.Rows L2 HT
open C8 (pss_cut tCut)
/-! ### ints as data -/
theorem dpAll_ints {K : PySem.W.Frag} {H : Hp} : ∀ (ns : List Int), DpAll K H (ns.map V.int) (ns.map PyData.int)
  | [] => .nil
  | x :: xs => .cons (.int x) (dpAll_ints xs)
theorem lay_ints : ∀ ns : List Int, PyData.canLayAll0 (ns.map PyData.int) = true
  | [] => by simp [PyData.canLayAll0]
  | x :: xs => by
    rw [List.map_cons, PyData.canLayAll0, lay_ints xs, PyData.canLay0]
    rfl
theorem depth_ints : ∀ ns : List Int, PyData.depthAll (ns.map PyData.int) = 0
  | [] => by simp [PyData.depthAll]
  | x :: xs => by
    rw [List.map_cons, PyData.depthAll, depth_ints xs, PyData.depth]
    rfl
theorem tupI_shaped (ns : List Int) : SeqAt.shaped (.tuple (ns.map PyData.int)) = true := by
  unfold SeqAt.shaped
  rw [PyData.canLay0, lay_ints, PyData.depth, depth_ints]
  rfl
theorem dp_row {K : PySem.W.Frag} {H : Hp} {a : Addr} {ns : List Int} (h : SqT K H a (ns.map V.int)) : Dp K H (.ref a) (.tuple (ns.map PyData.int)) := .tup h (dpAll_ints ns)
theorem eqv_row (ns : List Int) : PyData.eqv (.tuple (ns.map PyData.int)) (.tuple (ns.map PyData.int)) = true := SeqAt.eqv_refl _ (shaped_lay (tupI_shaped ns))
theorem eqv_tups {sts : List (List Str)} (h : ∀ st ∈ sts, ∀ z ∈ st, isNm z = true) : PyData.eqv (.list (sts.map dT)) (.list (sts.map dT)) = true := SeqAt.eqv_refl _ (shaped_lay (tups_shaped h))
theorem atI_end {α : Type} {xs : List α} {v : α} (h : xs[xs.length - 1]? = some v) : atI xs (-1) = some v := by
  have hne : xs ≠ [] := by
    rintro rfl
    simp at h
  have e := List.dropLast_concat_getLast hne
  have e2 : xs.getLast hne = v := by
    rw [List.getLast_eq_getElem]
    obtain ⟨_, e3⟩ := List.getElem?_eq_some_iff.mp h
    exact e3
  rw [← e, e2]
  exact atI_last _ _
theorem cut_but (xs : List V) : cutV xs none (some (-1)) = xs.take (xs.length - 1) := by
  unfold cutV
  rw [show HT.sIx xs.length 0 none = 0 from rfl, List.drop_zero, Nat.sub_zero, show HT.sIx xs.length xs.length (some (-1)) = ((-1) + (xs.length : Int)).toNat from rfl]
  congr 1
  omega
/-! ### no standings -/
theorem map_str_inj {a b : List Str} (h : a.map V.str = b.map V.str) : a = b := List.map_inj_right (fun x y e => V.str.inj e) |>.mp h
theorem inG_no {S : List Way} {xs : List V} (h : ∀ st ∈ stds S, xs ≠ st.map V.str) : inG S xs = false := by
  unfold inG
  rw [decide_eq_false fun m => ?_, Bool.and_false]
  obtain ⟨st, hst, e⟩ := List.mem_map.mp m
  exact h st hst e.symm
theorem inG_len {S : List Way} {xs : List V} (h : xs.length ≠ S.length) : inG S xs = false := inG_no fun st hst e => h (by rw [e, List.length_map, stds_mem hst])
theorem inG_nm {S : List Way} {xs : List V} {x : V} (h : x ∈ xs) (n : nameV x = false) : inG S xs = false := by
  unfold inG
  rw [show xs.all nameV = false from List.all_eq_false.mpr ⟨x, h, by rw [n]; exact Bool.false_ne_true⟩, Bool.false_and]
def OddV (K : PySem.W.Frag) (S : List Way) (H : Hp) (x : V) : Prop := (∃ a xs, x = .ref a ∧ H a = some (.tup xs) ∧ xs.length ≤ 10000 ∧ (∀ y ∈ xs, ∃ t, AnyV K H y t) ∧ inG S xs = false) ∨ (∃ t, AnyV K H x t ∧ t ≠ .tup)
theorem OddV.same {K : PySem.W.Frag} {S : List Way} {H H' : Hp} {x : V} (h : OddV K S H x) (s : Same H H') : OddV K S H' x := by
  rcases h with ⟨a, xs, e, h, l, n, g⟩ | ⟨t, h, n⟩
  · exact .inl ⟨a, xs, e, s _ _ h, l, fun y hy => let ⟨t, q⟩ := n y hy; ⟨t, q.same s⟩, g⟩
  · exact .inr ⟨t, h.same s, n⟩
theorem rep_mem {n : Nat} {xs : List V} {y : V} (h : y ∈ (List.replicate n xs).flatten) : y ∈ xs := by
  obtain ⟨l, hl, hy⟩ := List.mem_flatten.mp h
  rw [(List.mem_replicate.mp hl).2] at hy
  exact hy
theorem rep_has {n : Nat} {xs : List V} {y : V} (hn : 1 ≤ n) (h : y ∈ xs) : y ∈ (List.replicate n xs).flatten := List.mem_flatten.mpr ⟨xs, List.mem_replicate.mpr ⟨by omega, rfl⟩, h⟩
theorem rep_len (n : Nat) (xs : List V) : ((List.replicate n xs).flatten).length = n * xs.length := by
  induction n with
  | zero => simp
  | succ n ih => rw [List.replicate_succ, List.flatten_cons, List.length_append, ih, Nat.succ_mul]; omega
/-- t * k, the tuple as it lies -/
def rRepB : R2 := fun x y H Q => ∃ l k xs, x = .ref l ∧ y = .int k ∧ H l = some (.tup xs) ∧ xs ≠ [] ∧ 1 ≤ k ∧ k ≤ 1000 ∧ xs.length ≤ 1000 ∧ ∀ H' p, Same H H' → H' p = some (.tup (List.replicate k.toNat xs).flatten) → Q (.ref p) H'
theorem op_repB {X : Cx} : OpR X (binaryOp .Mult) rRepB := by
  intro pins s σ H x y v u Q I rx ry h
  obtain ⟨l, k, xs, rfl, rfl, hT, hne, h1, h2, hz, q⟩ := h
  by_cases hk : k = 1
  · subst hk
    cases rx
    obtain ⟨t, rfl⟩ := ry
    obtain ⟨its, r, ⟨⟨cls, dd, data, sl⟩, ho, hc, n, hd⟩, hs⟩ := I.tuple (SqT.of hT)
    simp only at hc hd
    subst hc hd
    refine wpAny_binaryOp_repeat_ref (T := "tuple") (U := "int") (by decide) ⟨_, ho, rfl⟩ (fun s' => typeIs_int s' 1 t) noFill_tuple_mul F.fills_int_mul F.slot_int_rmul repeat_tuple F.slot_int_index.lookup
      (call_meets F.slot_int_rmul (typeIs_int s 1 t) F.entry_int_rmul (F.args_int_rmul_2 _ _) (int_rmul_tuple 1 t l its.toArray n dd sl)
        ⟨ho, rfl, ⟨_, ho, rfl⟩, call_meets F.slot_tuple_mul ⟨_, ho, rfl⟩ F.entry_tuple_mul (F.args_tuple_mul_2 _ _) (tuple_mul1 l its.toArray n dd sl t) ⟨ho, ?_⟩⟩)
    refine ⟨.ref l, H, I, rfl, q H l (Same.refl _) ?_⟩
    show H l = some (.tup (List.replicate 1 xs).flatten)
    rw [List.replicate_one, List.flatten_cons, List.flatten_nil, List.append_nil]
    exact hT
  · exact op_repT pins s σ H _ _ v u Q I rx ry ⟨l, k, xs, rfl, rfl, SqT.of hT, hne, by omega, h2, hz, fun p hp => q _ p (same_upd hp) upd_same⟩
/-- the gains, row by row -/
def GnAt (H : Hp) (gd : Addr) (W : List Way) (γ : List Str → List Int) : Prop := ∃ kvs, H gd = some (.dT kvs) ∧ ∀ st ∈ stds (sh W), (γ st).length = W.length ∧ ∃ a, valV kvs (kS st) = some (.ref a) ∧ H a = some (.tup ((γ st).map V.int))
theorem GnAt.same {H H' : Hp} {gd : Addr} {W : List Way} {γ : List Str → List Int} (h : GnAt H gd W γ) (s : Same H H') : GnAt H' gd W γ := by
  obtain ⟨kvs, e, h⟩ := h
  exact ⟨kvs, s _ _ e, fun st hst => let ⟨l, a, v, q⟩ := h st hst; ⟨l, a, v, s _ _ q⟩⟩
theorem GnAt.get {K : PySem.W.Frag} {H : Hp} {gd c : Addr} {W : List Way} {γ : List Str → List Int} {st : List Str} (h : GnAt H gd W γ) (hst : st ∈ stds (sh W)) (hc : H c = some (.tup (st.map V.str))) : ∃ a, DGet H gd (.ref c) (some (.ref a)) ∧ H a = some (.tup ((γ st).map V.int)) := by
  obtain ⟨kvs, e, h⟩ := h
  obtain ⟨_, a, v, q⟩ := h st hst
  refine ⟨a, ?_, q⟩
  rw [← v]
  exact DGet.t (k := kS st) e (by rw [kS_v]; exact hc)
/-! ### _law_standings_right -/
def spStdsR (K : PySem.W.Frag) (C : Addr) : Sp := fun args H Q _ => ∃ (g d gd : Addr) (W : List Way) (N : Addr → Prop) (γ : List Str → List Int), args = [.ref g, .ref d, .ref gd] ∧ IsG K C N H g (sh W) γ ∧ ShL (fun _ => True) H d W ∧ WOk W ∧ GnAt H gd W γ ∧ ∀ H', Same H H' → Q (.bl true) H'
section
variable {P : Program} {w : World} {K : PySem.W.Frag} {mg : Str → Option Value} {base : Heap} {C : Addr}
variable {fShape fNames fName fSorted fStds fTable fInts fInt fOne fPut : Addr} {dShape dNames dName dSorted dStds dTable dInts dInt dOne dPut : FuncData}
variable {fT fO fN fS fW fNr : Addr} {dT' dO dN dS dW dNr : FuncData}
end
end HG

namespace HG
open PySem PySem.Spec PyProof.Rows L2
open C8 (pss_cut tCut)
/-! ### the law's own walks -/
theorem ix_name {S : List Way} {i : Nat} {z : Str} (nd : (names S).Nodup) (h : (names S)[i]? = some z) :
    ((names S).map V.str)[i]? = some (V.str z) ∧ eqV (V.str z) (V.str z) = true ∧ ∀ m z', m < i → ((names S).map V.str)[m]? = some z' → eqV z' (V.str z) = false := by
  refine ⟨by rw [List.getElem?_map, h]; rfl, by rw [str_beq]; exact decide_eq_true rfl, fun m z' hm hz' => ?_⟩
  rw [List.getElem?_map] at hz'
  obtain ⟨u, hu, rfl⟩ := Option.map_eq_some_iff.mp hz'
  rw [str_beq]
  refine decide_eq_false fun e => ?_
  subst e
  obtain ⟨h1, e1⟩ := List.getElem?_eq_some_iff.mp hu
  obtain ⟨h2, e2⟩ := List.getElem?_eq_some_iff.mp h
  have := (List.getElem_inj nd).mp (e1.trans e2.symm)
  omega
def spMoved : Sp := fun args H Q _ => ∃ (d a b : Addr) (W : List Way) (st : List Str) (c : Ch), args = [.ref d, .ref a, .ref b] ∧ ShL (fun _ => True) H d W ∧ WOk W ∧ H a = some (.tup (st.map V.str)) ∧ st.length = W.length ∧ H b = some (.tup [.str c.1, .str c.2]) ∧ c.1 ∈ names (sh W) ∧
  ∀ H' p, Same H H' → H' p = some (.tup ((putP (sh W) st c).map V.str)) → Q (.ref p) H'
def spLCan : Sp := fun args H Q _ => ∃ (d a b : Addr) (W : List Way) (st : List Str) (c : Ch) (i : Nat) (q : Way) (z : Str), args = [.ref d, .ref a, .ref b] ∧ ShL (fun _ => True) H d W ∧ WOk W ∧ H a = some (.tup (st.map V.str)) ∧ H b = some (.tup [.str c.1, .str c.2]) ∧
  (sh W)[i]? = some q ∧ q.1 = c.1 ∧ c.2 ∈ q.2 ∧ st[i]? = some z ∧ ∀ H', Same H H' → Q (.bl (!decide (z = c.2))) H'
section
variable {P : Program} {w : World} {K : PySem.W.Frag} {mg : Str → Option Value} {base : Heap}
theorem ok_moved {f : Addr} {fd : FuncData} (ms : mg "sorted" = none) (D : Df K mg "_law_moved" s_law_moved f fd) : FnOk P w K mg base CX0 1 f fd ["_law_ways", "_law_standing", "_law_change"] spMoved := by
  have S : FnScope ["_law_ways", "_law_standing", "_law_change", "_law_at"] ["_law_ways", "_law_standing", "_law_change"] (defScope s_law_moved) := ⟨rfl, rfl, rfl, by decide +kernel, rfl, by decide +kernel, by decide +kernel⟩
  have nd := S.nd
  refine D.F.ok S (fun vs H Q E h => ?_) (fun cdv A outer s H vs Q E hr h => ?_)
  · obtain ⟨d, a, b, W, st, c, rfl, _⟩ := h
    rfl
  · obtain ⟨d, a, b, W, st, c, rfl, hW, ok, ha, hl, hb, hc, q⟩ := h
    refine ⟨_, pss_cons (ps_set (i := 3) nd rfl (Or.inl rfl) (pe_bm PySem.F.plainAttrs_list PySem.F.slot_list_index PySem.F.type_list_index mt_index (pe_callB (call_srtD rfl) (by rfl) ms (by decide +kernel) (pa_cons (pv 0) pa_nil)) (pa_cons (pe_ix ix_tup (pv 2) pe_int (fun _ _ => rfl)) pa_nil)))
      (pss_one (ps_ret (pe_op op_catB (pe_op op_catB (pe_slice sl_tupB (pv 1) po_none (po_some (pv 3))) (pe_tup (pa_cons (pe_ix ix_tup (pv 2) pe_int (fun _ _ => rfl)) pa_nil))) (pe_slice sl_tupB (pv 1) (po_some (pe_op op_add (pv 3) pe_int)) po_none)))), ?_⟩
    obtain ⟨kw, hd, hp⟩ := id hW
    have sok := ok.sok
    have n4 := ok.n4
    have hnm : srt (W.map (·.1)) = names (sh W) := (sh_names W).symm
    obtain ⟨c1, c2⟩ := c
    obtain ⟨i, hi⟩ := List.mem_iff_getElem?.mp hc
    have hi' := hi
    unfold names at hi'
    rw [List.getElem?_map] at hi'
    obtain ⟨qw, hq, e⟩ := Option.map_eq_some_iff.mp hi'
    have e' : qw.1 = c1 := e
    subst e'
    have hil : i < st.length := by
      rw [hl, ← sh_len W]
      exact (List.getElem?_eq_some_iff.mp hq).1
    obtain ⟨i1, i2, i3⟩ := ix_name sok.nd hi
    refine ⟨_, rfl, d, kw, W.map (·.1), rfl, hd, keysL hp, (by rw [List.length_map]; exact Nat.lt_of_le_of_lt n4 (by decide)), fun np nn => ?_⟩
    rw [hnm]
    have s1 := same_upd (o := .lst ((names (sh W)).map V.str)) nn
    refine ⟨.inl ⟨rfl, _, SqL.of upd_same⟩, _, rfl, b, _, 0, .str qw.1, rfl, rfl, SqT.of (s1 _ _ hb), rfl, np, _, .str qw.1, i, .str qw.1, rfl, rfl, SqL.of upd_same, rfl, flat_strs _, i1, i2, i3, ?_⟩
    have ha1 := s1 _ _ ha
    have hb1 := s1 _ _ hb
    generalize (upd H np (.lst ((names (sh W)).map V.str))) = H1 at s1 ha1 hb1
    refine ⟨_, rfl, _, rfl, (i : Int), rfl, a, _, rfl, ha1, fun Ha ga sa hga => ?_⟩
    rw [cut_to] at hga
    refine ⟨_, rfl, b, _, 1, .str c2, rfl, rfl, SqT.of (sa _ _ hb1), rfl, (by show 1 ≤ sizeLine; decide), fun pt npt => ?_⟩
    have spt := same_upd (o := .tup [V.str c2]) npt
    have n4' : st.length ≤ 4 := by rw [hl]; exact n4
    refine ⟨ga, pt, _, _, rfl, rfl, spt _ _ hga, upd_same, (by rw [List.length_take, List.length_map]; show min i st.length + 1 ≤ 1000; omega), fun Hb gb sb hgb => ?_⟩
    refine ⟨_, rfl, _, rfl, _, _, rfl, rfl, ((i + 1 : Nat) : Int), rfl, a, _, rfl, sb _ _ (spt _ _ (sa _ _ ha1)), fun Hc gc sc hgc => ?_⟩
    rw [cut_from] at hgc
    refine ⟨gb, gc, _, _, rfl, rfl, sc _ _ hgb, hgc, (by rw [List.length_append, List.length_take, List.length_drop, List.length_map]; show min i st.length + 1 + _ ≤ 1000; omega), fun Hg gp sd hgo => ?_⟩
    refine q Hg gp (s1.trans (sa.trans (spt.trans (sb.trans (sc.trans sd))))) ?_
    rw [hgo, putP_at sok.nd hq (by rw [hl, sh_len]), List.set_eq_take_append_cons_drop, if_pos hil, List.map_append, List.map_take, List.map_cons, List.map_drop, List.append_assoc]
    rfl
theorem ok_lcan {f : Addr} {fd : FuncData} (ms : mg "sorted" = none) (D : Df K mg "_law_can" s_law_can f fd) : FnOk P w K mg base CX0 1 f fd ["_law_ways", "_law_standing", "_law_change"] spLCan := by
  have S : FnScope ["_law_ways", "_law_standing", "_law_change"] ["_law_ways", "_law_standing", "_law_change"] (defScope s_law_can) := ⟨rfl, rfl, rfl, by decide +kernel, rfl, by decide +kernel, by decide +kernel⟩
  have nd := S.nd
  refine D.F.ok S (fun vs H Q E h => ?_) (fun cdv A outer s H vs Q E hr h => ?_)
  · obtain ⟨d, a, b, W, st, c, i, q, z, rfl, _⟩ := h
    rfl
  · obtain ⟨d, a, b, W, st, c, i, qw, z, rfl, hW, ok, ha, hb, hq, e, hv, hz, q⟩ := h
    have hu := hu_of hr
    refine ⟨_, pss_cons (ps_if (PW.pt (pw_or (pt_cmp (pc_dnotin hu (pe_ix ix_tup (pv 2) pe_int (fun _ _ => rfl)) (pv 0))) (pw_or1 (pt_cmpR op_notIn_seq (pe_ix ix_tup (pv 2) pe_int (fun _ _ => rfl)) (pe_dget hu (pv 0) (pe_ix ix_tup (pv 2) pe_int (fun _ _ => rfl)) (fun _ _ => rfl)) (by rfl))))) (pss_one (ps_ret pe_bl)) pss_nil)
      (pss_one (ps_ret (pe_cmpR op_ne (pe_ix ix_tup (pv 1) (pe_bm PySem.F.plainAttrs_list PySem.F.slot_list_index PySem.F.type_list_index mt_index (pe_callB (call_srtD rfl) (by rfl) ms (by decide +kernel) (pa_cons (pv 0) pa_nil)) (pa_cons (pe_ix ix_tup (pv 2) pe_int (fun _ _ => rfl)) pa_nil)) (fun _ _ => rfl)) (pe_ix ix_tup (pv 2) pe_int (fun _ _ => rfl)) (nomark _)))), ?_⟩
    obtain ⟨c1, c2⟩ := c
    have e' : qw.1 = c1 := e
    subst e'
    obtain ⟨kw, hd, hp⟩ := id hW
    have sok := ok.sok
    have n4 := ok.n4
    have hnm : srt (W.map (·.1)) = names (sh W) := (sh_names W).symm
    have hqm : qw ∈ sh W := List.mem_of_getElem? hq
    obtain ⟨q0, h0, eq0⟩ := sh_of ok.nd hqm
    obtain ⟨aw, hw, _, haw⟩ := way_at hp ok.nd h0
    have en : q0.1 = qw.1 := by rw [eq0]
    have hv0 : c2 ∈ q0.2 := by
      have hv' : c2 ∈ qw.2 := hv
      rw [eq0] at hv'
      exact srt_mem.mp hv'
    have hg : DGet H d (.str qw.1) (some (.ref aw)) := by
      rw [← hw, ← en]
      exact DGet.k (k := Sum.inr q0.1) hd
    refine ⟨_, rfl, b, _, 0, .str qw.1, rfl, rfl, SqT.of hb, rfl, _, rfl, d, _, rfl, hg, _, rfl, iteF ?_⟩
    refine ⟨_, rfl, b, _, 1, .str c2, rfl, rfl, SqT.of hb, rfl, _, rfl, _, rfl, b, _, 0, .str qw.1, rfl, rfl, SqT.of hb, rfl, d, _, rfl, hg, aw, _, rfl, .inl (SqL.of haw), rfl, flat_strs _, _, rfl, ?_⟩
    rw [if_pos rfl, inV_strs, decide_eq_true hv0]
    refine iteF ?_
    obtain ⟨i1, i2, i3⟩ := ix_name sok.nd (names_at hq)
    refine ⟨_, rfl, _, rfl, d, kw, W.map (·.1), rfl, hd, keysL hp, (by rw [List.length_map]; exact Nat.lt_of_le_of_lt n4 (by decide)), fun np nn => ?_⟩
    rw [hnm]
    have s1 := same_upd (o := .lst ((names (sh W)).map V.str)) nn
    refine ⟨.inl ⟨rfl, _, SqL.of upd_same⟩, _, rfl, b, _, 0, .str qw.1, rfl, rfl, SqT.of (s1 _ _ hb), rfl, np, _, .str qw.1, i, .str qw.1, rfl, rfl, SqL.of upd_same, rfl, flat_strs _, i1, i2, i3, ?_⟩
    refine ⟨a, _, _, .str z, rfl, rfl, SqT.of (s1 _ _ ha), atI_nat (by rw [List.getElem?_map, hz]; rfl), _, rfl, b, _, 1, .str c2, rfl, rfl, SqT.of (s1 _ _ hb), rfl, rfl, ?_⟩
    have := q _ s1
    rwa [show decide (z = c2) = decide (V.str z = V.str c2) by
      rw [Bool.eq_iff_iff, decide_eq_true_iff, decide_eq_true_iff]
      exact ⟨fun h => by rw [h], fun h => V.str.inj h⟩] at this
end
end HG

namespace HG
open PySem PySem.Spec PyProof.Rows L2 HT
open C8 (pss_cut tCut)
/-! ### what stands while the bag changes -/
theorem seqT_but {K : PySem.W.Frag} {H H' : Hp} {b a : Addr} {xs : List V} (kb : But b H H') (hb : ∃ ys, H b = some (.lst ys)) (h : SqT K H a xs) : SqT K H' a xs := by
  obtain ⟨ys, hb⟩ := hb
  rcases h with (h | ⟨o, h⟩) | h
  · exact .inl (.inl (kb _ _ h (ne_of h hb (by intro z; cases z))))
  · exact .inl (.inr ⟨o, kb _ _ h (ne_of h hb (by intro z; cases z))⟩)
  · exact .inr h
theorem GameAt.but {K : PySem.W.Frag} {C : Addr} {N : Addr → Prop} {H H' : Hp} {g : Addr} {S : List Way} {γ : List Str → List Int} {dx w l t : Addr} {vs : List V} {kvs : List (List Key × V)} {b k : Addr} {ns : List Int} (G : GameAt K C N H g S γ dx w l t vs kvs) (ok : SOk S) (B : ABag H b k ns) (kb : But b H H') :
    GameAt K C N H' g S γ dx w l t vs kvs where
  hg := by
    obtain ⟨ys, hb⟩ := abag_ne B
    exact kb _ _ G.hg (ne_of G.hg hb (by intro z; cases z))
  ng := G.ng
  hw := G.hw.but B ok.w1 kb
  nw := G.nw
  hl := by
    refine kb _ _ G.hl fun z => ?_
    obtain ⟨a0, c0, n0, B⟩ := B
    have h := G.hl
    rw [z, B.at_] at h
    have hv := HO.lst.inj (Option.some.inj h)
    have p := G.hs
    rw [← hv] at p
    have l1 := Paired.length p
    have l2 := stds_ne ok
    obtain ⟨_, _, _, e, _⟩ := paired_get p (show [V.int a0, .int c0, .int n0, .ref k][0]? = some (V.int a0) from rfl)
    cases e
  nl := G.nl
  hs := G.hs.tups fun c xs h => by
    obtain ⟨ys, hb⟩ := abag_ne B
    exact kb _ _ h (ne_of h hb (by intro z; cases z))
  ht := by
    obtain ⟨ys, hb⟩ := abag_ne B
    exact kb _ _ G.ht (ne_of G.ht hb (by intro z; cases z))
  nt := G.nt
  hk := paired_imp G.hk fun st kv ⟨e, a, ev, h⟩ => ⟨e, a, ev, seqT_but kb (abag_ne B) h⟩
theorem IsG.but {K : PySem.W.Frag} {C : Addr} {N : Addr → Prop} {H H' : Hp} {g : Addr} {S : List Way} {γ : List Str → List Int} {b k : Addr} {ns : List Int} (G : IsG K C N H g S γ) (ok : SOk S) (B : ABag H b k ns) (kb : But b H H') : IsG K C N H' g S γ :=
  let ⟨dx, w, l, t, vs, kvs, h⟩ := G; ⟨dx, w, l, t, vs, kvs, h.but ok B kb⟩
theorem GnAt.but {H H' : Hp} {gd b k : Addr} {ns : List Int} {W : List Way} {γ : List Str → List Int} (h : GnAt H gd W γ) (B : ABag H b k ns) (kb : But b H H') : GnAt H' gd W γ := by
  obtain ⟨ys, hb⟩ := abag_ne B
  obtain ⟨kvs, e, h⟩ := h
  exact ⟨kvs, kb _ _ e (ne_of e hb (by intro z; cases z)), fun st hst => let ⟨l, a, v, q⟩ := h st hst; ⟨l, a, v, kb _ _ q (ne_of q hb (by intro z; cases z))⟩⟩
/-! ### the due changes, chooser by chooser -/
def dueTo (S : List Way) (st : List Str) (i : Nat) : List Ch := (chs (S.take i)).filter (mayDo S st)
theorem dueTo_all (S : List Way) (st : List Str) : dueTo S st S.length = due S st := by
  unfold dueTo due
  rw [List.take_length]
theorem dueTo_more {S : List Way} {st : List Str} {i : Nat} {q : Way} {z : Str} (nd : (names S).Nodup) (hq : S[i]? = some q) (hz : st[i]? = some z) : dueTo S st (i + 1) = dueTo S st i ++ (q.2.filter fun v => !decide (v = z)).map fun v => (q.1, v) := by
  unfold dueTo
  rw [chs_more hq, List.filter_append, List.filter_map]
  congr 2
  refine List.filter_congr fun v _ => ?_
  exact mayDo_at nd hq hz
theorem chs_tups {H : Hp} {cs : List Ch} {vs : List V} (h : Paired (ChAt H) cs vs) : TupsAt H (cs.map fun c => [c.1, c.2]) vs := by
  induction h with
  | nil => exact .nil
  | cons r _ ih =>
    obtain ⟨a, e, q⟩ := r
    exact .cons ⟨a, e, q⟩ ih
theorem due_len {S : List Way} (ok : SOk S) (st : List Str) : (due S st).length ≤ 16 := by
  have h1 := chs_len ok.w4
  have h2 := ok.n4
  exact Nat.le_trans (List.length_filter_le _ _) (by omega)
theorem due_nm {S : List Way} (ok : SOk S) {st : List Str} : ∀ x ∈ (due S st).map (fun c => [c.1, c.2]), ∀ z ∈ x, isNm z = true := by
  intro x hx z hz
  obtain ⟨c, hc, rfl⟩ := List.mem_map.mp hx
  obtain ⟨q, hq, e, hv⟩ := mem_chs.mp (List.mem_filter.mp hc).1
  simp only [List.mem_cons, List.not_mem_nil, or_false] at hz
  rcases hz with rfl | rfl
  · rw [← e]
    exact ok.nm q hq
  · exact ok.wn q hq _ hv
theorem dueTo_len {S : List Way} (ok : SOk S) (st : List Str) (i : Nat) : (dueTo S st i).length ≤ 16 := by
  have h1 := chs_len (S := S.take i) fun q hq => ok.w4 q (List.mem_of_mem_take hq)
  have h2 := ok.n4
  have h3 : (S.take i).length ≤ S.length := List.length_take_le' ..
  exact Nat.le_trans (List.length_filter_le _ _) (by omega)
/-! ### _law_changes_right -/
def spChangesR (K : PySem.W.Frag) (C : Addr) : Sp := fun args H Q _ => ∃ (b k g d gd : Addr) (ns : List Int) (W : List Way) (N : Addr → Prop) (γ : List Str → List Int), args = [.ref b, .ref g, .ref d, .ref gd] ∧ ABag H b k ns ∧ IsG K C N H g (sh W) γ ∧ ShL (fun _ => True) H d W ∧ WOk W ∧ GnAt H gd W γ ∧
  ∀ H', But b H H' → ABag H' b k ns → Q (.bl true) H'
section
variable {P : Program} {w : World} {K : PySem.W.Frag} {mg : Str → Option Value} {base : Heap} {C : Addr}
variable {fShape fNames fName fSorted fStds fTable fInts fInt fOne fPut : Addr} {dShape dNames dName dSorted dStds dTable dInts dInt dOne dPut : FuncData}
variable {fT fO fN fS fW fM fCh : Addr} {dT' dO dN dS dW dM dCh : FuncData}
abbrev NsC : List Str := ["_law_bag_here", "_law_game", "_law_ways", "_law_gains_here", "_law_names_here", "_law_standing", "_law_due", "_law_at", "_law_chooser", "_law_way", "_law_found", "_law_goal", "_law_change"]
end
end HG

namespace HG
open PySem PySem.Spec PyProof.Rows L2 HT
open C8 (pss_cut tCut)
theorem can_due {S : List Way} {st : List Str} {c : Ch} (ok : SOk S) (hst : st ∈ stds S) (h : c ∈ due S st) : canP S st c = true ∧ c.1 ∈ names S ∧ isNm c.1 = true ∧ isNm c.2 = true := by
  obtain ⟨h1, h2⟩ := List.mem_filter.mp h
  obtain ⟨q, hq, e, hv⟩ := mem_chs.mp h1
  obtain ⟨c1, c2⟩ := c
  have e' : q.1 = c1 := e
  subst e'
  obtain ⟨i, hi⟩ := List.mem_iff_getElem?.mp hq
  have hl : i < st.length := by rw [stds_mem hst]; exact (List.getElem?_eq_some_iff.mp hi).1
  have hz : st[i]? = some st[i] := List.getElem?_eq_getElem hl
  rw [mayDo_at ok.nd hi hz] at h2
  refine ⟨?_, List.mem_map.mpr ⟨q, hq, rfl⟩, ok.nm q hq, ok.wn q hq _ hv⟩
  rw [canP_at ok.nd hi hz, decide_eq_true hv, Bool.true_and]
  exact h2
def spLChanges : Sp := fun args H Q _ => ∃ (d a : Addr) (W : List Way) (st : List Str), args = [.ref d, .ref a] ∧ ShL (fun _ => True) H d W ∧ WOk W ∧ H a = some (.tup (st.map V.str)) ∧ st ∈ stds (sh W) ∧
  ∀ H' p es, Same H H' → H p = none → H' p = some (.lst es) → Paired (ChAt H') (due (sh W) st) es → Q (.ref p) H'
section
variable {P : Program} {w : World} {K : PySem.W.Frag} {mg : Str → Option Value} {base : Heap}
abbrev NsCh : List Str := ["_law_ways", "_law_standing", "_law_found", "_law_chooser", "_law_way"]
theorem ok_lchanges {f fc : Addr} {fd dc : FuncData} (ms : mg "sorted" = none) (DC : DfB K mg "_law_can" s_law_can ["_law_ways", "_law_standing", "_law_change"] fc dc) (D : Df K mg "_law_changes" s_law_changes f fd) : FnOk P w K mg base CX0 2 f fd ["_law_ways", "_law_standing"] spLChanges := by
  have S : FnScope NsCh ["_law_ways", "_law_standing"] (defScope s_law_changes) := ⟨rfl, rfl, rfl, by decide +kernel, rfl, by decide +kernel, by decide +kernel⟩
  have nd := S.nd
  refine D.F.ok S (fun vs H Q E h => ?_) (fun cdv A outer s H vs Q E hr h => ?_)
  · obtain ⟨d, a, W, st, rfl, _⟩ := h
    rfl
  · obtain ⟨d, cc, W, st, rfl, hW, ok, hc0, hstm, q⟩ := h
    have hu := hu_of hr
    have oC := ok_lcan (P := P) (w := w) (base := base) ms DC.d
    refine ⟨_, pss_cons (ps_set (i := 2) nd rfl (Or.inl rfl) (pe_lst pa_nil))
      (pss_cons (ps_for PassesOwn.never rfl (pi_list (pe_callB (call_srtD rfl) (by rfl) ms (by decide +kernel) (pa_cons (pv 0) pa_nil))) (pg_name (i := 3) nd rfl (Or.inr rfl))
        (pss_one (ps_set (i := 2) nd rfl (Or.inl rfl) (pe_op op_cat (pv 2) (pe_lc (own := [("_law_way", 4)]) (g := gName 4) rfl nd (pi_list (pe_callB call_srt (by rfl) ms (by decide +kernel) (pa_cons (pe_dget hu (pv 0) (pv 3) (fun _ _ => rfl)) pa_nil))) (blkOk_by (N := NsCh) (sc := defScope s_law_changes) (by decide +kernel)) (fun _ _ _ _ _ => pg_name (i := 4) nd rfl (Or.inl rfl))
          (fun _ _ _ _ _ => pts_one (pt_val (pe_call oC hr (by rfl) DC.d.g DC.d.F.kp DC.b .nil pass0 (pa_cons (pv 0) (pa_cons (pv 1) (pa_cons (pe_tup (pa_cons (pv 3) (pa_cons (pv 4) pa_nil))) pa_nil)))))) (fun _ _ _ _ _ => pe_tup (pa_cons (pv 3) (pa_cons (pv 4) pa_nil))))))))
      (pss_one (ps_ret (pv 2)))), ?_⟩
    obtain ⟨kw, hd, hp⟩ := id hW
    have sok := ok.sok
    have n4 := ok.n4
    have shl : (sh W).length = W.length := sh_len W
    have stl : st.length = W.length := by rw [stds_mem hstm, shl]
    have hnm : srt (W.map (·.1)) = names (sh W) := (sh_names W).symm
    have snl : (names (sh W)).length = W.length := by unfold names; rw [List.length_map, shl]
    refine ⟨(by show 0 ≤ sizeLine; decide), fun e0 ne0 => ?_⟩
    have s0 := same_upd (o := .lst []) ne0
    refine ⟨_, rfl, d, kw, W.map (·.1), rfl, s0 _ _ hd, keysL hp, (by rw [List.length_map]; exact Nat.lt_of_le_of_lt n4 (by decide)), fun np nn => ?_⟩
    rw [hnm]
    have s1 := same_upd (o := .lst ((names (sh W)).map V.str)) nn
    refine ⟨np, rfl, ⟨_, SqL.of upd_same⟩, for_it (walk_list (K := K) (a := np) (xs := (names (sh W)).map V.str)) (fun j σ H' => ∃ dp es v3 v4, σ = [some (.ref d), some (.ref cc), some (.ref dp), v3, v4] ∧ Same H H' ∧ H dp = none ∧ H' dp = some (.lst es) ∧ Paired (ChAt H') (dueTo (sh W) st j) es ∧ H' np = some (.lst ((names (sh W)).map V.str)))
        ⟨e0, [], none, none, rfl, s0.trans s1, ne0, s1 _ _ upd_same, by rw [show dueTo (sh W) st 0 = [] from rfl]; exact .nil, upd_same⟩ (fun j σ H' _ ⟨_, _, _, _, _, _, _, _, _, hn⟩ => SqL.of hn) ?_ ?_⟩
    · rintro j x σ Hz H6 hj ⟨dp, es, v3, v4, rfl, s6, ndp, hdp, hes, hnp⟩ ⟨rfl, hx⟩
      rw [List.getElem?_map] at hx
      obtain ⟨zn, hzn, rfl⟩ := Option.map_eq_some_iff.mp hx
      unfold names at hzn
      rw [List.getElem?_map] at hzn
      obtain ⟨qj, hqj, rfl⟩ := Option.map_eq_some_iff.mp hzn
      have hqm := List.mem_of_getElem? hqj
      obtain ⟨q0, hq0, eqj⟩ := sh_of ok.nd hqm
      have hjl : j < st.length := by
        rw [stl, ← shl]
        exact (List.getElem?_eq_some_iff.mp hqj).1
      have hz : st[j]? = some st[j] := List.getElem?_eq_getElem hjl
      obtain ⟨aw, hv, _, haw⟩ := way_at (paired_imp hp fun q kv h => h.same s6) ok.nd hq0
      have eq1 : qj.1 = q0.1 := by rw [eqj]
      have eq2 : qj.2 = srt q0.2 := by rw [eqj]
      have hg : DGet H6 d (.str qj.1) (some (.ref aw)) := by
        rw [← hv, eq1]
        exact DGet.k (k := Sum.inr q0.1) (s6 _ _ hd)
      have w4 := ok.w4 q0 hq0
      refine ⟨_, rfl, _, rfl, _, rfl, d, _, rfl, hg, aw, q0.2, rfl, .inl (SqL.of haw), (by omega), fun wp nwp => ⟨wp, rfl, ⟨_, SqL.of upd_same⟩, fun D nD => ?_⟩⟩
      have s8 := same_upd (o := .lst ((srt q0.2).map V.str)) nwp
      have hwp : (upd H6 wp (.lst ((srt q0.2).map V.str))) wp = some (.lst ((srt q0.2).map V.str)) := upd_same
      have hdp8 := s8 _ _ hdp
      have hc8 := (s6.trans s8) _ _ hc0
      have hnp8 := s8 _ _ hnp
      have hes8 : Paired (ChAt (upd H6 wp (.lst ((srt q0.2).map V.str)))) (dueTo (sh W) st j) es := paired_imp hes fun _ _ h => h.same s8
      have s08 := s6.trans s8
      generalize (upd H6 wp (.lst ((srt q0.2).map V.str))) = H8 at s8 hwp hdp8 hc8 hes8 s08 nD hnp8
      have sD := same_upd (o := .lst []) nD
      have srl : (srt q0.2).length ≤ 4 := by
        rw [srt_len]
        exact w4
      refine lc_it (walk_list (K := K) (a := wp) (xs := (srt q0.2).map V.str)) (fun m H' => ∃ fs, H' D = some (.lst fs) ∧ Paired (ChAt H') ((((srt q0.2).take m).filter fun v => !decide (v = st[j])).map fun v => (qj.1, v)) fs ∧ Same H8 H') ⟨[], upd_same, .nil, sD⟩ (fun m H' _ ⟨_, _, _, sx⟩ => SqL.of (sx _ _ hwp)) ?_ ?_
      · rintro m y H9' H9 hm ⟨fs, hD, hfs, s9⟩ ⟨rfl, hy⟩
        rw [List.getElem?_map] at hy
        obtain ⟨v, hv', rfl⟩ := Option.map_eq_some_iff.mp hy
        have hfl : fs.length ≤ 4 := by
          rw [← Paired.length hfs, List.length_map]
          refine Nat.le_trans (List.length_filter_le _ _) ?_
          rw [List.length_take]
          omega
        have hvq : v ∈ qj.2 := by
          rw [eq2]
          exact List.mem_of_getElem? hv'
        refine ⟨rfl, _, rfl, _, rfl, _, rfl, _, rfl, (by show 2 ≤ sizeLine; decide), fun ta nta => ?_⟩
        have sa := same_upd (o := .tup [V.str qj.1, V.str v]) nta
        refine ⟨d, cc, ta, W, st, (qj.1, v), j, qj, st[j], rfl, hW.same (s08.trans (s9.trans sa)), ok, sa _ _ (s9 _ _ hc8), upd_same, hqj, rfl, hvq, hz, fun Hb sb => ⟨_, rfl, ?_⟩⟩
        rw [show decide (st[j] = v) = decide (v = st[j]) from decide_eq_decide.mpr eq_comm]
        have s9b := s9.trans (sa.trans sb)
        have hDb := sb _ _ (sa _ _ hD)
        have hfsb : Paired (ChAt Hb) ((((srt q0.2).take m).filter fun v => !decide (v = st[j])).map fun v => (qj.1, v)) fs := paired_imp hfs fun _ _ h => h.same (sa.trans sb)
        have tk : (srt q0.2).take (m + 1) = (srt q0.2).take m ++ [v] := by
          rw [List.take_add_one, hv']
          rfl
        cases e : decide (v = st[j]) with
        | true =>
          refine iteF ⟨fs, hDb, ?_, s9b⟩
          rw [tk, List.filter_append, List.map_append, show List.filter (fun v => !decide (v = st[j])) [v] = [] by rw [List.filter_cons, e]; rfl, List.map_nil, List.append_nil]
          exact hfsb
        | false =>
          refine iteT ⟨_, rfl, _, rfl, (by show 2 ≤ sizeLine; decide), fun tp ntp => ?_⟩
          have stp := same_upd (o := .tup [V.str qj.1, V.str v]) ntp
          have hD' := stp _ _ hDb
          refine ⟨fs, hD', small1000 (by omega), _, upd_same, ?_, fun r o e' => ?_⟩
          · rw [tk, List.filter_append, List.map_append, show List.filter (fun v => !decide (v = st[j])) [v] = [v] by rw [List.filter_cons, e]; rfl]
            refine paired_append (paired_imp hfsb fun c' v' ⟨a, e1, h1⟩ => ⟨a, e1, ?_⟩) (.cons ⟨tp, rfl, ?_⟩ .nil)
            · have h2 := stp _ _ h1
              rw [upd_ne (ne_of h2 hD' (by intro z; cases z))]
              exact h2
            · rw [upd_ne (ne_of upd_same hD' (by intro z; cases z))]
              exact upd_same
          · rw [upd_ne (ne_of_none e' nD)]
            exact stp _ _ (s9b _ _ e')
      · rintro H9 ⟨fs, hD, hfs, s9⟩
        rw [List.length_map, List.take_length] at hfs
        have hel : es.length ≤ 16 := by
          rw [← Paired.length hes]
          exact dueTo_len sok st j
        have hfl : fs.length ≤ 4 := by
          rw [← Paired.length hfs, List.length_map]
          exact Nat.le_trans (List.length_filter_le _ _) srl
        refine ⟨dp, D, es, fs, rfl, rfl, s9 _ _ hdp8, hD, Nat.le_of_lt (small1000 (by omega)), fun p9 n9 => ?_⟩
        have s10 := same_upd (o := .lst (es ++ fs)) n9
        refine ⟨p9, _, _, _, rfl, s08.trans (s9.trans s10), s08.free (s9.free n9), upd_same, ?_, s10 _ _ (s9 _ _ hnp8)⟩
        rw [dueTo_more sok.nd hqj hz, eq2]
        exact paired_append (paired_imp hes8 fun _ _ h => h.same (s9.trans s10)) (paired_imp hfs fun _ _ h => h.same s10)
    · rintro σ H6 ⟨dp, es, v3, v4, rfl, s6, ndp, hdp, hes, _⟩
      rw [List.length_map, snl, ← shl, dueTo_all] at hes
      exact ⟨_, rfl, q H6 dp es s6 ndp hdp hes⟩
end
end HG

namespace HG
open PySem PySem.Spec PyProof.Rows L2 HT
open C8 (pss_cut tCut)
/-! ### drawn rows -/
abbrev Cans (S : List Way) (st : List Str) (cs : List Ch) : Prop := ∀ i c, cs[i]? = some c → canP S (goes S st (cs.take i)) c = true
theorem goes_snoc (S : List Way) (st : List Str) (cs : List Ch) (c : Ch) : goes S st (cs ++ [c]) = putP S (goes S st cs) c := by
  unfold goes
  rw [List.foldl_append]
  rfl
theorem cans_snoc {S : List Way} {st : List Str} {cs : List Ch} {c : Ch} (h : Cans S st cs) (hc : canP S (goes S st cs) c = true) : Cans S st (cs ++ [c]) := by
  intro i c' hi
  by_cases hl : i < cs.length
  · rw [List.getElem?_append_left hl] at hi
    rw [List.take_append_of_le_length (Nat.le_of_lt hl)]
    exact h i c' hi
  · have hi' := (List.getElem?_eq_some_iff.mp hi).1
    rw [List.length_append] at hi'
    have e : i = cs.length := by
      have : [c].length = 1 := rfl
      omega
    subst e
    rw [List.getElem?_concat_length] at hi
    cases hi
    rw [List.take_left]
    exact hc
structure LRow (H : Hp) (W : List Way) (b p : Addr) (st : List Str) (cs : List Ch) : Prop where
  ex : ∃ a l es, H p = some (.tup [.ref a, .ref l]) ∧ H a = some (.tup (st.map V.str)) ∧ H l = some (.lst es) ∧ l ≠ b ∧ Paired (ChAt H) cs es
  hin : st ∈ stds (sh W)
  can : Cans (sh W) st cs
  len : cs.length ≤ 200
theorem tup_but {b k : Addr} {ns : List Int} {H H' : Hp} (kb : But b H H') (B : ABag H b k ns) {c : Addr} {xs : List V} (e : H c = some (.tup xs)) : H' c = some (.tup xs) := by
  obtain ⟨zs, hb⟩ := abag_ne B
  exact kb _ _ e (ne_of e hb (by intro z; cases z))
theorem ch_but {b k : Addr} {ns : List Int} {H H' : Hp} (kb : But b H H') (B : ABag H b k ns) {c : Ch} {v : V} (h : ChAt H c v) : ChAt H' c v := let ⟨a, e, q⟩ := h; ⟨a, e, tup_but kb B q⟩
theorem LRow.but {H H' : Hp} {W : List Way} {b k p : Addr} {ns : List Int} {st : List Str} {cs : List Ch} (h : LRow H W b p st cs) (kb : But b H H') (B : ABag H b k ns) : LRow H' W b p st cs :=
  ⟨let ⟨a, l, es, h1, h2, h3, h4, h5⟩ := h.ex; ⟨a, l, es, tup_but kb B h1, tup_but kb B h2, kb _ _ h3 h4, h4, paired_imp h5 fun _ _ q => ch_but kb B q⟩, h.hin, h.can, h.len⟩
theorem LRow.same {H H' : Hp} {W : List Way} {b p : Addr} {st : List Str} {cs : List Ch} (h : LRow H W b p st cs) (s : Same H H') : LRow H' W b p st cs :=
  ⟨let ⟨a, l, es, h1, h2, h3, h4, h5⟩ := h.ex; ⟨a, l, es, s _ _ h1, s _ _ h2, s _ _ h3, h4, paired_imp h5 fun _ _ q => q.same s⟩, h.hin, h.can, h.len⟩
theorem eqv_empty : ∀ (ds : List PyData), PyData.eqv (.list ds) (.list []) = decide (ds = [])
  | [] => rfl
  | _ :: _ => rfl
def spLRow : Sp := fun args H Q _ => ∃ (b k d : Addr) (ns : List Int) (W : List Way) (m : Nat), args = [.ref b, .ref d, .int (m : Int)] ∧ ABag H b k ns ∧ ShL (fun _ => True) H d W ∧ WOk W ∧ m ≤ 196 ∧
  ∀ H' p st cs, But b H H' → ABag H' b k ns → LRow H' W b p st cs → cs.length ≤ m → Q (.ref p) H'
section
variable {P : Program} {w : World} {K : PySem.W.Frag} {mg : Str → Option Value} {base : Heap}
variable {fT fO fN fS fW : Addr} {dT' dO dN dS dW : FuncData}
abbrev NsRw : List Str := ["_law_bag_here", "_law_ways", "_law_many", "_law_standing", "_law_found", "_law_first", "_law_k", "_law_some"]
structure MvT (K : PySem.W.Frag) (mg : Str → Option Value) (fM fC fCg : Addr) (dM dC dCg : FuncData) : Prop where
  mv : DfB K mg "_law_moved" s_law_moved ["_law_ways", "_law_standing", "_law_change"] fM dM
  can : DfB K mg "_law_can" s_law_can ["_law_ways", "_law_standing", "_law_change"] fC dC
  chg : DfB K mg "_law_changes" s_law_changes ["_law_ways", "_law_standing"] fCg dCg
variable {fM fC fCg : Addr} {dM dC dCg : FuncData}
theorem ok_lrow {f : Addr} {fd : FuncData} (B : BT K mg fT fO dT' dO) (GL : GnT K mg fN fS fW dN dS dW) (T : MvT K mg fM fC fCg dM dC dCg) (D : Df K mg "_law_row" s_law_row f fd) : FnOk P w K mg base CX0 3 f fd ["_law_bag_here", "_law_ways", "_law_many"] spLRow := by
  have S : FnScope NsRw ["_law_bag_here", "_law_ways", "_law_many"] (defScope s_law_row) := ⟨rfl, rfl, rfl, by decide +kernel, rfl, by decide +kernel, by decide +kernel⟩
  have nd := S.nd
  refine D.F.ok S (fun vs H Q E h => ?_) (fun cdv A outer s H vs Q E hr h => ?_)
  · obtain ⟨b, k, d, ns, W, m, rfl, _⟩ := h
    rfl
  · obtain ⟨b, k, d, ns, W, m, rfl, B0, hW, ok, hm, q⟩ := h
    have hu64 := hr.units
    have oO := ok_one (P := P) (w := w) (base := base) B.O B.T B.bT B.gT B.ml B.mi
    have oLS := ok_lstandings (P := P) (w := w) (base := base) GL.m_sorted GL.W GL.bW GL.gW GL.S
    have oMv := ok_moved (P := P) (w := w) (base := base) GL.m_sorted T.mv.d
    have oCg := ok_lchanges (P := P) (w := w) (base := base) GL.m_sorted T.can T.chg.d
    refine ⟨_, pss_cons (ps_par (i := 3) (j := 4) (by rfl) nd rfl rfl (by decide) rfl rfl (pa_cons (pe_call oO (hr.mono (by decide)) (by rfl) B.gO B.O.kp B.bO .nil pass0 (pa_cons (pv 0) (pa_cons (pe_call oLS (hr.mono (by decide)) (by rfl) GL.gS GL.S.kp GL.bS .nil pass0 (pa_cons (pv 1) pa_nil)) pa_nil))) (pa_cons (pe_lst pa_nil) pa_nil)) (by rfl))
      (pss_cons (ps_set (i := 5) nd rfl (Or.inl rfl) (pv 3))
      (pss_cons (ps_for PassesOwn.never rfl (pi_range1 rfl GL.m_range (pa_cons (pv 2) pa_nil)) (pg_name (i := 6) nd rfl (Or.inl rfl))
        (pss_cons (ps_set (i := 7) nd rfl (Or.inl rfl) (pe_call oCg (hr.mono (by decide)) (by rfl) T.chg.d.g T.chg.d.F.kp T.chg.b .nil pass0 (pa_cons (pv 1) (pa_cons (pv 3) pa_nil))))
        (pss_one (ps_if (pt_cmpR (op_neD hu64) (pv 7) (pe_lst pa_nil) (nomark _))
          (pss_cons (ps_expr (pe_bm PySem.F.plainAttrs_list PySem.F.slot_list_append PySem.F.type_list_append mt_append (pv 4) (pa_cons (pe_call oO (hr.mono (by decide)) (by rfl) B.gO B.O.kp B.bO .nil pass0 (pa_cons (pv 0) (pa_cons (pv 7) pa_nil))) pa_nil)))
          (pss_one (ps_set (i := 3) nd rfl (Or.inl rfl) (pe_call oMv (hr.mono (by decide)) (by rfl) T.mv.d.g T.mv.d.F.kp T.mv.b .nil pass0 (pa_cons (pv 1) (pa_cons (pv 3) (pa_cons (pe_ix ix_list (pv 4) (pe_un un_neg pe_int) (fun _ _ => rfl)) pa_nil)))))))
          pss_nil))))
      (pss_one (ps_ret (pe_tup (pa_cons (pv 5) (pa_cons (pv 4) pa_nil))))))), ?_⟩
    have sok := ok.sok
    have few := sok.few
    refine ⟨_, rfl, _, rfl, d, W, rfl, ShL.at hW, ok, fun H1 sp us s1 nsp hsp ts => ?_⟩
    have B1 := B0.same s1
    have spb := abag_not B0 nsp
    refine ⟨b, k, sp, ns, us, rfl, B1, SqL.of hsp, spb, ?_, ?_, fun H2 x kb2 B2 hx => ?_⟩
    · intro z
      have l := Paired.length ts
      rw [z] at l
      have := stds_ne sok
      have l' : (stds (sh W)).length = 0 := l
      omega
    · rw [← Paired.length ts]
      omega
    · obtain ⟨j, hj, ej⟩ := List.getElem_of_mem hx
      obtain ⟨st, hst, a, rfl, ha1⟩ := paired_get ts (show us[j]? = some x by rw [List.getElem?_eq_getElem hj, ej])
      have hin := List.mem_of_getElem? hst
      have ha2 := tup_but kb2 B1 ha1
      refine ⟨(by show 0 ≤ sizeLine; decide), fun l nl => ?_⟩
      have s3 := same_upd (o := .lst []) nl
      have kb02 : But b H H2 := (But.of s1).trans kb2
      have kb03 := kb02.trans (But.of s3)
      have nl0 : H l = none := but_free kb02 B2 nl
      have lb : l ≠ b := abag_not B0 nl0
      refine ⟨_, _, rfl, _, rfl, _, rfl, (m : Int), rfl, by omega, by omega, for_range (lo := 0) (n := m) (fun i σ H' => ∃ v6 v7 ca es cs, σ = [some (.ref b), some (.ref d), some (.int (m : Int)), some (.ref ca), some (.ref l), some (.ref a), v6, v7] ∧ But b H H' ∧ ABag H' b k ns ∧ H' a = some (.tup (st.map V.str)) ∧ H' ca = some (.tup ((goes (sh W) st cs).map V.str)) ∧ H' l = some (.lst es) ∧ Paired (ChAt H') cs es ∧ cs.length ≤ i ∧ Cans (sh W) st cs)
        ⟨none, none, a, [], [], rfl, kb03, B2.same s3, s3 _ _ ha2, s3 _ _ ha2, upd_same, .nil, Nat.le_refl _, (fun i c h => by simp at h)⟩ ?_ ?_⟩
      · rintro i σ H4 hi ⟨v6, v7, ca, es, cs, rfl, kb4, B4, ha4, hca, hl4, hes, hcl, hcan⟩
        have gin : goes (sh W) st cs ∈ stds (sh W) := by
          have := goes_in sok hin (Nat.le_refl cs.length) fun k c _ => hcan k c
          rwa [List.take_length] at this
        have hW4 := hW.but B0 ok.w1 kb4
        refine ⟨_, rfl, _, rfl, d, ca, W, _, rfl, hW4, ok, hca, gin, fun H5 q5 ds s5 n5 h5 hds => ?_⟩
        have B5 := B4.same s5
        have q5b := abag_not B4 n5
        refine ⟨_, rfl, (by show 0 ≤ sizeLine; decide), fun e0 ne0 => ?_⟩
        have s6 := same_upd (o := .lst []) ne0
        have s46 := s5.trans s6
        refine ⟨_, _, .lst (SqL.of (s6 _ _ h5)) (dp_tups ((chs_tups hds).same s6)), .lst (SqL.of upd_same) .nil, tups_shaped (due_nm sok), rfl, _, rfl, ?_⟩
        rw [eqv_empty]
        by_cases hempty : due (sh W) (goes (sh W) st cs) = []
        · rw [hempty, show (!decide ((([] : List Ch).map fun c => [c.1, c.2]).map HG.dT = [])) = false by rfl]
          refine iteF ⟨_, _, ca, es, cs, rfl, kb4.trans (But.of s46), B4.same s46, s46 _ _ ha4, s46 _ _ hca, s46 _ _ hl4, paired_imp hes fun _ _ h => h.same s46, by omega, hcan⟩
        · rw [show (!decide (((due (sh W) (goes (sh W) st cs)).map fun c => [c.1, c.2]).map HG.dT = [])) = true by
            rw [decide_eq_false]
            · rfl
            · intro z
              rw [List.map_eq_nil_iff, List.map_eq_nil_iff] at z
              exact hempty z]
          have B6 := B4.same s46
          have dl : ds.length ≤ 16 := by
            rw [← Paired.length hds]
            exact due_len sok _
          refine iteT ⟨_, rfl, .inl ⟨rfl, _, SqL.of (s46 _ _ hl4)⟩, _, rfl, _, rfl, b, k, q5, ns, ds, rfl, B6, SqL.of (s6 _ _ h5), q5b, ?_, by omega, fun H7 x kb7 B7 hx7 => ?_⟩
          · intro z
            have := Paired.length hds
            rw [z] at this
            exact hempty (List.length_eq_zero_iff.mp this)
          · obtain ⟨j7, hj7, ej7⟩ := List.getElem_of_mem hx7
            obtain ⟨c, hc, pc, rfl, hpc⟩ := paired_get hds (show ds[j7]? = some x by rw [List.getElem?_eq_getElem hj7, ej7])
            obtain ⟨f1, f2, f3, f4⟩ := can_due sok gin (List.mem_of_getElem? hc)
            have hpc7 := tup_but kb7 B6 (s6 _ _ hpc)
            have hl7 := kb7 _ _ (s46 _ _ hl4) lb
            have hcslen : cs.length ≤ 196 := by omega
            refine ⟨l, es, _, rfl, rfl, hl7, small1000 (by rw [← Paired.length hes]; omega), ?_⟩
            have hes7 : Paired (ChAt H7) cs es := paired_imp hes fun _ _ h => ch_but kb7 B6 (h.same s46)
            have ha7 := tup_but kb7 B6 (s46 _ _ ha4)
            have hca7 := tup_but kb7 B6 (s46 _ _ hca)
            have kb07 : But b H H7 := kb4.trans ((But.of s46).trans kb7)
            have up : ∀ {c : Addr} {xs : List V}, H7 c = some (.tup xs) → (upd H7 l (.lst (es ++ [.ref pc]))) c = some (.tup xs) := fun {c xs} h => by
              rw [upd_ne (ne_of h hl7 (by intro z; cases z))]
              exact h
            have kb08 : But b H (upd H7 l (.lst (es ++ [.ref pc]))) := fun r o e hr => by
              rw [upd_ne (ne_of_none e nl0)]
              exact kb07 r o e hr
            have lk : l ≠ k := fun z => by
              rw [z, abag_k B0] at nl0
              cases nl0
            have B8 : ABag (upd H7 l (.lst (es ++ [.ref pc]))) b k ns := abag_upd B7 lb lk
            have hW8 := hW.but B0 ok.w1 kb08
            refine ⟨_, rfl, _, rfl, _, rfl, _, rfl, l, _, -1, .ref pc, rfl, rfl, SqL.of upd_same, atI_last _ _, d, ca, pc, W, _, c, rfl, hW8, ok, up hca7, by rw [stds_mem gin, sh_len], up hpc7, f2, fun H9 p9 s9 h9 => ?_⟩
            refine ⟨_, _, p9, es ++ [.ref pc], cs ++ [c], rfl, kb08.trans (But.of s9), B8.same s9, s9 _ _ (up ha7), by rw [goes_snoc]; exact h9, s9 _ _ upd_same, ?_, ?_, cans_snoc hcan f1⟩
            · exact paired_append (paired_imp hes7 fun _ _ ⟨a, e, h⟩ => ⟨a, e, s9 _ _ (up h)⟩) (.cons ⟨pc, rfl, s9 _ _ (up hpc7)⟩ .nil)
            · rw [List.length_append]
              show cs.length + 1 ≤ i + 1
              omega
      · rintro σ H4 ⟨v6, v7, ca, es, cs, rfl, kb4, B4, ha4, hca, hl4, hes, hcl, hcan⟩
        refine ⟨_, rfl, _, rfl, (by show 2 ≤ sizeLine; decide), fun p np => ?_⟩
        have sp' := same_upd (o := .tup [V.ref a, V.ref l]) np
        exact q _ p st cs (kb4.trans (But.of sp')) (B4.same sp') ⟨⟨a, l, es, upd_same, sp' _ _ ha4, sp' _ _ hl4, lb, paired_imp hes fun _ _ h => h.same sp'⟩, hin, hcan, by omega⟩ hcl
end
end HG

namespace HG
open PySem PySem.Spec PyProof.Rows L2 HT
open C8 (pss_cut tCut)
/-! ### the way back -/
def backOf (S : List Way) (st u : List Str) (is : List Nat) : List Ch := is.filterMap fun i => match (names S)[i]?, st[i]?, u[i]? with
  | some n, some z, some y => if y = z then none else some (n, z)
  | _, _, _ => none
theorem backOf_len (S : List Way) (st u : List Str) (is : List Nat) : (backOf S st u is).length ≤ is.length := List.length_filterMap_le _ _
theorem backOf_more {S : List Way} {st u : List Str} {is : List Nat} {m i : Nat} {n z y : Str} (h : is[m]? = some i) (hn : (names S)[i]? = some n) (hz : st[i]? = some z) (hy : u[i]? = some y) :
    backOf S st u (is.take (m + 1)) = backOf S st u (is.take m) ++ if y = z then [] else [(n, z)] := by
  unfold backOf
  rw [List.take_add_one, h, List.filterMap_append]
  congr 1
  show List.filterMap _ [i] = _
  rw [List.filterMap_cons, hn, hz, hy]
  by_cases e : y = z
  · simp [e]
  · simp [e]
/-- the places not yet gone back stand as they stood -/
theorem back_step {S : List Way} {st : List Str} {cs : List Ch} {is : List Nat} {m : Nat} (ok : SOk S) (hin : st ∈ stds S) (hc : Cans S st cs) (hnd : is.Nodup) :
    m ≤ is.length → Cans S st (cs ++ backOf S st (goes S st cs) (is.take m)) ∧ ∀ i, i ∉ is.take m → (goes S st (cs ++ backOf S st (goes S st cs) (is.take m)))[i]? = (goes S st cs)[i]? := by
  induction m with
  | zero =>
    intro _
    rw [List.take_zero, show backOf S st (goes S st cs) [] = [] from rfl, List.append_nil]
    exact ⟨hc, fun _ _ => rfl⟩
  | succ m ih =>
    intro hm
    obtain ⟨h1, h2⟩ := ih (Nat.le_of_succ_le hm)
    have hi : is[m]? = some is[m] := List.getElem?_eq_getElem hm
    have win : goes S st (cs ++ backOf S st (goes S st cs) (is.take m)) ∈ stds S := by
      have := goes_in ok hin (Nat.le_refl _) fun k c _ => h1 k c
      rwa [List.take_length] at this
    have uin : goes S st cs ∈ stds S := by
      have := goes_in ok hin (Nat.le_refl cs.length) fun k c _ => hc k c
      rwa [List.take_length] at this
    have nin : is[m] ∉ is.take m := by
      intro hmem
      obtain ⟨j, hj, ej⟩ := List.getElem_of_mem hmem
      rw [List.length_take] at hj
      rw [List.getElem_take] at ej
      have := (List.getElem_inj hnd).mp ej
      omega
    have tk : is.take (m + 1) = is.take m ++ [is[m]] := by
      rw [List.take_add_one, hi]
      rfl
    by_cases hs : is[m] < S.length
    · have hq : S[is[m]]? = some S[is[m]] := List.getElem?_eq_getElem hs
      have hz : st[is[m]]? = some (st[is[m]]'(by rw [stds_mem hin]; exact hs)) := List.getElem?_eq_getElem _
      have hy : (goes S st cs)[is[m]]? = some ((goes S st cs)[is[m]]'(by rw [stds_mem uin]; exact hs)) := List.getElem?_eq_getElem _
      rw [backOf_more hi (names_at hq) hz hy]
      by_cases e : (goes S st cs)[is[m]]'(by rw [stds_mem uin]; exact hs) = st[is[m]]'(by rw [stds_mem hin]; exact hs)
      · rw [if_pos e, List.append_nil]
        exact ⟨h1, fun i hn => h2 i fun hm' => hn (by rw [tk]; exact List.mem_append_left _ hm')⟩
      · rw [if_neg e, ← List.append_assoc]
        have hw := h2 _ nin
        rw [hy] at hw
        have hv := stds_at hin hq hz
        refine ⟨cans_snoc h1 ?_, fun i hn => ?_⟩
        · rw [canP_at ok.nd hq hw, decide_eq_true hv, decide_eq_false (Ne.symm e)]
          rfl
        · rw [goes_snoc, putP_at ok.nd hq (stds_mem win), List.getElem?_set_ne]
          · exact h2 i fun hm' => hn (by rw [tk]; exact List.mem_append_left _ hm')
          · intro z
            exact hn (by rw [tk, z]; exact List.mem_append_right _ List.mem_cons_self)
    · have hn0 : (names S)[is[m]]? = none := by
        rw [List.getElem?_eq_none_iff]
        unfold names
        rw [List.length_map]
        omega
      have e0 : backOf S st (goes S st cs) (is.take (m + 1)) = backOf S st (goes S st cs) (is.take m) := by
        unfold backOf
        rw [List.take_add_one, hi, List.filterMap_append]
        rw [show List.filterMap _ (some is[m]).toList = [] by
          show List.filterMap _ [is[m]] = []
          rw [List.filterMap_cons, hn0]
          rfl]
        exact List.append_nil _
      rw [e0]
      exact ⟨h1, fun i hn => h2 i fun hm' => hn (by rw [tk]; exact List.mem_append_left _ hm')⟩
theorem perm_map {α β : Type} {f : α → β} {ys xs : List β} (h : ys.Perm xs) : ∀ l : List α, xs = l.map f → ∃ l' : List α, ys = l'.map f ∧ l'.Perm l := by
  induction h with
  | nil =>
    intro l e
    exact ⟨l, e, List.Perm.refl _⟩
  | cons x _ ih =>
    intro l e
    obtain ⟨a, l2, rfl, rfl, e2⟩ := List.map_eq_cons_iff.mp e.symm
    obtain ⟨l', e', p'⟩ := ih l2 e2.symm
    exact ⟨a :: l', by rw [e', List.map_cons], p'.cons a⟩
  | swap x y r =>
    intro l e
    obtain ⟨a, l2, rfl, rfl, e2⟩ := List.map_eq_cons_iff.mp e.symm
    obtain ⟨c, l3, rfl, rfl, e3⟩ := List.map_eq_cons_iff.mp e2
    exact ⟨c :: a :: l3, by rw [List.map_cons, List.map_cons, e3], List.Perm.swap a c l3⟩
  | trans _ _ ih1 ih2 =>
    intro l e
    obtain ⟨l2, e2, p2⟩ := ih2 l e
    obtain ⟨l1, e1, p1⟩ := ih1 l2 e2
    exact ⟨l1, e1, p1.trans p2⟩
theorem rg_nat (n : Nat) : rgV 0 (n : Int) = (List.range n).map fun i : Nat => V.int (i : Int) := by
  unfold rgV
  rw [Int.sub_zero, Int.toNat_natCast]
  refine List.map_congr_left fun i _ => ?_
  rw [Int.zero_add]
def spLBack : Sp := fun args H Q _ => ∃ (b k d p : Addr) (ns : List Int) (W : List Way) (st : List Str) (cs : List Ch), args = [.ref b, .ref d, .ref p] ∧ ABag H b k ns ∧ ShL (fun _ => True) H d W ∧ WOk W ∧ LRow H W b p st cs ∧ cs.length ≤ 196 ∧
  ∀ H' p' cs', But b H H' → ABag H' b k ns → LRow H' W b p' st cs' → Q (.ref p') H'
section
variable {P : Program} {w : World} {K : PySem.W.Frag} {mg : Str → Option Value} {base : Heap}
variable {fT fO fX fM fC fCg : Addr} {dT' dO dX dM dC dCg : FuncData}
abbrev NsBk : List Str := ["_law_bag_here", "_law_ways", "_law_row_here", "_law_standing", "_law_found", "_law_change", "_law_names_here", "_law_at"]
theorem ok_lback {f : Addr} {fd : FuncData} (ms : mg "sorted" = none) (ml : mg "list" = none) (mr : mg "range" = none) (B : BT K mg fT fO dT' dO) (MX : MxT K mg fX dX) (T : MvT K mg fM fC fCg dM dC dCg) (D : Df K mg "_law_back" s_law_back f fd) : FnOk P w K mg base CX0 3 f fd ["_law_bag_here", "_law_ways", "_law_row_here"] spLBack := by
  have S : FnScope NsBk ["_law_bag_here", "_law_ways", "_law_row_here"] (defScope s_law_back) := ⟨rfl, rfl, rfl, by decide +kernel, rfl, by decide +kernel, by decide +kernel⟩
  have nd := S.nd
  refine D.F.ok S (fun vs H Q E h => ?_) (fun cdv A outer s H vs Q E hr h => ?_)
  · obtain ⟨b, k, d, p, ns, W, st, cs, rfl, _⟩ := h
    rfl
  · obtain ⟨b, k, d, p, ns, W, st, cs, rfl, B0, hW, ok, hR, hl6, q⟩ := h
    have hu64 := hr.units
    have oX := ok_mixed (P := P) (w := w) (base := base) B MX.F
    have oMv := ok_moved (P := P) (w := w) (base := base) ms T.mv.d
    refine ⟨_, pss_cons (ps_par (i := 3) (j := 4) (by rfl) nd rfl rfl (by decide) rfl rfl (pa_cons (pe_ix ix_tup (pv 2) pe_int (fun _ _ => rfl)) (pa_cons (pe_callTy call_list_of (by rfl) ml (by decide +kernel) (pa_cons (pe_ix ix_tup (pv 2) pe_int (fun _ _ => rfl)) pa_nil)) pa_nil)) (by rfl))
      (pss_cons (ps_for PassesOwn.never rfl (pi_list (pv 4)) (pg_name (i := 5) nd rfl (Or.inl rfl))
        (pss_one (ps_set (i := 3) nd rfl (Or.inl rfl) (pe_call oMv (hr.mono (by decide)) (by rfl) T.mv.d.g T.mv.d.F.kp T.mv.b .nil pass0 (pa_cons (pv 1) (pa_cons (pv 3) (pa_cons (pv 5) pa_nil)))))))
      (pss_cons (ps_set (i := 6) nd rfl (Or.inl rfl) (pe_callB (call_srtD rfl) (by rfl) ms (by decide +kernel) (pa_cons (pv 1) pa_nil)))
      (pss_cons (ps_for PassesOwn.never rfl (pi_list (pe_call oX (hr.mono (by decide)) (by rfl) MX.g MX.F.kp MX.b .nil pass0 (pa_cons (pv 0) (pa_cons (pe_listRg rfl (by rfl) ml (prg_1 (by rfl) mr (pe_callB call_len_seq (by rfl) B.ml PySem.boot_len (pa_cons (pv 6) pa_nil)))) pa_nil)))) (pg_name (i := 7) nd rfl (Or.inl rfl))
        (pss_one (ps_if (pt_cmpR op_ne (pe_ix ix_tup (pv 3) (pv 7) (fun _ _ => rfl)) (pe_ix ix_tup (pe_ix ix_tup (pv 2) pe_int (fun _ _ => rfl)) (pv 7) (fun _ _ => rfl)) (nomark _))
          (pss_one (ps_expr (pe_bm PySem.F.plainAttrs_list PySem.F.slot_list_append PySem.F.type_list_append mt_append (pv 4) (pa_cons (pe_tup (pa_cons (pe_ix ix_list (pv 6) (pv 7) (fun _ _ => rfl)) (pa_cons (pe_ix ix_tup (pe_ix ix_tup (pv 2) pe_int (fun _ _ => rfl)) (pv 7) (fun _ _ => rfl)) pa_nil))) pa_nil)))) pss_nil)))
      (pss_one (ps_ret (pe_tup (pa_cons (pe_ix ix_tup (pv 2) pe_int (fun _ _ => rfl)) (pa_cons (pv 4) pa_nil)))))))), ?_⟩
    obtain ⟨a, l, es, hp, ha, hl, lb, hes⟩ := hR.ex
    have sok := ok.sok
    have shl : (sh W).length = W.length := sh_len W
    have n4 := ok.n4
    have hnm : srt (W.map (·.1)) = names (sh W) := (sh_names W).symm
    have snl : (names (sh W)).length = W.length := by unfold names; rw [List.length_map, shl]
    have cin : ∀ i, i ≤ cs.length → goes (sh W) st (cs.take i) ∈ stds (sh W) := fun i hi => goes_in sok hR.hin hi fun k c _ => hR.can k c
    refine ⟨_, rfl, p, _, 0, .ref a, rfl, rfl, SqT.of hp, rfl, _, rfl, p, _, 1, .ref l, rfl, rfl, SqT.of hp, rfl, l, es, rfl, .inl (SqL.of hl), fun l2 nl2 => ⟨_, _, rfl, ?_⟩⟩
    have s1 := same_upd (o := .lst es) nl2
    have h2 : (upd H l2 (.lst es)) l2 = some (.lst es) := upd_same
    have l2b : l2 ≠ b := abag_not B0 nl2
    generalize (upd H l2 (.lst es)) = H1 at s1 h2
    refine ⟨_, rfl, l2, rfl, ⟨_, SqL.of h2⟩, for_it (walk_list (K := K) (a := l2) (xs := es)) (fun i σ H' => ∃ ca v5 v6 v7, σ = [some (.ref b), some (.ref d), some (.ref p), some (.ref ca), some (.ref l2), v5, v6, v7] ∧ Same H1 H' ∧ H' ca = some (.tup ((goes (sh W) st (cs.take i)).map V.str)))
      ⟨a, none, none, none, rfl, Same.refl _, s1 _ _ ha⟩ (fun i σ H' _ ⟨_, _, _, _, _, sx, _⟩ => SqL.of (sx _ _ h2)) ?_ ?_⟩
    · rintro i x σ Hz H2 hi ⟨ca, v5, v6, v7, rfl, s2, hca⟩ ⟨rfl, hx⟩
      obtain ⟨c, hc, pc, rfl, hpc⟩ := paired_get hes hx
      have hil : i < cs.length := (List.getElem?_eq_some_iff.mp hc).1
      obtain ⟨i0, q0, z0, hq0, e0, _⟩ := can_facts sok (cin i (Nat.le_of_lt hil)) (hR.can i c hc)
      refine ⟨_, rfl, _, rfl, _, rfl, d, ca, pc, W, _, c, rfl, hW.same (s1.trans s2), ok, hca, by rw [stds_mem (cin i (Nat.le_of_lt hil)), shl], s2 _ _ (s1 _ _ hpc), by rw [← e0]; exact List.mem_of_getElem? (names_at hq0), fun H3 p3 s3 h3 => ?_⟩
      exact ⟨p3, _, _, _, rfl, s2.trans s3, by rw [goes_more hc]; exact h3⟩
    · rintro σ H2 ⟨ca, v5, v6, v7, rfl, s2, hca⟩
      rw [← Paired.length hes, List.take_length] at hca
      have uin := cin cs.length (Nat.le_refl _)
      rw [List.take_length] at uin
      have s02 := s1.trans s2
      obtain ⟨kw, hd, hpw⟩ := id (hW.same s02)
      refine ⟨_, rfl, d, kw, W.map (·.1), rfl, hd, keysL hpw, (by rw [List.length_map]; exact Nat.lt_of_le_of_lt n4 (by decide)), fun np nn => ?_⟩
      rw [hnm]
      have s3 := same_upd (o := .lst ((names (sh W)).map V.str)) nn
      have hnp : (upd H2 np (.lst ((names (sh W)).map V.str))) np = some (.lst ((names (sh W)).map V.str)) := upd_same
      generalize (upd H2 np (.lst ((names (sh W)).map V.str))) = H3 at s3 hnp
      have s03 := s02.trans s3
      have B3 := B0.same s03
      have npb : np ≠ b := abag_not (B0.same s02) nn
      refine ⟨_, rfl, _, rfl, np, _, rfl, .inl (SqL.of hnp), _, rfl, RgOk.of_le (by omega) (by rw [List.length_map, snl]; omega) (by omega) (by omega), fun rp nrp => ?_⟩
      have s4 := same_upd (o := .lst (rgV 0 (((names (sh W)).map V.str).length : Int))) nrp
      have hrp : (upd H3 rp (.lst (rgV 0 (((names (sh W)).map V.str).length : Int)))) rp = some (.lst (rgV 0 (((names (sh W)).map V.str).length : Int))) := upd_same
      generalize (upd H3 rp (.lst (rgV 0 (((names (sh W)).map V.str).length : Int)))) = H4 at s4 hrp
      rw [rg_nat, List.length_map, snl] at hrp
      have s04 := s03.trans s4
      have B4 := B0.same s04
      refine ⟨b, k, rp, ns, _, rfl, B4, SqL.of hrp, abag_not B3 nrp, by rw [List.length_map, List.length_range]; omega, fun H5 mp ys kb5 B5 nmp hmp hperm => ?_⟩
      obtain ⟨is, rfl, pis⟩ := perm_map hperm _ rfl
      have hnd : is.Nodup := pis.nodup_iff.mpr List.nodup_range
      have mpb : mp ≠ b := abag_not B4 nmp
      have kb05 : But b H H5 := (But.of s04).trans kb5
      have h2' := kb5 _ _ (s4 _ _ (s3 _ _ (s2 _ _ h2))) l2b
      have hca' := tup_but kb5 B4 (s4 _ _ (s3 _ _ hca))
      have hnp' := kb5 _ _ (s4 _ _ hnp) npb
      have l2k : l2 ≠ k := fun z => by
        rw [z, abag_k B0] at nl2
        cases nl2
      have mp2 : mp ≠ l2 := fun z => by
        rw [z, s4 _ _ (s3 _ _ (s2 _ _ h2))] at nmp
        cases nmp
      have np2 : np ≠ l2 := fun z => by
        rw [z, s2 _ _ h2] at nn
        cases nn
      refine ⟨mp, rfl, ⟨_, SqL.of hmp⟩, for_it (walk_list (K := K) (a := mp) (xs := is.map fun i : Nat => V.int (i : Int))) (fun m σ H' => ∃ es' v7, σ = [some (.ref b), some (.ref d), some (.ref p), some (.ref ca), some (.ref l2), v5, some (.ref np), v7] ∧ But b H H' ∧ ABag H' b k ns ∧ H' l2 = some (.lst es') ∧ Paired (ChAt H') (cs ++ backOf (sh W) st (goes (sh W) st cs) (is.take m)) es' ∧
          H' np = some (.lst ((names (sh W)).map V.str)) ∧ H' ca = some (.tup ((goes (sh W) st cs).map V.str)) ∧ H' mp = some (.lst (is.map fun i : Nat => V.int (i : Int))))
        ⟨es, v7, rfl, kb05, B5, h2', ?_, hnp', hca', hmp⟩ (fun m σ H' _ ⟨_, _, _, _, _, _, _, _, _, hm⟩ => SqL.of hm) ?_ ?_⟩
      · rw [List.take_zero, show backOf (sh W) st (goes (sh W) st cs) [] = [] from rfl, List.append_nil]
        exact paired_imp hes fun _ _ h => ch_but kb05 B0 h
      · rintro m x σ Hz H6 hm ⟨es', v7, rfl, kb6, B6, hl6', hes6, hn6, hc6, hm6⟩ ⟨rfl, hx⟩
        rw [List.length_map] at hm
        rw [List.getElem?_map] at hx
        obtain ⟨i, hi, rfl⟩ := Option.map_eq_some_iff.mp hx
        have hiW : i < W.length := List.mem_range.mp (pis.mem_iff.mp (List.mem_of_getElem? hi))
        have hnI : (names (sh W))[i]? = some ((names (sh W))[i]'(by omega)) := List.getElem?_eq_getElem _
        have hzI : st[i]? = some (st[i]'(by rw [stds_mem hR.hin]; omega)) := List.getElem?_eq_getElem _
        have hyI : (goes (sh W) st cs)[i]? = some ((goes (sh W) st cs)[i]'(by rw [stds_mem uin]; omega)) := List.getElem?_eq_getElem _
        have bm := backOf_more (S := sh W) (st := st) (u := goes (sh W) st cs) hi hnI hzI hyI
        have hp6 := tup_but kb6 B0 hp
        have ha6 := tup_but kb6 B0 ha
        have el : es'.length ≤ 200 := by
          rw [← Paired.length hes6, List.length_append]
          have h1 := backOf_len (sh W) st (goes (sh W) st cs) (is.take m)
          have h2 : (is.take m).length ≤ is.length := List.length_take_le' ..
          have h3 : is.length = W.length := by rw [pis.length_eq, List.length_range]
          omega
        refine ⟨_, rfl, _, rfl, ca, _, _, .str _, rfl, rfl, SqT.of hc6, atI_nat (j := i) (by rw [List.getElem?_map, hyI]; rfl), _, rfl, p, _, 0, .ref a, rfl, rfl, SqT.of hp6, rfl, _, rfl, a, _, _, .str _, rfl, rfl, SqT.of ha6, atI_nat (j := i) (by rw [List.getElem?_map, hzI]; rfl), rfl, _, rfl, ?_⟩
        by_cases e : (goes (sh W) st cs)[i]'(by rw [stds_mem uin]; omega) = st[i]'(by rw [stds_mem hR.hin]; omega)
        · rw [if_pos e, List.append_nil] at bm
          rw [decide_eq_true (by rw [e])]
          exact iteF ⟨es', _, rfl, kb6, B6, hl6', by rw [bm]; exact hes6, hn6, hc6, hm6⟩
        · rw [if_neg e] at bm
          rw [decide_eq_false (fun z => e (V.str.inj z))]
          refine iteT ⟨_, rfl, .inl ⟨rfl, _, SqL.of hl6'⟩, _, rfl, _, rfl, np, _, _, .str _, rfl, rfl, SqL.of hn6, atI_nat (j := i) (by rw [List.getElem?_map, hnI]; rfl), _, rfl, p, _, 0, .ref a, rfl, rfl, SqT.of hp6, rfl, _, rfl, a, _, _, .str _, rfl, rfl, SqT.of ha6, atI_nat (j := i) (by rw [List.getElem?_map, hzI]; rfl), (by show 2 ≤ sizeLine; decide), fun tp ntp => ?_⟩
          have st' := same_upd (o := .tup [V.str ((names (sh W))[i]'(by omega)), V.str (st[i]'(by rw [stds_mem hR.hin]; omega))]) ntp
          have htp : (upd H6 tp (.tup [V.str ((names (sh W))[i]'(by omega)), V.str (st[i]'(by rw [stds_mem hR.hin]; omega))])) tp = some (.tup [V.str ((names (sh W))[i]'(by omega)), V.str (st[i]'(by rw [stds_mem hR.hin]; omega))]) := upd_same
          generalize (upd H6 tp (.tup [V.str ((names (sh W))[i]'(by omega)), V.str (st[i]'(by rw [stds_mem hR.hin]; omega))])) = H7 at st' htp
          have hl7 := st' _ _ hl6'
          have up : ∀ {c : Addr} {xs : List V}, H7 c = some (.tup xs) → (upd H7 l2 (.lst (es' ++ [.ref tp]))) c = some (.tup xs) := fun {c xs} h => by
            rw [upd_ne (ne_of h hl7 (by intro z; cases z))]
            exact h
          refine ⟨l2, es', _, rfl, rfl, hl7, small1000 (by omega), es' ++ [.ref tp], _, rfl, fun r o e' hr => ?_, abag_upd (B6.same st') l2b l2k, upd_same, ?_, ?_, up (st' _ _ hc6), ?_⟩
          · rw [upd_ne (ne_of_none e' nl2)]
            exact st' _ _ (kb6 r o e' hr)
          · rw [bm, ← List.append_assoc]
            exact paired_append (paired_imp hes6 fun _ _ ⟨a', e1, h1⟩ => ⟨a', e1, up (st' _ _ h1)⟩) (.cons ⟨tp, rfl, up htp⟩ .nil)
          · rw [upd_ne np2]
            exact st' _ _ hn6
          · rw [upd_ne mp2]
            exact st' _ _ hm6
      · rintro σ H6 ⟨es', v7, rfl, kb6, B6, hl6', hes6, hn6, hc6, hm6⟩
        rw [List.length_map, List.take_length] at hes6
        have hbk := back_step sok hR.hin hR.can hnd (Nat.le_refl is.length)
        rw [List.take_length] at hbk
        have ha6 := tup_but kb6 B0 ha
        refine ⟨_, rfl, p, _, 0, .ref a, rfl, rfl, SqT.of (tup_but kb6 B0 hp), rfl, _, rfl, (by show 2 ≤ sizeLine; decide), fun p' np' => ?_⟩
        have sp := same_upd (o := .tup [V.ref a, V.ref l2]) np'
        refine q _ p' (cs ++ backOf (sh W) st (goes (sh W) st cs) is) (kb6.trans (But.of sp)) (B6.same sp) ⟨⟨a, l2, es', upd_same, sp _ _ ha6, sp _ _ hl6', l2b, paired_imp hes6 fun _ _ h => h.same sp⟩, hR.hin, hbk.1, ?_⟩
        rw [List.length_append]
        have h1 := backOf_len (sh W) st (goes (sh W) st cs) is
        have h3 : is.length = W.length := by rw [pis.length_eq, List.length_range]
        omega
end
end HG

namespace HG
open PySem PySem.Spec PyProof.Rows L2 HT
open C8 (pss_cut tCut)
/-! ### the row handed in, and what is due -/
theorem LRow.nm {H : Hp} {W : List Way} {b p : Addr} {st : List Str} {cs : List Ch} (h : LRow H W b p st cs) (ok : WOk W) : ∀ c ∈ cs, isNm c.1 = true ∧ isNm c.2 = true := by
  intro c hc
  obtain ⟨i, hi⟩ := List.mem_iff_getElem?.mp hc
  have sok := ok.sok
  have hin := goes_in sok h.hin (Nat.le_of_lt (List.getElem?_eq_some_iff.mp hi).1) fun k c _ => h.can k c
  obtain ⟨_, q, _, hq, e, hv, _⟩ := can_facts sok hin (h.can i c hi)
  have hm := List.mem_of_getElem? hq
  exact ⟨e ▸ sok.nm q hm, sok.wn q hm _ hv⟩
def spLLoose : Sp := fun args H Q _ => ∃ (b k p : Addr) (ns : List Int) (W : List Way) (st : List Str) (cs : List Ch), args = [.ref b, .ref p] ∧ ABag H b k ns ∧ WOk W ∧ LRow H W b p st cs ∧
  ∀ H' x, But b H H' → ABag H' b k ns → RowAt H' x st cs → Q x H'
def spLDue : Sp := fun args H Q _ => ∃ (d gd b p : Addr) (W : List Way) (γ : List Str → List Int) (st : List Str) (cs : List Ch), args = [.ref d, .ref gd, .ref p] ∧ ShL (fun _ => True) H d W ∧ WOk W ∧ GnAt H gd W γ ∧ LRow H W b p st cs ∧
  ∀ H' p' f vs, Same H H' → H' p' = some (.tup [.ref f, .int (sumP (sh W) γ st cs)]) → H f = none → H' f = some (.lst vs) → TupsAt H' (stops (sh W) st cs) vs → Q (.ref p') H'
/-- a list or a tuple at an address that is none of X's -/
def SeqX (X : Addr → Prop) (H : Hp) (v : V) (xs : List V) : Prop := ∃ a, v = .ref a ∧ ¬ X a ∧ (H a = some (.lst xs) ∨ H a = some (.tup xs))
theorem SeqX.two {X : Addr → Prop} {H : Hp} {v : V} {xs : List V} (h : SeqX X H v xs) : Seq2 H v xs := let ⟨a, e, _, h⟩ := h; ⟨a, e, h⟩
theorem SeqX.keep {X : Addr → Prop} {H H' : Hp} {v : V} {xs : List V} (h : SeqX X H v xs) (k : ∀ a o, ¬ X a → H a = some o → H' a = some o) : SeqX X H' v xs := let ⟨a, e, n, h⟩ := h; ⟨a, e, n, h.imp (k _ _ n) (k _ _ n)⟩
theorem SeqX.but {b : Addr} {H H' : Hp} {v : V} {xs : List V} {D : Addr} (h : SeqX (fun a => a = b ∨ a = D) H v xs) (kb : But b H H') : SeqX (fun a => a = b ∨ a = D) H' v xs := h.keep fun a o n e => kb a o e fun z => n (.inl z)
section
variable {P : Program} {w : World} {K : PySem.W.Frag} {mg : Str → Option Value} {base : Heap}
variable {fT fO fM fC fCg : Addr} {dT' dO dM dC dCg : FuncData}
abbrev NsLo : List Str := ["_law_bag_here", "_law_row_here", "_law_changes_here", "_law_first", "_law_change"]
theorem ok_lloose {f : Addr} {fd : FuncData} (ml : mg "list" = none) (mt : mg "tuple" = none) (B : BT K mg fT fO dT' dO) (D : Df K mg "_law_loose" s_law_loose f fd) : FnOk P w K mg base CX0 2 f fd ["_law_bag_here", "_law_row_here"] spLLoose := by
  have S : FnScope NsLo ["_law_bag_here", "_law_row_here"] (defScope s_law_loose) := ⟨rfl, rfl, rfl, by decide +kernel, rfl, by decide +kernel, by decide +kernel⟩
  have nd := S.nd
  refine D.F.ok S (fun vs H Q E h => ?_) (fun cdv A outer s H vs Q E hr h => ?_)
  · obtain ⟨b, k, p, ns, W, st, cs, rfl, _⟩ := h
    rfl
  · obtain ⟨b, k, p, ns, W, st, cs, rfl, B0, ok, hR, q⟩ := h
    have oT := ok_take (P := P) (w := w) (base := base) B.T B.ml B.mi
    refine ⟨_, pss_cons (ps_setLc (i := 2) (own := [("_law_change", 4)]) (g := gName 4) (tt := tYes) rfl nd rfl rfl (sw_true rfl rfl rfl (by decide +kernel)) (pi_list (pe_ix ix_tup (pv 1) pe_int (fun _ _ => rfl))) (blkOk_by (N := NsLo) (sc := defScope s_law_loose) (by decide +kernel)) (fun _ _ _ _ _ => pg_name (i := 4) nd rfl (Or.inl rfl)) (fun _ _ _ _ _ => pts_nil)
        (fun _ _ _ _ _ => pe_ifExp (pt_cmpR op_eq (pe_call oT hr (by rfl) B.gT B.T.kp B.bT .nil pass0 (pa_cons (pv 0) (pa_cons pe_int pa_nil))) pe_int (nomark _)) (pe_callTy (T := "list") (r := fun xs H Q => ∃ p ys, xs = [.ref p] ∧ (SqL K H p ys ∨ SqT K H p ys) ∧ ∀ l, H l = none → Q (.ref l) (upd H l (.lst ys))) call_list_of (by rfl) ml (by decide +kernel) (pa_cons (pv 4) pa_nil)) (pv 4)))
      (pss_cut (ps_set (i := 3) nd rfl (Or.inl rfl) (pe_ifExp (pt_cmpR op_eq (pe_call oT hr (by rfl) B.gT B.T.kp B.bT .nil pass0 (pa_cons (pv 0) (pa_cons pe_int pa_nil))) pe_int (nomark _)) (pe_callTy call_list_of (by rfl) ml (by decide +kernel) (pa_cons (pe_ix ix_tup (pv 1) pe_int (fun _ _ => rfl)) pa_nil)) (pe_ix ix_tup (pv 1) pe_int (fun _ _ => rfl))))
      (pss_cut (ps_set (i := 2) nd rfl (Or.inl rfl) (pe_ifExp (pt_cmpR op_eq (pe_call oT hr (by rfl) B.gT B.T.kp B.bT .nil pass0 (pa_cons (pv 0) (pa_cons pe_int pa_nil))) pe_int (nomark _)) (pe_callTy (T := "tuple") (r := rTupOf K) call_tup (by rfl) mt (by decide +kernel) (pa_cons (pv 2) pa_nil)) (pv 2)))
      (pss_one (ps_ret (pe_ifExp (pt_cmpR op_eq (pe_call oT hr (by rfl) B.gT B.T.kp B.bT .nil pass0 (pa_cons (pv 0) (pa_cons pe_int pa_nil))) pe_int (nomark _)) (pe_lst (pa_cons (pv 3) (pa_cons (pv 2) pa_nil))) (pe_tup (pa_cons (pv 3) (pa_cons (pv 2) pa_nil)))))))), ?_⟩
    obtain ⟨a, l, es, hp, ha, hl, lb, hes⟩ := hR.ex
    have hl200 := hR.len
    refine ⟨_, rfl, p, _, 1, .ref l, rfl, rfl, SqT.of hp, rfl, l, rfl, ⟨_, SqL.of hl⟩, fun D nD => ?_⟩
    have sD := same_upd (o := .lst []) nD
    have Db : D ≠ b := abag_not B0 nD
    have Dk : D ≠ k := fun z => by
      rw [z, abag_k B0] at nD
      cases nD
    have Dl : D ≠ l := fun z => by
      rw [z, hl] at nD
      cases nD
    refine lc_it (walk_list (K := K) (a := l) (xs := es)) (fun i H' => ∃ zs, H' D = some (.lst zs) ∧ Paired (fun (c : Ch) v => SeqX (fun a => a = b ∨ a = D) H' v [.str c.1, .str c.2]) (cs.take i) zs ∧ But b H H' ∧ ABag H' b k ns) ⟨[], upd_same, .nil, But.of sD, B0.same sD⟩ (fun i H' _ ⟨_, _, _, kb, _⟩ => SqL.of (kb _ _ hl lb)) ?_ ?_
    · rintro i x Hz H2 hi ⟨zs, hD, hzs, kb2, B2⟩ ⟨rfl, hx⟩
      obtain ⟨c, hc, pc, rfl, hpc⟩ := paired_get hes hx
      have hil : i < cs.length := (List.getElem?_eq_some_iff.mp hc).1
      refine ⟨rfl, _, rfl, b, k, ns, _, rfl, B2, by decide, by decide, fun H3 dd kb3 B3 _ _ => ⟨rfl, _, rfl, ?_⟩⟩
      have kb03 := kb2.trans kb3
      have hpc3 := tup_but kb03 B0 hpc
      have hD3 := kb3 _ _ hD Db
      have zl : zs.length ≤ 200 := by
        rw [← Paired.length hzs, List.length_take]
        omega
      have fin : ∀ (H4 : Hp) (pz : Addr), Same H3 H4 → pz ≠ b → pz ≠ D → (H4 pz = some (.lst [.str c.1, .str c.2]) ∨ H4 pz = some (.tup [.str c.1, .str c.2])) → ∃ acc, H4 D = some (.lst acc) ∧ acc.length < sizeLine ∧ ∃ zs, (upd H4 D (.lst (acc ++ [.ref pz]))) D = some (.lst zs) ∧ Paired (fun (c : Ch) v => SeqX (fun a => a = b ∨ a = D) (upd H4 D (.lst (acc ++ [.ref pz]))) v [.str c.1, .str c.2]) (cs.take (i + 1)) zs ∧ But b H (upd H4 D (.lst (acc ++ [.ref pz]))) ∧ ABag (upd H4 D (.lst (acc ++ [.ref pz]))) b k ns := by
        intro H4 pz s4 n1 n2 hpz
        have up : ∀ (a : Addr) (o : HO), ¬ (a = b ∨ a = D) → H4 a = some o → (upd H4 D (.lst (zs ++ [.ref pz]))) a = some o := fun a o n e => by
          rw [upd_ne fun z => n (.inr z)]
          exact e
        refine ⟨zs, s4 _ _ hD3, small1000 (by omega), zs ++ [.ref pz], upd_same, ?_, fun r o e hr => ?_, abag_upd (B3.same s4) Db Dk⟩
        · rw [List.take_add_one, hc]
          exact paired_append (paired_imp hzs fun _ _ h => ((h.but kb3).keep fun a o _ e => s4 a o e).keep up) (.cons ⟨pz, rfl, (fun z => z.elim n1 n2), hpz.imp (up _ _ fun z => z.elim n1 n2) (up _ _ fun z => z.elim n1 n2)⟩ .nil)
        · rw [upd_ne (ne_of_none e nD)]
          exact s4 _ _ (kb03 r o e hr)
      cases decide (V.int dd = V.int 0) with
      | true =>
        refine iteT ⟨_, rfl, pc, _, rfl, .inr (SqT.of hpc3), fun l2 nl2 => ?_⟩
        exact fin _ l2 (same_upd nl2) (abag_not B3 nl2) (fun z => by rw [z, hD3] at nl2; cases nl2) (.inl upd_same)
      | false =>
        refine iteF ⟨_, rfl, ?_⟩
        exact fin H3 pc (Same.refl _) (by obtain ⟨zz, hb⟩ := abag_ne B3; exact ne_of hpc3 hb (by intro z; cases z)) (ne_of hpc3 hD3 (by intro z; cases z)) (.inr hpc3)
    · rintro H2 ⟨zs, hD, hzs, kb2, B2⟩
      rw [← Paired.length hes, List.take_length] at hzs
      have ha2 := tup_but kb2 B0 ha
      have hp2 := tup_but kb2 B0 hp
      refine ⟨fun σ H' => ∃ v3 v4, σ = [some (.ref b), some (.ref p), some (.ref D), some v3, v4] ∧ SeqX (fun a => a = b ∨ a = D) H' v3 (st.map V.str) ∧ H' D = some (.lst zs) ∧ Paired (fun (c : Ch) v => SeqX (fun a => a = b ∨ a = D) H' v [.str c.1, .str c.2]) cs zs ∧ But b H H' ∧ ABag H' b k ns, ?_, ?_⟩
      · refine ⟨_, rfl, b, k, ns, _, rfl, B2, by decide, by decide, fun H3 dd kb3 B3 _ _ => ⟨rfl, _, rfl, ?_⟩⟩
        have ha3 := tup_but kb3 B2 ha2
        have hp3 := tup_but kb3 B2 hp2
        have hD3 := kb3 _ _ hD Db
        have hzs3 := paired_imp hzs fun _ _ h => h.but kb3
        cases decide (V.int dd = V.int 0) with
        | true =>
          refine iteT ⟨_, rfl, p, _, 0, .ref a, rfl, rfl, SqT.of hp3, rfl, a, _, rfl, .inr (SqT.of ha3), fun l3 nl3 => ?_⟩
          have s4 := same_upd (o := .lst (st.map V.str)) nl3
          exact ⟨.ref l3, _, rfl, ⟨l3, rfl, (fun z => z.elim (abag_not B3 nl3) (fun z => by rw [z, hD3] at nl3; cases nl3)), .inl upd_same⟩, s4 _ _ hD3, paired_imp hzs3 fun _ _ h => h.keep fun a o _ e => s4 a o e, (kb2.trans kb3).trans (But.of s4), B3.same s4⟩
        | false =>
          refine iteF ⟨_, rfl, p, _, 0, .ref a, rfl, rfl, SqT.of hp3, rfl, ?_⟩
          exact ⟨.ref a, _, rfl, ⟨a, rfl, (fun z => z.elim (by obtain ⟨zz, hb⟩ := abag_ne B3; exact ne_of ha3 hb (by intro z; cases z)) (ne_of ha3 hD3 (by intro z; cases z))), .inr ha3⟩, hD3, hzs3, kb2.trans kb3, B3⟩
      · rintro σ H3 ⟨v3, v4, rfl, hv3, hD3, hzs3, kb3, B3⟩
        refine ⟨fun σ H' => ∃ v2 v3 v4, σ = [some (.ref b), some (.ref p), some v2, some v3, v4] ∧ Seq2 H' v3 (st.map V.str) ∧ (∃ c2, v2 = .ref c2 ∧ c2 ≠ b ∧ (H' c2 = some (.lst zs) ∨ H' c2 = some (.tup zs))) ∧ (∃ c3, v3 = .ref c3 ∧ c3 ≠ b) ∧ Paired (fun (c : Ch) v => SeqX (fun a => a = b ∨ a = D) H' v [.str c.1, .str c.2]) cs zs ∧ But b H H' ∧ ABag H' b k ns, ?_, ?_⟩
        · refine ⟨_, rfl, b, k, ns, _, rfl, B3, by decide, by decide, fun H4 dd kb4 B4 _ _ => ⟨rfl, _, rfl, ?_⟩⟩
          have hD4 := kb4 _ _ hD3 Db
          have hv4 := hv3.but kb4
          have hzs4 := paired_imp hzs3 fun _ _ h => h.but kb4
          have n3 : ∃ c3, v3 = .ref c3 ∧ c3 ≠ b := let ⟨c3, e, n, _⟩ := hv4; ⟨c3, e, fun z => n (.inl z)⟩
          cases decide (V.int dd = V.int 0) with
          | true =>
            refine iteT ⟨_, rfl, D, zs, rfl, .inl ⟨SqL.of hD4, fun t nt => ?_⟩⟩
            have s5 := same_upd (o := .tup zs) nt
            exact ⟨.ref t, v3, v4, rfl, (hv4.keep fun a o _ e => s5 a o e).two, ⟨t, rfl, abag_not B4 nt, .inr upd_same⟩, n3, paired_imp hzs4 fun _ _ h => h.keep fun a o _ e => s5 a o e, (kb3.trans kb4).trans (But.of s5), B4.same s5⟩
          | false =>
            refine iteF ⟨_, rfl, ?_⟩
            exact ⟨.ref D, v3, v4, rfl, hv4.two, ⟨D, rfl, Db, .inl hD4⟩, n3, hzs4, kb3.trans kb4, B4⟩
        · rintro σ H4 ⟨v2, v3, v4, rfl, hv4, ⟨c2, rfl, n2, h2⟩, ⟨c3, rfl, n3⟩, hzs4, kb4, B4⟩
          refine ⟨_, rfl, b, k, ns, _, rfl, B4, by decide, by decide, fun H5 dd kb5 B5 _ _ => ⟨rfl, _, rfl, ?_⟩⟩
          have hv5 : Seq2 H5 (.ref c3) (st.map V.str) := by
            obtain ⟨c3', e, h⟩ := hv4
            cases e
            exact ⟨c3, rfl, h.imp (fun h => kb5 _ _ h n3) (fun h => kb5 _ _ h n3)⟩
          have h25 : Seq2 H5 (.ref c2) zs := ⟨c2, rfl, h2.imp (fun h => kb5 _ _ h n2) (fun h => kb5 _ _ h n2)⟩
          have hzs5 := paired_imp hzs4 fun _ _ h => (h.but kb5).two
          have end_ : ∀ (H6 : Hp) (x : V), Same H5 H6 → Seq2 H6 x [.ref c3, .ref c2] → Q x H6 := fun H6 x s6 hx => by
            refine q H6 x ((kb4.trans kb5).trans (But.of s6)) (B5.same s6) ⟨⟨.ref c3, .ref c2, zs, hx, hv5.same s6, h25.same s6, paired_imp hzs5 fun _ _ h => h.same s6⟩, stds_names ok.sok.wn hR.hin, ?_, ?_, hR.nm ok, hR.len⟩
            · rw [stds_mem hR.hin]
              exact ok.sok.n1
            · rw [stds_mem hR.hin]
              exact ok.sok.n4
          cases decide (V.int dd = V.int 0) with
          | true => exact iteT ⟨_, rfl, _, rfl, (by show 2 ≤ sizeLine; decide), fun t nt => end_ _ _ (same_upd nt) ⟨t, rfl, .inl upd_same⟩⟩
          | false => exact iteF ⟨_, rfl, _, rfl, (by show 2 ≤ sizeLine; decide), fun t nt => end_ _ _ (same_upd nt) ⟨t, rfl, .inr upd_same⟩⟩
abbrev NsDu : List Str := ["_law_ways", "_law_gains_here", "_law_row_here", "_law_standing", "_law_found", "_law_told", "_law_change", "_law_at", "_law_goal"]
theorem ok_ldue {f : Addr} {fd : FuncData} (ms : mg "sorted" = none) (T : MvT K mg fM fC fCg dM dC dCg) (D : Df K mg "_law_due" s_law_due f fd) : FnOk P w K mg base CX0 2 f fd ["_law_ways", "_law_gains_here", "_law_row_here"] spLDue := by
  have S : FnScope NsDu ["_law_ways", "_law_gains_here", "_law_row_here"] (defScope s_law_due) := ⟨rfl, rfl, rfl, by decide +kernel, rfl, by decide +kernel, by decide +kernel⟩
  have nd := S.nd
  refine D.F.ok S (fun vs H Q E h => ?_) (fun cdv A outer s H vs Q E hr h => ?_)
  · obtain ⟨d, gd, b, p, W, γ, st, cs, rfl, _⟩ := h
    rfl
  · obtain ⟨d, gd, b, p, W, γ, st, cs, rfl, hW, ok, hγ, hR, q⟩ := h
    have hu := hu_of hr
    have oMv := ok_moved (P := P) (w := w) (base := base) ms T.mv.d
    refine ⟨_, pss_cons (ps_par3 (i := 3) (j := 4) (l := 5) (by rfl) nd rfl rfl rfl (by decide) (by decide) (by decide) rfl rfl rfl (pa_cons (pe_ix ix_tup (pv 2) pe_int (fun _ _ => rfl)) (pa_cons (pe_lst (pa_cons (pe_ix ix_tup (pv 2) pe_int (fun _ _ => rfl)) pa_nil)) (pa_cons pe_int pa_nil))) (by rfl))
      (pss_cons (ps_for PassesOwn.never rfl (pi_list (pe_ix ix_tup (pv 2) pe_int (fun _ _ => rfl))) (pg_name (i := 6) nd rfl (Or.inl rfl))
        (pss_cons (ps_set (i := 7) nd rfl (Or.inl rfl) (pe_bm PySem.F.plainAttrs_list PySem.F.slot_list_index PySem.F.type_list_index mt_index (pe_callB (call_srtD rfl) (by rfl) ms (by decide +kernel) (pa_cons (pv 0) pa_nil)) (pa_cons (pe_ix ix_tup (pv 6) pe_int (fun _ _ => rfl)) pa_nil)))
        (pss_cons (ps_set (i := 8) nd rfl (Or.inl rfl) (pe_call oMv hr (by rfl) T.mv.d.g T.mv.d.F.kp T.mv.b .nil pass0 (pa_cons (pv 0) (pa_cons (pv 3) (pa_cons (pv 6) pa_nil)))))
        (pss_cons (ps_aug (i := 5) nd rfl (Or.inl rfl) (pe_op op_sub (pe_ix ix_tup (pe_dget hu (pv 1) (pv 8) (fun _ _ => rfl)) (pv 7) (fun _ _ => rfl)) (pe_ix ix_tup (pe_dget hu (pv 1) (pv 3) (fun _ _ => rfl)) (pv 7) (fun _ _ => rfl))) ip_add)
        (pss_cons (ps_set (i := 3) nd rfl (Or.inl rfl) (pv 8))
        (pss_one (ps_expr (pe_bm PySem.F.plainAttrs_list PySem.F.slot_list_append PySem.F.type_list_append mt_append (pv 4) (pa_cons (pv 8) pa_nil)))))))))
      (pss_one (ps_ret (pe_tup (pa_cons (pv 4) (pa_cons (pv 5) pa_nil)))))), ?_⟩
    obtain ⟨a, l, es, hp, ha, hl, lb, hes⟩ := hR.ex
    have sok := ok.sok
    have shl : (sh W).length = W.length := sh_len W
    have n4 := ok.n4
    have hnm : srt (W.map (·.1)) = names (sh W) := (sh_names W).symm
    have cin : ∀ i, i ≤ cs.length → goes (sh W) st (cs.take i) ∈ stds (sh W) := fun i hi => goes_in sok hR.hin hi fun k c _ => hR.can k c
    have hγ' : GLen (sh W) γ := fun s hs => by
      obtain ⟨_, _, h⟩ := hγ
      rw [(h s hs).1, shl]
    refine ⟨_, rfl, p, _, 0, .ref a, rfl, rfl, SqT.of hp, rfl, _, rfl, p, _, 0, .ref a, rfl, rfl, SqT.of hp, rfl, (by show 1 ≤ sizeLine; decide), fun f nf => ⟨_, _, _, rfl, ?_⟩⟩
    have s1 := same_upd (o := .lst [V.ref a]) nf
    refine ⟨_, rfl, p, _, 1, .ref l, rfl, rfl, SqT.of (s1 _ _ hp), rfl, l, rfl, ⟨_, SqL.of (s1 _ _ hl)⟩, for_it (walk_list (K := K) (a := l) (xs := es)) (fun i σ H' => ∃ ca vs v6 v7 v8, σ = [some (.ref d), some (.ref gd), some (.ref p), some (.ref ca), some (.ref f), some (.int ((owns (sh W) γ st cs).take i).sum), v6, v7, v8] ∧ Same H H' ∧
        H' ca = some (.tup ((goes (sh W) st (cs.take i)).map V.str)) ∧ H' f = some (.lst vs) ∧ TupsAt H' ((stops (sh W) st cs).take (i + 1)) vs)
      ⟨a, [.ref a], none, none, none, rfl, s1, s1 _ _ ha, upd_same, ?_⟩ (fun i σ H' _ ⟨_, _, _, _, _, _, sx, _⟩ => SqL.of (sx _ _ hl)) ?_ ?_⟩
    · have e0 : (stops (sh W) st cs).take (0 + 1) = [st] := by
        rw [List.take_add_one, stops_at (Nat.zero_le _)]
        rfl
      rw [e0]
      exact .cons ⟨a, rfl, s1 _ _ ha⟩ .nil
    · rintro i x σ Hz H2 hi ⟨ca, vs, v6, v7, v8, rfl, s2, hca, hf, hts⟩ ⟨rfl, hx⟩
      obtain ⟨c, hc, pc, rfl, hpc⟩ := paired_get hes hx
      have hil : i < cs.length := (List.getElem?_eq_some_iff.mp hc).1
      have gin := cin i (Nat.le_of_lt hil)
      obtain ⟨i0, q0, z0, m, n, hq0, e0, hv0, hz0, hne0, hm, hn, hown⟩ := own_facts sok hγ' gin (hR.can i c hc)
      obtain ⟨i0', q0', z0', hq0', e0', _, _, _, hput, hpin⟩ := can_facts sok gin (hR.can i c hc)
      have ei : i0' = i0 := one_place sok.nd hq0 hq0' (e0'.trans e0.symm)
      subst ei
      have hni := names_at hq0
      rw [e0] at hni
      obtain ⟨i1, i2, i3⟩ := ix_name sok.nd hni
      obtain ⟨kw, hd, hpw⟩ := id (hW.same s2)
      have hpc2 := s2 _ _ hpc
      refine ⟨_, rfl, d, kw, W.map (·.1), rfl, hd, keysL hpw, (by rw [List.length_map]; exact Nat.lt_of_le_of_lt n4 (by decide)), fun np nn => ?_⟩
      rw [hnm]
      have s3 := same_upd (o := .lst ((names (sh W)).map V.str)) nn
      refine ⟨.inl ⟨rfl, _, SqL.of upd_same⟩, _, rfl, pc, _, 0, .str c.1, rfl, rfl, SqT.of (s3 _ _ hpc2), rfl, np, _, .str c.1, i0', .str c.1, rfl, rfl, SqL.of upd_same, rfl, flat_strs _, i1, i2, i3, ?_⟩
      have s03 := s2.trans s3
      have hca3 := s3 _ _ hca
      have hpc3 := s3 _ _ hpc2
      have hf3 := s3 _ _ hf
      have hts3 := hts.same s3
      generalize (upd H2 np (.lst ((names (sh W)).map V.str))) = H3 at s3 s03 hca3 hpc3 hf3 hts3
      refine ⟨_, rfl, _, rfl, _, rfl, d, ca, pc, W, _, c, rfl, hW.same s03, ok, hca3, by rw [stds_mem gin, shl], hpc3, by rw [← e0]; exact List.mem_of_getElem? (names_at hq0), fun H4 p4 s4 h4 => ?_⟩
      have s04 := s03.trans s4
      have hγ4 := hγ.same s04
      obtain ⟨r1, hget1, hr1⟩ := hγ4.get (K := K) hpin h4
      obtain ⟨r2, hget2, hr2⟩ := hγ4.get (K := K) gin (s4 _ _ hca3)
      rw [hput] at hr1
      refine ⟨_, rfl, _, rfl, _, rfl, gd, _, rfl, hget1, _, rfl, r1, _, _, _, rfl, rfl, SqT.of hr1, atI_nat (j := i0') (by rw [List.getElem?_map, hm]; rfl), _, rfl, _, rfl, gd, _, rfl, hget2, _, rfl, r2, _, _, _, rfl, rfl, SqT.of hr2, atI_nat (j := i0') (by rw [List.getElem?_map, hn]; rfl), _, _, rfl, rfl, _, _, rfl, rfl, ?_⟩
      have hf4 := s4 _ _ hf3
      have vl : vs.length ≤ 201 := by
        rw [← Paired.length hts3, List.length_take, stops_len]
        have := hR.len
        omega
      refine ⟨_, rfl, _, rfl, .inl ⟨rfl, _, SqL.of hf4⟩, _, rfl, f, vs, _, rfl, rfl, hf4, small1000 (by omega), p4, vs ++ [.ref p4], some (.ref pc), some (.int (i0' : Int)), some (.ref p4), ?_, fun r o e => ?_, ?_, upd_same, ?_⟩
      · have e1 : ((owns (sh W) γ st cs).take (i + 1)).sum = ((owns (sh W) γ st cs).take i).sum + (m - n) := by
          rw [List.take_add_one, owns_at hc, hown, List.sum_append]
          congr 1
          show (m - n) + 0 = m - n
          exact Int.add_zero _
        rw [e1]
        rfl
      · rw [upd_ne (ne_of_none e nf)]
        exact s04 r o e
      · rw [upd_ne (ne_of h4 hf4 (by intro z; cases z)), goes_more hc]
        exact h4
      · rw [stops_take hil]
        refine paired_append ((hts3.same s4).upd hf4) (.cons ⟨p4, rfl, ?_⟩ .nil)
        rw [upd_ne (ne_of h4 hf4 (by intro z; cases z)), goes_more hc]
        exact h4
    · rintro σ H2 ⟨ca, vs, v6, v7, v8, rfl, s2, hca, hf, hts⟩
      rw [← Paired.length hes] at hts
      rw [← stops_len (sh W) st cs, List.take_length] at hts
      refine ⟨_, rfl, _, rfl, (by show 2 ≤ sizeLine; decide), fun p' np' => ?_⟩
      rw [← Paired.length hes, ← owns_len (sh W) γ st cs, List.take_length]
      have sp := same_upd (o := .tup [V.ref f, V.int (owns (sh W) γ st cs).sum]) np'
      exact q _ p' f vs (s2.trans sp) upd_same nf (sp _ _ hf) (hts.same sp)
end
end HG

namespace HG
open PySem PySem.Spec PyProof.Rows L2 HT
open C8 (pss_cut tCut)
/-! ### xs.count(True) -/
def isB (k : Bool) (v : Value) : Bool := match v with
  | .bool c => c == k
  | _ => false
theorem vals_bools : ∀ (bs : List Bool) {us : List Value}, Vals (bs.map V.bl) us → us = bs.map Value.bool
  | [], _, .nil => rfl
  | b :: r, _, .cons h t => by
    rw [List.map_cons, ← vals_bools r t]
    cases h
    rfl
theorem isB_count (k : Bool) : ∀ bs : List Bool, (bs.map Value.bool).countP (isB k) = bs.count k
  | [] => rfl
  | b :: r => by
    rw [List.map_cons, List.countP_cons, List.count_cons, isB_count k r]
    rfl
def rCntB (K : PySem.W.Frag) : V → List V → Hp → VK → Prop := fun x xs H Q => ∃ (p : Addr) (bs : List Bool) (k : Bool), x = .ref p ∧ xs = [.bl k] ∧ SqL K H p (bs.map V.bl) ∧ Q (.int (bs.count k : Nat)) H
theorem mt_bcount {X : Cx} : MtR X "list.count" (rCntB X.K) := by
  intro pins s σ H x xs v us Q I rx rxs h
  obtain ⟨p, bs, k, rfl, rfl, hs, q⟩ := h
  cases rx
  obtain ⟨u, rfl, ru⟩ := rxs.one
  obtain rfl : u = Value.bool k := ru
  obtain ⟨its, rv, ⟨⟨c0, d0, dt, sl⟩, n, ho, hc, _, hd⟩, _⟩ := I.list hs
  have hc' : c0 = .type "list" := hc
  have hd' : dt = .seq its.toArray n := hd
  subst hc' hd'
  have ei := vals_bools bs rv
  subst ei
  have gives : ∀ y ∈ (bs.map Value.bool).toArray, SeqAt.EqAt X.A.in1 s y (.bool k) (isB k y) := fun y hy => by
    obtain ⟨b, _, rfl⟩ := List.mem_map.mp (show y ∈ bs.map Value.bool by simpa using hy)
    exact SeqAt.EqAt.bool_bool b k
  refine call_meets PySem.F.slot_list_count ⟨_, ho, rfl⟩ PySem.F.entry_list_count (PySem.F.args_list_count_2 _ _) (SeqAt.list_countAt p (bs.map Value.bool).toArray n d0 sl (.bool k) (isB k)) ⟨ho, gives, ?_⟩
  refine ⟨.int (bs.count k : Nat), H, I.tok _, ⟨s.toks, ?_⟩, q⟩
  rw [show (bs.map Value.bool).toArray.toList = bs.map Value.bool by simp, isB_count]
/-! ### _law_tried -/
structure TrK (K : PySem.W.Frag) (mg : Str → Option Value) (CH CW CN CS : Addr) : Prop where
  gH : mg "HeightError" = some (.ref CH)
  xW : PySem.W.exmOne K (.ref CW) (.ref CH) = some true
  xN : PySem.W.exmOne K (.ref CN) (.ref CH) = some true
  xS : PySem.W.exmOne K (.ref CS) (.ref CH) = some true
  kWW : PySem.W.kitOne K (.ref CW) (.ref CW) = some true
  kWN : PySem.W.kitOne K (.ref CW) (.ref CN) = some false
  kWS : PySem.W.kitOne K (.ref CW) (.ref CS) = some false
  kNW : PySem.W.kitOne K (.ref CN) (.ref CW) = some false
  kNN : PySem.W.kitOne K (.ref CN) (.ref CN) = some true
  kNS : PySem.W.kitOne K (.ref CN) (.ref CS) = some false
  kSW : PySem.W.kitOne K (.ref CS) (.ref CW) = some false
  kSN : PySem.W.kitOne K (.ref CS) (.ref CN) = some false
  kSS : PySem.W.kitOne K (.ref CS) (.ref CS) = some true
  gc : GetC K
def TriedAt (S : List Way) (γ : List Str → List Int) (H0 H' : Hp) (way : Nat) (p : Addr) : Out → Prop
  | .wrong => H' p = some (.tup [.str "wrong", .int 1])
  | .stand st => ∃ a, H' p = some (.tup [.str "standing", .ref a]) ∧ H' a = some (.tup (st.map V.str))
  | .step j => H' p = some (.tup [.str "step", .int (j : Int)])
  | .fine st cs => (way = 0 → ∃ a, H' p = some (.tup [.str "told", .ref a]) ∧ H' a = some (.tup ((goes S st cs).map V.str))) ∧
      (way = 1 → ∃ l vs, H' p = some (.tup [.str "told", .ref l]) ∧ H0 l = none ∧ H' l = some (.lst vs) ∧ TupsAt H' (stops S st cs) vs) ∧ (way = 2 → H' p = some (.tup [.str "told", .int (sumP S γ st cs)]))
def spTried (K : PySem.W.Frag) (C : Addr) : Sp := fun args H Q _ => ∃ (g : Addr) (x : V) (way : Nat) (N : Addr → Prop) (S : List Way) (γ : List Str → List Int) (o : Out), args = [.int (way : Int), .ref g, x] ∧ way ≤ 2 ∧ IsG K C N H g S γ ∧ SOk S ∧ GLen S γ ∧ WOut K H S x o ∧
  ∀ H' p, Same H H' → TriedAt S γ H H' way p o → Q (.ref p) H'
section
variable {P : Program} {w : World} {K : PySem.W.Frag} {mg : Str → Option Value} {base : Heap} {C : Addr}
def t_kinds (K : PySem.W.Frag) (CW CN CS : Addr) (a : Addr) (cls : Value) (d : Option Addr) : TE :=
  tLst (tCons (tCB (rIsCt K a cls d) (tCons (tVar 3) (tCons (tC (.ref CW)) tNil))) (tCons (tCB (rIsCt K a cls d) (tCons (tVar 3) (tCons (tC (.ref CN)) tNil))) (tCons (tCB (rIsCt K a cls d) (tCons (tVar 3) (tCons (tC (.ref CS)) tNil))) tNil)))
def t_caught (K : PySem.W.Frag) (CW CN CS : Addr) : Addr → Value → Option Addr → TS := fun a cls d =>
  tSeq (tAsg (t_kinds K CW CN CS a cls d) (gName 4))
  (tSeq (tIfS (tTest (tOp rNe (tBM K "list" (rCntB K) (tVar 4) (tCons (tC (.bl true)) tNil)) (tC (.int 1)))) (fun _ _ _ => False) tNext)
  (tSeq (tIfS (tB (tOp (rIxL K) (tVar 4) (tC (.int 0)))) (tRet (tTup (tCons (tC (.str "wrong")) (tCons (tXf a cls d CW "place" (tVar 3)) tNil)))) tNext)
  (tRet (tIf (tB (tOp (rIxL K) (tVar 4) (tC (.int 1)))) (tTup (tCons (tC (.str "standing")) (tCons (tXf a cls d CN "standing" (tVar 3)) tNil))) (tTup (tCons (tC (.str "step")) (tCons (tXf a cls d CS "index" (tVar 3)) tNil)))))))
def t_asked (K : PySem.W.Frag) (C CW CN CS : Addr) (W : WX) : TS :=
  tSeq (tIfS (tTest (tOp rEq (tVar 0) (tC (.int 0)))) (tRet (tTup (tCons (tC (.str "told")) (tCons (tCallS (spLed K C CW CN CS) (WE W) (tCons (tVar 1) (tCons (tVar 2) tNil))) tNil)))) tNext)
  (tRet (tTup (tCons (tC (.str "told")) (tCons (tIf (tTest (tOp rEq (tVar 0) (tC (.int 1)))) (tCallS (spWalked K C CW CN CS) (WE W) (tCons (tVar 1) (tCons (tVar 2) tNil))) (tCallS (spSum K C CW CN CS) (WE W) (tCons (tVar 1) (tCons (tVar 2) tNil)))) tNil))))
abbrev NsTr : List Str := ["_law_way", "_law_game", "_law_row_here", "e", "_law_kinds"]
theorem ok_tried {f fW fL fR CH CW CN CS iW iN iS : Addr} {fd dW dL dR eW eN eS : FuncData} (mi : mg "isinstance" = none) (EW : EK K mg "Wrong" "place" CW iW eW) (EN : EK K mg "NoStanding" "standing" CN iN eN) (ES : EK K mg "NoStep" "index" CS iS eS) (Z : TrK K mg CH CW CN CS)
    (W : DfB K mg "walked" s_walked ["game", "row"] fW dW) (L : DfB K mg "led" s_led ["game", "row"] fL dL) (R : DfB K mg "row_sum" s_row_sum ["game", "row"] fR dR) (oW : FnOk P w K mg base (L2.CX P w) 6 fW dW ["game", "row"] (spWalked K C CW CN CS)) (oL : FnOk P w K mg base (L2.CX P w) 7 fL dL ["game", "row"] (spLed K C CW CN CS)) (oR : FnOk P w K mg base (L2.CX P w) 7 fR dR ["game", "row"] (spSum K C CW CN CS))
    (D : Df K mg "_law_tried" s_law_tried f fd) : FnOk P w K mg base CX0 8 f fd ["_law_way", "_law_game", "_law_row_here"] (spTried K C) := by
  have S : FnScope NsTr ["_law_way", "_law_game", "_law_row_here"] (defScope s_law_tried) := ⟨rfl, rfl, rfl, by decide +kernel, rfl, by decide +kernel, by decide +kernel⟩
  have nd := S.nd
  refine D.F.ok S (fun vs H Q E h => ?_) (fun cdv A outer s H vs Q E hr h => ?_)
  · obtain ⟨g, x, way, N, S, γ, o, rfl, _⟩ := h
    rfl
  · obtain ⟨g, x, way, N, S, γ, o, rfl, hway, hg, ok, hγ, ho, q⟩ := h
    refine ⟨_, pss_one (ps_try_as (i := 3) (tb := t_asked K C CW CN CS) (ts := t_caught K CW CN CS) (Wout := fun _ _ _ _ => False) rfl rfl nd rfl rfl ⟨rfl, by decide, Or.inl Z.gH⟩ takes0
      (fun W' pn xe tk _ => pss_cons (ps_if (pt_cmpR op_eq (pv 0) pe_int (nomark _)) (pss_one (ps_ret (pe_tup (pa_cons pe_str (pa_cons (by exact (pe_callS oL hr rfl L.d.g L.d.F.kp L.b (fun σ => passAt tk σ) (by exact (pa_cons (pv 1) (pa_cons (pv 2) pa_nil))))) pa_nil))))) pss_nil)
        (pss_one (ps_ret (pe_tup (pa_cons pe_str (pa_cons (pe_ifExp (pt_cmpR op_eq (pv 0) pe_int (nomark _)) (by exact (pe_callS oW (hr.mono (by decide)) rfl W.d.g W.d.F.kp W.b (fun σ => passAt tk σ) (by exact (pa_cons (pv 1) (pa_cons (pv 2) pa_nil))))) (by exact (pe_callS oR hr rfl R.d.g R.d.F.kp R.b (fun σ => passAt tk σ) (by exact (pa_cons (pv 1) (pa_cons (pv 2) pa_nil)))))) pa_nil))))))
      (fun a oe cls d pn hz hf => by exact (pss_cons (ps_set (i := 4) nd rfl (Or.inl rfl) (pe_lst (pa_cons (pe_callB (r := rIsCt K a cls d) (call_isCt hz hf) (by rfl) mi (by decide +kernel) (pa_cons (pv 3) (pa_cons (pe_glob (v := .ref CW) (by rfl) EW.g rfl) pa_nil))) (pa_cons (pe_callB (r := rIsCt K a cls d) (call_isCt hz hf) (by rfl) mi (by decide +kernel) (pa_cons (pv 3) (pa_cons (pe_glob (v := .ref CN) (by rfl) EN.g rfl) pa_nil))) (pa_cons (pe_callB (r := rIsCt K a cls d) (call_isCt hz hf) (by rfl) mi (by decide +kernel) (pa_cons (pv 3) (pa_cons (pe_glob (v := .ref CS) (by rfl) ES.g rfl) pa_nil))) pa_nil)))))
        (pss_cons (ps_if (pt_cmpR op_ne (pe_bm PySem.F.plainAttrs_list PySem.F.slot_list_count PySem.F.type_list_count (mt_bcount) (pv 4) (pa_cons pe_bl pa_nil)) pe_int (nomark _)) pss_never pss_nil)
        (pss_cons (ps_if (pt_val (pe_ix (r := rIxL K) ix_list (pv 4) pe_int (fun _ _ => rfl))) (pss_one (ps_ret (pe_tup (pa_cons pe_str (pa_cons (pe_xf EW.c.xf EW.no hz hf (pv 3)) pa_nil))))) pss_nil)
        (pss_one (ps_ret (pe_ifExp (pt_val (pe_ix (r := rIxL K) ix_list (pv 4) pe_int (fun _ _ => rfl))) (pe_tup (pa_cons pe_str (pa_cons (pe_xf EN.c.xf EN.no hz hf (pv 3)) pa_nil))) (pe_tup (pa_cons pe_str (pa_cons (pe_xf ES.c.xf ES.no hz hf (pv 3)) pa_nil))))))))))), ?_⟩
    have hErr : ∀ H1, Same H H1 → Err3 CW CN CS (WE (wAs K (.ref CH) 3 (t_caught K CW CN CS) (fun _ _ _ _ => False) { nx := fun _ H' => Q .non H', rt := Q }) (L2.start NsTr [.int (way : Int), .ref g, x])) H1 o := by
      intro H1 s1
      cases o with
      | wrong =>
        intro d hd
        refine ⟨true, Z.xW, fun _ a na => ?_, fun z => Bool.noConfusion z⟩
        refine ⟨_, rfl, CW, d, _, .ref CW, .ref CW, true, rfl, .own CW, rfl, rfl, hd, EW.c, Z.gc, Z.kWW, _, rfl, CW, d, _, .ref CN, .ref CN, false, rfl, .own CN, rfl, rfl, hd, EW.c, Z.gc, Z.kWN, _, rfl, CW, d, _, .ref CS, .ref CS, false, rfl, .own CS, rfl, rfl, hd, EW.c, Z.gc, Z.kWS, (by show 3 ≤ sizeLine; decide), fun lk nlk => ?_⟩
        have sk := same_upd (o := .lst [.bl true, .bl false, .bl false]) nlk
        have hlk : (upd H1 lk (.lst [.bl true, .bl false, .bl false])) lk = some (.lst ([true, false, false].map V.bl)) := upd_same
        have hd1 := sk _ _ hd
        refine ⟨_, rfl, .inl ⟨rfl, _, SqL.of hlk⟩, lk, [true, false, false], true, rfl, rfl, SqL.of hlk, rfl, _, rfl, iteF ?_⟩
        refine ⟨_, rfl, lk, _, 0, .bl true, rfl, rfl, SqL.of hlk, rfl, _, rfl, iteT ⟨_, rfl, rfl, rfl, d, _, _, rfl, hd1, rfl, (by show 2 ≤ sizeLine; decide), fun t nt => ?_⟩⟩
        exact q _ t (s1.trans (sk.trans (same_upd nt))) upd_same
      | stand st =>
        intro d p hd hp
        refine ⟨true, Z.xN, fun _ a na => ?_, fun z => Bool.noConfusion z⟩
        refine ⟨_, rfl, CN, d, _, .ref CW, .ref CW, false, rfl, .own CW, rfl, rfl, hd, EN.c, Z.gc, Z.kNW, _, rfl, CN, d, _, .ref CN, .ref CN, true, rfl, .own CN, rfl, rfl, hd, EN.c, Z.gc, Z.kNN, _, rfl, CN, d, _, .ref CS, .ref CS, false, rfl, .own CS, rfl, rfl, hd, EN.c, Z.gc, Z.kNS, (by show 3 ≤ sizeLine; decide), fun lk nlk => ?_⟩
        have sk := same_upd (o := .lst [.bl false, .bl true, .bl false]) nlk
        have hlk : (upd H1 lk (.lst [.bl false, .bl true, .bl false])) lk = some (.lst ([false, true, false].map V.bl)) := upd_same
        have hd1 := sk _ _ hd
        refine ⟨_, rfl, .inl ⟨rfl, _, SqL.of hlk⟩, lk, [false, true, false], true, rfl, rfl, SqL.of hlk, rfl, _, rfl, iteF ?_⟩
        refine ⟨_, rfl, lk, _, 0, .bl false, rfl, rfl, SqL.of hlk, rfl, _, rfl, iteF ⟨_, rfl, lk, _, 1, .bl true, rfl, rfl, SqL.of hlk, rfl, _, rfl, iteT ⟨_, rfl, rfl, rfl, d, _, _, rfl, hd1, rfl, (by show 2 ≤ sizeLine; decide), fun t nt => ?_⟩⟩⟩
        exact q _ t (s1.trans (sk.trans (same_upd nt))) ⟨p, upd_same, same_upd nt _ _ (sk _ _ hp)⟩
      | step j =>
        intro d hd
        refine ⟨true, Z.xS, fun _ a na => ?_, fun z => Bool.noConfusion z⟩
        refine ⟨_, rfl, CS, d, _, .ref CW, .ref CW, false, rfl, .own CW, rfl, rfl, hd, ES.c, Z.gc, Z.kSW, _, rfl, CS, d, _, .ref CN, .ref CN, false, rfl, .own CN, rfl, rfl, hd, ES.c, Z.gc, Z.kSN, _, rfl, CS, d, _, .ref CS, .ref CS, true, rfl, .own CS, rfl, rfl, hd, ES.c, Z.gc, Z.kSS, (by show 3 ≤ sizeLine; decide), fun lk nlk => ?_⟩
        have sk := same_upd (o := .lst [.bl false, .bl false, .bl true]) nlk
        have hlk : (upd H1 lk (.lst [.bl false, .bl false, .bl true])) lk = some (.lst ([false, false, true].map V.bl)) := upd_same
        have hd1 := sk _ _ hd
        refine ⟨_, rfl, .inl ⟨rfl, _, SqL.of hlk⟩, lk, [false, false, true], true, rfl, rfl, SqL.of hlk, rfl, _, rfl, iteF ?_⟩
        refine ⟨_, rfl, lk, _, 0, .bl false, rfl, rfl, SqL.of hlk, rfl, _, rfl, iteF ⟨_, rfl, lk, _, 1, .bl false, rfl, rfl, SqL.of hlk, rfl, _, rfl, iteF ⟨_, rfl, rfl, rfl, d, _, _, rfl, hd1, rfl, (by show 2 ≤ sizeLine; decide), fun t nt => ?_⟩⟩⟩
        exact q _ t (s1.trans (sk.trans (same_upd nt))) upd_same
      | fine st cs => exact trivial
    rcases way with _ | _ | way
    · refine ⟨_, rfl, rfl, _, rfl, iteT ⟨_, rfl, _, rfl, g, x, N, S, γ, o, rfl, hg, ok, ho, hErr, fun st cs e H1 p s1 hp => ⟨(by show 2 ≤ sizeLine; decide), fun t nt => ?_⟩⟩⟩
      subst e
      refine q _ t (s1.trans (same_upd nt)) ⟨fun _ => ⟨p, upd_same, same_upd nt _ _ hp⟩, (fun z => absurd z (by decide)), (fun z => absurd z (by decide))⟩
    · refine ⟨_, rfl, rfl, _, rfl, iteF ⟨_, rfl, rfl, _, rfl, iteT ⟨_, rfl, _, rfl, g, x, N, S, γ, o, rfl, hg, ok, ho, hErr, fun st cs e H1 p vs s1 np hp hts => ⟨(by show 2 ≤ sizeLine; decide), fun t nt => ?_⟩⟩⟩⟩
      subst e
      refine q _ t (s1.trans (same_upd nt)) ⟨(fun z => absurd z (by decide)), fun _ => ⟨p, vs, upd_same, np, same_upd nt _ _ hp, hts.same (same_upd nt)⟩, (fun z => absurd z (by decide))⟩
    · have e2 : way = 0 := by omega
      subst e2
      refine ⟨_, rfl, rfl, _, rfl, iteF ⟨_, rfl, rfl, _, rfl, iteF ⟨_, rfl, _, rfl, g, x, N, S, γ, o, rfl, hg, ok, hγ, ho, hErr, fun st cs e H1 s1 => ⟨(by show 2 ≤ sizeLine; decide), fun t nt => ?_⟩⟩⟩⟩
      subst e
      refine q _ t (s1.trans (same_upd nt)) ⟨(fun z => absurd z (by decide)), (fun z => absurd z (by decide)), fun _ => upd_same⟩
end
end HG

namespace HG
open PySem PySem.Spec PyProof.Rows L2
/-! ### promises that hold where no repr is under way -/
structure FnG (P : Program) (w : World) (K : PySem.W.Frag) (mg : Str → Option Value) (base : Heap) (CX : CXT) (k : Nat) (f : Addr) (fd : FuncData) (ps : List Str) (sp : Sp) : Prop where
  many : ∀ vs H Q E, sp vs H Q E → vs.length = ps.length
  go : ∀ {A : Around} {outer : List Env} {s : Shared} {H : Hp} {args : Args} {us : List Value} {vs : List V} {Q : VK} {E : XK}, A.guards = some [] → Room k A → Env0 P w K mg base A outer s H →
    BindsTo s fd args (ps.zip us) → Vals vs us → sp vs H Q E → codeAny (model P w) A (.call (.ref f) args) (CR CX outer P w H s Q E) s
section
variable {P : Program} {w : World} {K : PySem.W.Frag} {mg : Str → Option Value} {base : Heap}
theorem okG {x qual : Str} {st : Stmt} {f : Addr} {fd : FuncData} {N ps : List Str} {k : Nat} {sp : Sp} (D : Fun K x qual st f fd) (S : FnScope N ps (defScope st)) (many : ∀ vs H Q E, sp vs H Q E → vs.length = ps.length)
    (body : ∀ (cdv : Value) (A : Around) (outer : List Env) (s : Shared) (H : Hp) (vs : List V) (Q : VK) (E : XK), A.guards = some [] → Room k (A.deeper (envOfC qual (defScope st) s.heap.objs.size f cdv)) → sp vs H Q E →
      ∃ t, PSs (cxOf CX0 P w K mg base N qual (defScope st) f cdv A outer s H E).nox (defBody st) t ∧ t { nx := fun _ H' => Q .non H', rt := Q } (start N vs) H) :
    FnG P w K mg base CX0 (k + 1) f fd ps sp := by
  obtain ⟨c0, d0, k0, o0, m0, a0, code, t0, l0, e0, look, hcode⟩ := D.ex
  subst e0
  refine ⟨many, fun {A outer s H args us vs Q E} hgd room env hbind hv hsp => ?_⟩
  have cnt := many _ _ _ _ hsp
  have kin : K.In s.heap := env.mod.kin.keeps fun b o z => (env.bs b o z).1
  have nolim : s.heap.NoLimit := env.mod.nolimit.keeps fun b o z => (env.bs b o z).1
  have kinds : ∀ y ∈ ps.zip us, (defScope st).names.lookup y.1 = some .local ∨ ((defScope st).names.lookup y.1 = some .cell ∧ ((cellsFrom (s.heap.objs.size + 1) (defScope st).names []).lookup y.1).isSome = true) := by
    rintro ⟨n, v⟩ hy
    exact (S.par n (List.of_mem_zip hy).1).imp_right fun z => ⟨z, PySem.W.cellsFrom_some _ _ _ (.inl z)⟩
  refine codeAny_call_function room.depth (kin _ _ look) rfl S.co S.gen rfl (PySem.W.codeRec_of kin hcode) (hbind _ _ _ _ (wpAny_newFunctionEnv_cells S.kind kinds fun en he s1 x => ?_))
  subst he
  obtain ⟨t, ht, hq⟩ := body code A outer s H vs Q E hgd (room.deeper _) hsp
  have inv : Inv (cxOf CX0 P w K mg base N qual (defScope st) f code A outer s H E) [] (start N vs) H s1 := inv_start S room.hd env cnt hv x
  refine ⟨nolim.keeps x.toInCall.keep, codeAny_func (wpAny_mono (ht.nox.run [] s1 (start N vs) H _ inv hq) (fun fl s' hs => ?_) fun _ _ z => z)⟩
  cases fl with
  | next =>
    obtain ⟨σ', H', J, q⟩ := hs
    exact ⟨V.non, H', J.os, J.bare, J.base, J.hok, rfl, q⟩
  | ret u =>
    obtain ⟨v, σ', H', J, rv, q⟩ := hs
    exact ⟨v, H', J.os, J.bare, J.base, J.hok, rv, q⟩
  | brk => exact hs.elim fun _ z => z.elim fun _ z => z.2.elim
  | cont => exact hs.elim fun _ z => z.elim fun _ z => z.2.elim
end
section
variable {X : Cx} {CX : CXT} {k : Nat} {f : Addr} {fd : FuncData} {ps : List Str} {sp : Sp} {dvs : List V} {ds : List Value} {E : XK} {x : Str} {p pos : Pos} {e : Expr} {es : List Expr} {t : TA}
theorem go_fn {pins : List (Addr × Obj)} {σ : L2.St} {H : Hp} {s : Shared} {Q : VK} {us : List Value} {vs : List V} (F : FnG X.prog X.w X.K X.mg X.base CX k f fd ps sp) (hgd : X.A.guards = some []) (hr : Room k X.A) (hb : Binds X.K fd ps ds) (hd : Vals dvs ds) (hx : Passes CX X E)
    (I : Inv X pins σ H s) (r : Vals vs us) (h : sp (vs ++ dvs) H Q E) : wpAny (model X.prog X.w) X.A (call (.ref f) us) (EP X pins σ Q) X.xe s := by
  have rr := r.append hd
  have cnt : (us ++ ds).length = ps.length := rr.length ▸ F.many _ _ _ _ h
  refine wpAny_call (codeAny_mono (F.go hgd hr I.env0 (hb s us I.kIn cnt) rr h) ?_)
  rintro (er | fl) s' hq
  · exact hx pins σ H s er s' I hq
  · cases fl with
    | ret u => exact I.after hq
    | next => exact (show False from hq).elim
    | brk => exact (show False from hq).elim
    | cont => exact (show False from hq).elim
theorem pe_callG (F : FnG X.prog X.w X.K X.mg X.base CX k f fd ps sp) (hgd : X.A.guards = some []) (hr : Room k X.A) (hg : Gl X x) (hm : X.mg x = some (.ref f)) (hk : PySem.W.keepIn X.K (.ref f) = true) (hb : Binds X.K fd ps ds) (hd : Vals dvs ds) (hx : Passes CX X E)
    (ha : PA X (e :: es) t) (hdb : (x == ("__debug__" : Str)) = false := by decide) (he : starEach (e :: es) X.env = (false, eval e X.env) :: starEach es X.env := by rfl) (hpl : (backTo pos (starEach es X.env)).any (·.1) = false := by rfl) :
    PE X (.Call (.Name x p) (e :: es) [] pos) (tCall sp dvs E t) := by
  constructor
  intro pins s σ H Q I h
  refine wpAny_Call_Name_kw (ld_glob I hg hm (PySem.W.callWith_K (h₀ := X.base) I.ok.mod.kin hk (thn (ha.run pos pins s σ H _ I h) ?_) he hpl) hdb)
  rintro us s1 ⟨vs, H1, I1, r, q⟩
  exact ⟨I1.kIn, go_fn F hgd hr hb hd hx I1 r q⟩
end
/-! ### repr of data, dicts too -/
def kD : Key → PyData
  | .inl i => .int i
  | .inr z => .str z
def kTD (ks : List Key) : PyData := .tuple (ks.map kD)
mutual
inductive Shw (K : PySem.W.Frag) (H : Hp) : V → PyData → Prop
  | flat {v : V} {d : PyData} : Dp K H v d → Shw K H v d
  | lst {a : Addr} {xs : List V} {ds : List PyData} : H a = some (.lst xs) → ShwAll K H xs ds → Shw K H (.ref a) (.list ds)
  | tup {a : Addr} {xs : List V} {ds : List PyData} : H a = some (.tup xs) → ShwAll K H xs ds → Shw K H (.ref a) (.tuple ds)
  | dK {a : Addr} {kvs : List (Key × V)} {ds : List PyData} : H a = some (.dK kvs) → ShwAll K H (kvs.map (·.2)) ds → Shw K H (.ref a) (.dict ((kvs.map fun kv => kD kv.1).zip ds))
  | dT {a : Addr} {kvs : List (List Key × V)} {ds : List PyData} : H a = some (.dT kvs) → ShwAll K H (kvs.map (·.2)) ds → Shw K H (.ref a) (.dict ((kvs.map fun kv => kTD kv.1).zip ds))
inductive ShwAll (K : PySem.W.Frag) (H : Hp) : List V → List PyData → Prop
  | nil : ShwAll K H [] []
  | cons {v : V} {vs : List V} {d : PyData} {ds : List PyData} : Shw K H v d → ShwAll K H vs ds → ShwAll K H (v :: vs) (d :: ds)
end
theorem ShwAll.len {K : PySem.W.Frag} {H : Hp} : ∀ {vs : List V} {ds : List PyData}, ShwAll K H vs ds → vs.length = ds.length
  | _, _, .nil => rfl
  | _, _, .cons _ t => congrArg (· + 1) t.len
mutual
theorem dp_nodict {K : PySem.W.Frag} {H : Hp} : ∀ {v : V} {d : PyData}, Dp K H v d → d.hasDict = false
  | _, _, .non => by simp only [PyData.hasDict]
  | _, _, .bl _ => by simp only [PyData.hasDict]
  | _, _, .int _ => by simp only [PyData.hasDict]
  | _, _, .str _ => by simp only [PyData.hasDict]
  | _, _, .lst _ h => by simp only [PyData.hasDict]; exact dpAll_nodict h
  | _, _, .tup _ h => by simp only [PyData.hasDict]; exact dpAll_nodict h
theorem dpAll_nodict {K : PySem.W.Frag} {H : Hp} : ∀ {vs : List V} {ds : List PyData}, DpAll K H vs ds → PyData.hasDictAll ds = false
  | _, _, .nil => by simp only [PyData.hasDictAll]
  | _, _, .cons h t => by simp only [PyData.hasDictAll, dp_nodict h, dpAll_nodict t, Bool.or_self]
end
def RR (P : Program) (w : World) (h : Heap) (v : Value) (d : PyData) : Prop := ∃ as bs, Reads h v d as ∧ ReadAtMost h d.depth bs ∧ ReprK P w bs h d.depth v d.shown
def RA (P : Program) (w : World) (h : Heap) (vs : List Value) (ds : List PyData) : Prop := ∃ as bs, ReadsAll h vs ds as ∧ ReadAtMost h (PyData.depthAll ds) bs ∧ ReprAllK P w bs h (PyData.depthAll ds) vs (PyData.shownAll ds)
section
variable {P : Program} {w : World} {h : Heap}
theorem ra_nil : RA P w h [] [] := ⟨[], [], .nil, (fun _ z => nomatch z), by simp only [PyData.shownAll]; exact .nil⟩
theorem ra_cons {v : Value} {d : PyData} {vs : List Value} {ds : List PyData} (r : RR P w h v d) (t : RA P w h vs ds) : RA P w h (v :: vs) (d :: ds) := by
  obtain ⟨a1, b1, r1, m1, k1⟩ := r
  obtain ⟨a2, b2, r2, m2, k2⟩ := t
  refine ⟨_, b1 ++ b2, .cons r1 r2, ?_, ?_⟩
  · simp only [PyData.depthAll]
    exact (m1.mono (Nat.le_max_left _ _)).append (m2.mono (Nat.le_max_right _ _))
  · simp only [PyData.depthAll, PyData.shownAll]
    exact .cons ((k1.more fun b hb => List.mem_append_left _ hb).level_le (Nat.le_max_left _ _)) (k2.more_le (fun b hb => List.mem_append_right _ hb) (Nat.le_max_right _ _))
theorem rr_list {a : Addr} {o : Obj} {l : List Value} {n : Nat} {ds : List PyData} (ho : h.get? a = some o) (hc : o.cls = .type "list") (hd : o.data = .seq l.toArray n) (t : RA P w h l ds) : RR P w h (.ref a) (.list ds) := by
  obtain ⟨as, bs, r, m, k⟩ := t
  have rd : Reads h (.ref a) (.list ds) _ := .list ho hc hd (by simpa using r)
  have na : a ∉ bs := not_mem_of_deeper rd (by simp only [PyData.depth]; omega) m
  refine ⟨_, a :: bs, rd, ReadAtMost.cons rd (by simp only [PyData.depth]; omega) m, ?_⟩
  simp only [PyData.depth, PyData.shown]
  cases l with
  | nil =>
    cases r
    simp only [PyData.shownAll, listText_nil]
    exact ReprK.listEmpty ho hc hd
  | cons x l => exact ReprK.list ho hc hd na (by simpa using k.length_eq) fun i y e => k.item i y (by simpa using e)
theorem rr_tuple {a : Addr} {o : Obj} {l : List Value} {n : Nat} {ds : List PyData} (ho : h.get? a = some o) (hc : o.cls = .type "tuple") (hd : o.data = .seq l.toArray n) (t : RA P w h l ds) : RR P w h (.ref a) (.tuple ds) := by
  obtain ⟨as, bs, r, m, k⟩ := t
  have rd : Reads h (.ref a) (.tuple ds) _ := .tuple ho hc hd (by simpa using r)
  have na : a ∉ bs := not_mem_of_deeper rd (by simp only [PyData.depth]; omega) m
  refine ⟨_, a :: bs, rd, ReadAtMost.cons rd (by simp only [PyData.depth]; omega) m, ?_⟩
  simp only [PyData.depth, PyData.shown]
  exact ReprK.tuple ho hc hd na (by simpa using k)
theorem zip_fst {α β : Type} {l : List α} {m : List β} (e : l.length = m.length) : (l.zip m).map (·.1) = l := List.map_fst_zip (Nat.le_of_eq e)
theorem zip_snd {α β : Type} {l : List α} {m : List β} (e : l.length = m.length) : (l.zip m).map (·.2) = m := List.map_snd_zip (Nat.le_of_eq e.symm)
theorem rr_dict {a : Addr} {o : Obj} {es : Array DictEntry} {n : Nat} {ks vs : List PyData} (ho : h.get? a = some o) (hc : o.cls = .type "dict") (hd : o.data = .dict es n) (hs : (a == sysModules) = false) (el : ks.length = vs.length)
    (tk : RA P w h (es.toList.map (·.key)) ks) (tv : RA P w h (es.toList.map (·.val)) vs) : RR P w h (.ref a) (.dict (ks.zip vs)) := by
  obtain ⟨a1, b1, r1, m1, k1⟩ := tk
  obtain ⟨a2, b2, r2, m2, k2⟩ := tv
  have hk : (ks.zip vs).map (·.1) = ks := zip_fst el
  have hv : (ks.zip vs).map (·.2) = vs := zip_snd el
  have l1 := PyData.depthAll_keys_le (ks.zip vs)
  have l2 := PyData.depthAll_vals_le (ks.zip vs)
  rw [hk] at l1
  rw [hv] at l2
  have rd : Reads h (.ref a) (.dict (ks.zip vs)) _ := .dict ho hc hd (by rw [hk]; exact r1) (by rw [hv]; exact r2)
  have m : ReadAtMost h (PyData.depthKv (ks.zip vs)) (b1 ++ b2) := (m1.mono l1).append (m2.mono l2)
  have na : a ∉ b1 ++ b2 := not_mem_of_deeper rd (by simp only [PyData.depth]; omega) m
  refine ⟨_, a :: (b1 ++ b2), rd, ReadAtMost.cons rd (by simp only [PyData.depth]; omega) m, ?_⟩
  simp only [PyData.depth, PyData.shown, PyData.shownKv_eq]
  rw [hk, hv]
  exact ReprK.dict ho hc hd hs na (ReprEntriesK.of_two es.toList _ _ (k1.more_le (fun b hb => List.mem_append_left _ hb) l1) (k2.more_le (fun b hb => List.mem_append_right _ hb) l2))
theorem rr_flat {v : Value} {d : PyData} {as : List Addr} (r : Reads h v d as) (hs : d.showable = true) (hn : d.hasDict = false) (hz : d.shown.length ≤ sizeLine) : RR P w h v d := by
  obtain ⟨bs, m, k⟩ := ReprK.of_reads (prog := P) (w := w) r hs (fun z => by rw [hn] at z; cases z) hz
  exact ⟨as, bs, r, m, k⟩
end
section
variable {X : Cx} {pins : List (Addr × Obj)} {σ : L2.St} {H : Hp} {s : Shared}
theorem rr_key {h : Heap} {k : Key} {v : Value} (e : keyIs k v = true) (hs : (kD k).showable = true) (hz : (kD k).shown.length ≤ sizeLine) : RR X.prog X.w h v (kD k) := by
  rcases keyIs_shape e with ⟨i, t, rfl, rfl⟩ | ⟨z, t, rfl, rfl⟩
  · exact rr_flat (.int i t) hs (by simp only [kD, PyData.hasDict]) hz
  · exact rr_flat (.str z t) hs (by simp only [kD, PyData.hasDict]) hz
theorem ra_keysK {h : Heap} : ∀ {es : List DictEntry} {vs : List (Key × Value)}, Pairs (mixKind X.prog X.w) es vs → PyData.showableAll (vs.map fun kv => kD kv.1) = true → (∀ t ∈ PyData.shownAll (vs.map fun kv => kD kv.1), t.length ≤ sizeLine) →
    RA X.prog X.w h (es.map (·.key)) (vs.map fun kv => kD kv.1)
  | _, _, .nil, _, _ => ra_nil
  | _, _, .cons a b c, hs, hz => by
    simp only [List.map_cons, PyData.showableAll, Bool.and_eq_true] at hs
    simp only [List.map_cons, PyData.shownAll, List.mem_cons] at hz
    exact ra_cons (rr_key a hs.1 (hz _ (.inl rfl))) (ra_keysK c hs.2 fun t ht => hz t (.inr ht))
theorem pairs_vals : ∀ {es : List DictEntry} {vs : List (Key × Value)}, Pairs (mixKind X.prog X.w) es vs → es.map (·.val) = vs.map (·.2)
  | _, _, .nil => rfl
  | _, _, .cons a b c => by rw [List.map_cons, List.map_cons, pairs_vals c, b]
theorem kv_vals : ∀ {kvs : List (Key × V)} {vs : List (Key × Value)}, KV kvs vs → Vals (kvs.map (·.2)) (vs.map (·.2))
  | _, _, .nil => .nil
  | _, _, .cons a b => .cons a.2 (kv_vals b)
theorem vals_kD {h0 : Heap} : ∀ (ks : List Key) {us : List Value}, Vals (ks.map kV) us → ReadsAll h0 us (ks.map kD) [] 
  | [], _, .nil => .nil
  | .inl i :: ks, _, .cons a b => by
    obtain ⟨t, rfl⟩ := a
    exact .cons (as := []) (bs := []) (.int i t) (vals_kD ks b)
  | .inr z :: ks, _, .cons a b => by
    obtain ⟨t, rfl⟩ := a
    exact .cons (as := []) (bs := []) (.str z t) (vals_kD ks b)
theorem kDs_nodict : ∀ ks : List Key, PyData.hasDictAll (ks.map kD) = false
  | [] => by simp only [List.map_nil, PyData.hasDictAll]
  | .inl i :: ks => by simp only [List.map_cons, PyData.hasDictAll, kDs_nodict ks, kD, PyData.hasDict, Bool.or_self]
  | .inr i :: ks => by simp only [List.map_cons, PyData.hasDictAll, kDs_nodict ks, kD, PyData.hasDict, Bool.or_self]
theorem ra_keysT (I : Inv X pins σ H s) : ∀ {kvs : List (List Key × V)} {xs : List (List Key × Addr × Value)}, Paired (fun (p : List Key × V) (q : List Key × Addr × Value) => p.1 = q.1 ∧ H q.2.1 = some (.tup (p.1.map kV)) ∧ RelV p.2 q.2.2) kvs xs →
    PyData.showableAll (kvs.map fun kv => kTD kv.1) = true → (∀ t ∈ PyData.shownAll (kvs.map fun kv => kTD kv.1), t.length ≤ sizeLine) → RA X.prog X.w s.heap (xs.map fun q => Value.ref q.2.1) (kvs.map fun kv => kTD kv.1)
  | _, _, .nil, _, _ => ra_nil
  | _, _, .cons a b, hs, hz => by
    simp only [List.map_cons, PyData.showableAll, Bool.and_eq_true] at hs
    simp only [List.map_cons, PyData.shownAll, List.mem_cons] at hz
    refine ra_cons ?_ (ra_keysT I b hs.2 fun t ht => hz t (.inr ht))
    obtain ⟨_, its, va, o, ho, hc, n, hd⟩ := I.hok _ _ a.2.1
    exact rr_flat (.tuple ho hc hd (by simpa using vals_kD _ va)) hs.1 (by unfold kTD; simp only [PyData.hasDict]; exact kDs_nodict _) (hz _ (.inl rfl))
theorem kt_vals : ∀ {kvs : List (List Key × V)} {xs : List (List Key × Addr × Value)}, Paired (fun (p : List Key × V) (q : List Key × Addr × Value) => p.1 = q.1 ∧ H q.2.1 = some (.tup (p.1.map kV)) ∧ RelV p.2 q.2.2) kvs xs → Vals (kvs.map (·.2)) (xs.map fun q => q.2.2)
  | _, _, .nil => .nil
  | _, _, .cons a b => .cons a.2.2 (kt_vals b)
theorem shown_keys {ks vs : List PyData} (e : ks.length = vs.length) (hz : (dictText (PyData.shownKv (ks.zip vs))).length ≤ sizeLine) : ∀ t ∈ PyData.shownAll ks, t.length ≤ sizeLine := fun t ht => by
  obtain ⟨p, hp, hl⟩ := PyData.shownKv_key_le (ks.zip vs) t (by rw [zip_fst e]; exact ht)
  exact Nat.le_trans hl (Nat.le_trans (dictText_mem_le hp) hz)
theorem shown_vals {ks vs : List PyData} (e : ks.length = vs.length) (hz : (dictText (PyData.shownKv (ks.zip vs))).length ≤ sizeLine) : ∀ t ∈ PyData.shownAll vs, t.length ≤ sizeLine := fun t ht => by
  obtain ⟨p, hp, hl⟩ := PyData.shownKv_val_le (ks.zip vs) t (by rw [zip_snd e]; exact ht)
  exact Nat.le_trans hl (Nat.le_trans (dictText_mem_le hp) hz)
theorem showable_keys {ks vs : List PyData} (e : ks.length = vs.length) (h : PyData.showableKv (ks.zip vs) = true) : PyData.showableAll ks = true ∧ PyData.showableAll vs = true := by
  have z := PyData.showableKv_split _ h
  rwa [zip_fst e, zip_snd e] at z
mutual
theorem shw_rr (I : Inv X pins σ H s) : ∀ {v : V} {d : PyData}, Shw X.K H v d → ∀ {u : Value}, RelV v u → d.showable = true → d.shown.length ≤ sizeLine → RR X.prog X.w s.heap u d
  | _, _, .flat h, u, rv, hs, hz => by
    obtain ⟨as, r⟩ := Dp.reads I _ _ u h rv
    exact rr_flat r hs (dp_nodict h) hz
  | _, _, .lst (a := a) h t, u, rv, hs, hz => by
    cases (show u = Value.ref a from rv)
    obtain ⟨_, its, n, va, ho⟩ := I.hok _ _ h
    simp only [PyData.showable] at hs
    simp only [PyData.shown] at hz
    exact rr_list ho rfl rfl (shwAll_ra I t va hs fun x hx => Nat.le_trans (listText_mem_le hx) hz)
  | _, _, .tup (a := a) h t, u, rv, hs, hz => by
    cases (show u = Value.ref a from rv)
    obtain ⟨_, its, va, o, ho, hc, n, hd⟩ := I.hok _ _ h
    simp only [PyData.showable] at hs
    simp only [PyData.shown] at hz
    exact rr_tuple ho hc hd (shwAll_ra I t va hs fun x hx => Nat.le_trans (tupleText_mem_le hx) hz)
  | _, _, .dK (a := a) (kvs := kvs) (ds := ds) h t, u, rv, hs, hz => by
    cases (show u = Value.ref a from rv)
    obtain ⟨_, hsys, vs, rel, o, es, ep, ho, hex, hd, _, hpr, _⟩ := I.hok _ _ h
    have el : (kvs.map fun kv => kD kv.1).length = ds.length := by
      rw [List.length_map, ← t.len, List.length_map]
    simp only [PyData.showable] at hs
    simp only [PyData.shown] at hz
    obtain ⟨s1, s2⟩ := showable_keys el hs
    have ek : (kvs.map fun kv => kD kv.1) = vs.map fun kv => kD kv.1 := by
      have z := congrArg (List.map kD) rel.keys
      rw [List.map_map, List.map_map] at z
      exact z
    refine rr_dict ho hex.1 hd hsys el ?_ ?_
    · rw [ek]
      exact ra_keysK hpr (by rw [← ek]; exact s1) (by rw [← ek]; exact shown_keys el hz)
    · rw [pairs_vals hpr]
      exact shwAll_ra I t (kv_vals rel) s2 (shown_vals el hz)
  | _, _, .dT (a := a) (kvs := kvs) (ds := ds) h t, u, rv, hs, hz => by
    cases (show u = Value.ref a from rv)
    obtain ⟨_, hsys, xs, rel, o, es, ep, ho, hex, hd, he, _⟩ := I.hok _ _ h
    have el : (kvs.map fun kv => kTD kv.1).length = ds.length := by
      rw [List.length_map, ← t.len, List.length_map]
    simp only [PyData.showable] at hs
    simp only [PyData.shown] at hz
    obtain ⟨s1, s2⟩ := showable_keys el hs
    refine rr_dict ho hex.1 hd hsys el ?_ ?_
    · rw [he, List.map_map]
      exact ra_keysT I rel s1 (shown_keys el hz)
    · rw [he, List.map_map]
      exact shwAll_ra I t (kt_vals rel) s2 (shown_vals el hz)
theorem shwAll_ra (I : Inv X pins σ H s) : ∀ {vs : List V} {ds : List PyData}, ShwAll X.K H vs ds → ∀ {us : List Value}, Vals vs us → PyData.showableAll ds = true → (∀ t ∈ PyData.shownAll ds, t.length ≤ sizeLine) → RA X.prog X.w s.heap us ds
  | _, _, .nil, _, .nil, _, _ => ra_nil
  | _, _, .cons h t, _, .cons r rs, hs, hz => by
    simp only [PyData.showableAll, Bool.and_eq_true] at hs
    simp only [PyData.shownAll, List.mem_cons] at hz
    exact ra_cons (shw_rr I h r hs.1 (hz _ (.inl rfl))) (shwAll_ra I t rs hs.2 fun x hx => hz x (.inr hx))
end
end
section
variable {X : Cx}
/-- repr of a list, dicts in it too -/
def rReprL (K : PySem.W.Frag) : List V → Hp → VK → Prop := fun vs H Q => ∃ (a : Addr) (xs : List V) (ds : List PyData), vs = [.ref a] ∧ H a = some (.lst xs) ∧ xs ≠ [] ∧ ShwAll K H xs ds ∧ PyData.showableAll ds = true ∧ PyData.depthAll ds ≤ 30 ∧ (PyData.list ds).shown.length ≤ sizeLine ∧ Q (.str (PyData.list ds).shown) H
theorem call_reprL (hgd : X.A.guards = some []) (hu : X.A.units + 64 < cLine) : CallR X (.builtin "repr") (rReprL X.K) := by
  intro pins s σ H vs us Q I r h
  obtain ⟨a, xs, ds, rfl, ha, hne, t, hs, hd, hz, q⟩ := h
  rw [Vals.ref1 r]
  obtain ⟨_, its, n, va, ho⟩ := I.hok _ _ ha
  have hz' : (listText (PyData.shownAll ds)).length ≤ sizeLine := by simpa only [PyData.shown] using hz
  obtain ⟨as, bs, rd, m, k⟩ := shwAll_ra I t va hs fun x hx => Nat.le_trans (listText_mem_le hx) hz'
  have top : Reads s.heap (.ref a) (.list ds) _ := .list ho rfl rfl (by simpa using rd)
  have na : a ∉ bs := not_mem_of_deeper top (by simp only [PyData.depth]; omega) m
  cases its with
  | nil =>
    cases va
    exact absurd rfl hne
  | cons y l =>
    refine call_repr_slot (by omega) ⟨_, ho, rfl⟩ F.slot_list_repr.toG (call_list_reprK ho rfl rfl na (by simpa using k.length_eq) (fun i z e => k.item i z (by simpa using e)) hgd (fun b _ => Clear.nil b) (by show X.A.units + 1 + (PyData.depthAll ds + 1) < cLine; omega) (fun _ _ z => z) (fun h' u tk hk => ?_) hz')
    refine ⟨_, _, rfl, .str (PyData.list ds).shown, H, I.kept (t' := tk) hk, ⟨u, ?_⟩, q⟩
    simp only [PyData.shown]
end
end HG

namespace HG
open PySem PySem.Spec PyProof.Rows L2
/-! ### the law's call, where its promise wants that no repr is under way -/
theorem script_hp {P : Program} {w : World} {K : PySem.W.Frag} {h : Heap} {a : Addr} {vs : List Value} {ns : List Int} (KX : K.In h) (ha : h.get? a = some { cls := .type "list", data := .seq vs.toArray }) (rv : Vals (ns.map V.int) vs) (hl : ns.length ≤ sizeLine) :
    ∃ H : Hp, Only H ∧ SqL K H a (ns.map V.int) ∧ HOk P w H h ∧ ∀ b u, H b = some u → b = a ∧ K.lookup a = none := by
  have hlen : vs.length = ns.length := by rw [← rv.length, List.length_map]
  cases hk : K.lookup a with
  | none =>
    refine ⟨upd (fun _ => none) a (.frz { cls := .type "list", data := .seq vs.toArray } (.lst (ns.map V.int))), fun b => ?_, .inl (.inr ⟨_, upd_same⟩), fun b u z => ?_, fun b u z => ?_⟩
    · by_cases hb : b = a
      · subst hb
        exact .inr ⟨_, _, upd_same⟩
      · exact .inl (upd_ne hb)
    · by_cases hb : b = a
      · subst hb
        rw [upd_same] at z
        cases z
        exact ⟨ha, by rw [List.length_map]; exact hl, vs, _, rv, ha⟩
      · rw [upd_ne hb] at z
        cases z
    · by_cases hb : b = a
      · exact ⟨hb, rfl⟩
      · rw [upd_ne hb] at z
        cases z
  | some o =>
    have z := KX a o hk
    rw [ha] at z
    cases z
    exact ⟨fun _ => none, fun _ => .inl rfl, .inr ⟨_, vs.toArray, _, hk, rfl, rfl, rfl, by rw [List.size_toArray, hlen]; exact hl, by simpa using rv⟩, (fun _ _ z => nomatch z), (fun _ _ z => nomatch z)⟩
theorem lawG {P : Program} {w : World} {K : PySem.W.Frag} {mg mb : Str → Option Value} {k : Nat} {fa a : Addr} {fd : FuncData} {x : Str} {sp : Sp} {s : Shared} {vs : List Value} {ns : List Int}
    (KX : K.In s.heap) (gl : s.heap.Ns mainGlobals mg) (bl : s.heap.Ns builtinsNs mb) (boot : ∀ x : Str, x ≠ "__name__" → mb x = bootBuiltins x) (lim : s.heap.NoLimit) (gens : s.gens = #[])
    (ha : s.heap.get? a = some { cls := .type "list", data := .seq vs.toArray }) (hi : IntsAre vs ns) (hl : ns.length ≤ sizeLine) (room : Room k callerA)
    (F : ∀ base : Heap, K.In base → base.Ns mainGlobals mg → FnG P w K mg base CX0 k fa fd [x] sp) (bind : ∀ (s : Shared) (u : Value), BindsTo s fd ⟨[u], []⟩ [(x, u)])
    (hsp : ∀ H : Hp, Only H → SqL K H a (ns.map V.int) → sp [.ref a] H (fun v _ => v = .bl true) fun _ _ _ => False) :
    codeAny (model P w) callerA (.call (.ref fa) ⟨[.ref a], []⟩) (fun r s' => r = .ok (.ret (.bool true)) ∧ OldK s.heap s'.heap ∧ s'.os = s.os ∧ AllBare s'.gens) s := by
  obtain ⟨H, only, seq, hok, own⟩ := script_hp (P := P) (w := w) KX ha (vals_ints hi) hl
  -- what no dict and nothing written may be: the script
  have free : ∀ {b : Addr} {o : Obj} {es : Array DictEntry} {ep : Nat}, s.heap.get? b = some o → o.data = .dict es ep → H b = none := by
    intro b o es ep z y
    cases q : H b with
    | none => rfl
    | some u =>
      obtain ⟨rfl, _⟩ := own b u q
      rw [ha] at z
      cases z
      cases y
  have names : ∀ {b : Addr} {m : Str → Option Value}, s.heap.Ns b m → (hidT s.heap H).Ns b m := by
    rintro b m ⟨o, es, ep, z, y, r⟩
    exact ⟨o, es, ep, hidT_get z (free z y), y, r⟩
  have written : K.In (hidT s.heap H) := by
    intro b o z
    refine hidT_get (KX b o z) ?_
    cases q : H b with
    | none => rfl
    | some u =>
      obtain ⟨rfl, y⟩ := own b u q
      rw [y] at z
      cases z
  obtain ⟨mc, l1, l2⟩ := lim
  have env : Env0 P w K mg (hidT s.heap H) callerA [] s H := {
    frames := rfl
    mod := ⟨written, names gl, ⟨mb, names bl, boot⟩, ⟨mc, names l1, l2⟩⟩
    bs := fun _ _ z => of_hidT z
    bsz := Nat.le_of_eq (hidT_size _ _)
    funs := trivial
    frf := fun _ z => nomatch (show _ ∈ ([] : List Addr) from z)
    hok := hok
    bare := .of_eq gens }
  refine codeAny_mono ((F _ written (names gl)).go (us := [.ref a]) (vs := [.ref a]) rfl room env (bind s _) (.cons rfl .nil) (hsp H only seq)) ?_
  rintro (er | fl) s' hq
  · exact (show False from hq).elim
  · cases fl with
    | next => exact (show False from hq).elim
    | brk => exact (show False from hq).elim
    | cont => exact (show False from hq).elim
    | ret u =>
      obtain ⟨v, H', os, bare, un, hok', rv, q⟩ := hq
      cases (show v = V.bl true from q)
      cases (show u = Value.bool true from rv)
      refine ⟨rfl, OldK.of_keep fun b o z => ?_, os, bare⟩
      rcases only b with y | ⟨ob, xs, y⟩
      · exact un.keep b o z y (fun m => nomatch (show b ∈ ([] : List Addr) from m)) (fun m => nomatch m)
      · have z1 := (hok b _ y).1
        rw [z] at z1
        cases z1
        exact (hok' b _ (un.frzs b _ _ y)).1
theorem walkG {l : PySem.W.OpenLaw} {n k : Nat} {q : Program} {loose : List Str} {XP : (Str → Option Value) → Heap → Prop} {YP : World → Heap → Prop} {d : DefRec} {K : Params → PySem.W.Frag} {sp : PySem.W.Frag → Sp} {x : Str}
    (hn : l.most = some n) (hn2 : n ≤ sizeLine) (hdf : d.params.defaults = []) (room : Room k callerA) (hY : ∀ (w : World) (h : Heap), YP w h → (K w.params).In h)
    (F : ∀ (w : World) (mg : Str → Option Value) (fa : Addr) (h : Heap), (K w.params).In h → h.Ns mainGlobals mg → mg d.name = some (.ref fa) →
      ∃ fd : FuncData, (∀ (s : Shared) (u : Value), BindsTo s fd ⟨[u], []⟩ [(x, u)]) ∧ ∀ base : Heap, (K w.params).In base → base.Ns mainGlobals mg → FnG l.prog w (K w.params) mg base CX0 k fa fd [x] (sp (K w.params)))
    (hsp : ∀ (K : PySem.W.Frag) (H : Hp) (a : Addr) (ns : List Int), ns.length ≤ n → Only H → SqL K H a (ns.map V.int) → sp K [.ref a] H (fun v _ => v = .bl true) fun _ _ _ => False) :
    PySem.W.WalkO q loose XP YP l.row.toRowW d [] (fun f vs => PySem.call f vs) := by
  refine Att.attach_call hn hdf ?_
  intro w s0 s1 mg mb fa o pm cd doc a vs ns G Y h1 h2 h3 hmg hobj hints hlen gens
  obtain ⟨fd, bind, ok⟩ := F w mg fa _ (hY w _ Y) G.T.g hmg
  exact lawG (hY w _ Y) G.T.g G.T.b G.T.builtins G.T.nolimit gens hobj hints (Nat.le_trans hlen hn2) room ok bind fun H only seq => hsp _ H a ns hlen only seq
end HG

namespace HG
open PySem PySem.Spec PyProof.Rows L2
/-! ### small data: its text fits -/
structure Sml (n k : Nat) (d : PyData) : Prop where
  lv : d.leavesShort 64 = true
  sh : d.showable = true
  wt : d.weight ≤ n
  dp : d.depth ≤ k
theorem sml_str {z : Str} (h : isNm z = true) : Sml 8 0 (.str z) where
  lv := by
    have o := nm_strOk h
    unfold PyData.strOk at o
    simp only [PyData.leavesShort, List.all_eq_true, decide_eq_true_eq]
    intro c hc
    rw [Array.all_eq_true] at o
    obtain ⟨i, hi, e⟩ := List.getElem_of_mem hc
    have := o i (by simpa using hi)
    simp only [Array.getElem_toList] at e
    rw [e] at this
    have := of_decide_eq_true this
    have e16 : (16 : Nat) ^ 8 = 4294967296 := by decide
    omega
  sh := by simp only [PyData.showable]
  wt := by
    unfold isNm at h
    have h1 := of_decide_eq_true (Bool.and_eq_true_iff.mp h).1
    simp only [PyData.weight]
    exact h1
  dp := by simp only [PyData.depth]; exact Nat.le_refl _
theorem sml_int {i : Int} (h : GainOk i) : Sml 203 0 (.int i) := by
  have hb : i.natAbs < 10 ^ 63 := by
    have e : (10 : Nat) ^ 63 = 1000000000000000000000000000000000000000000000000000000000000000 := by decide
    unfold GainOk at h
    omega
  have hb2 : i.natAbs < 2 ^ 202 := by
    have e : (2 : Nat) ^ 202 = 6427752177035961102167848369364650410088811975131171341205504 := by decide
    unfold GainOk at h
    omega
  have hl : i.natAbs ≠ 0 → i.natAbs.log2 < 202 := fun z => (Nat.log2_lt z).mpr hb2
  refine ⟨?_, ?_, ?_, by simp only [PyData.depth]; exact Nat.le_refl _⟩
  · simp only [PyData.leavesShort, decide_eq_true_eq, PyData.shown]
    refine decide_eq_true ?_
    rw [PySem.ofString_length]
    exact int_text_length_le10 (k := 63) (by decide) hb
  · simp only [PyData.showable, decide_eq_true_eq]
    by_cases z : i.natAbs = 0
    · rw [z]
      decide
    · have := hl z
      omega
  · simp only [PyData.weight]
    split
    · omega
    · by_cases z : i.natAbs = 0
      · rw [z]
        decide
      · have := hl z
        omega
theorem sml_all {n k : Nat} : ∀ {ds : List PyData}, (∀ d ∈ ds, Sml n k d) → PyData.leavesShortAll 64 ds = true ∧ PyData.showableAll ds = true ∧ PyData.weightAll ds ≤ ds.length * (n + 1) ∧ PyData.depthAll ds ≤ k
  | [], _ => ⟨by simp only [PyData.leavesShortAll], by simp only [PyData.showableAll], by simp [PyData.weightAll], by simp [PyData.depthAll]⟩
  | d :: ds, h => by
    obtain ⟨a, b, c, e⟩ := sml_all (ds := ds) fun x hx => h x (List.mem_cons_of_mem _ hx)
    have s := h d List.mem_cons_self
    have s3 := s.wt
    have s4 := s.dp
    refine ⟨by simp only [PyData.leavesShortAll, s.lv, a, Bool.and_self], by simp only [PyData.showableAll, s.sh, b, Bool.and_self], ?_, ?_⟩
    · simp only [PyData.weightAll, List.length_cons, Nat.succ_mul]
      omega
    · simp only [PyData.depthAll]
      omega
theorem sml_list {n k m : Nat} {ds : List PyData} (h : ∀ d ∈ ds, Sml n k d) (hm : ds.length ≤ m) : Sml (m * (n + 1)) (k + 1) (.list ds) := by
  obtain ⟨a, b, c, e⟩ := sml_all h
  have := Nat.mul_le_mul_right (n + 1) hm
  refine ⟨by simp only [PyData.leavesShort]; exact a, by simp only [PyData.showable]; exact b, by simp only [PyData.weight]; omega, by simp only [PyData.depth]; omega⟩
theorem sml_tuple {n k m : Nat} {ds : List PyData} (h : ∀ d ∈ ds, Sml n k d) (hm : ds.length ≤ m) : Sml (m * (n + 1)) (k + 1) (.tuple ds) := by
  obtain ⟨a, b, c, e⟩ := sml_all h
  have := Nat.mul_le_mul_right (n + 1) hm
  refine ⟨by simp only [PyData.leavesShort]; exact a, by simp only [PyData.showable]; exact b, by simp only [PyData.weight]; omega, by simp only [PyData.depth]; omega⟩
theorem sml_kv {n1 n2 k : Nat} : ∀ {ks vs : List PyData}, (∀ d ∈ ks, Sml n1 k d) → (∀ d ∈ vs, Sml n2 k d) → PyData.leavesShortKv 64 (ks.zip vs) = true ∧ PyData.showableKv (ks.zip vs) = true ∧ PyData.weightKv (ks.zip vs) ≤ ks.length * (n1 + n2 + 2) ∧ PyData.depthKv (ks.zip vs) ≤ k
  | [], vs, _, _ => ⟨by simp [PyData.leavesShortKv], by simp [PyData.showableKv], by simp [PyData.weightKv], by simp [PyData.depthKv]⟩
  | d :: ks, [], _, _ => ⟨by simp [PyData.leavesShortKv], by simp [PyData.showableKv], by simp [PyData.weightKv], by simp [PyData.depthKv]⟩
  | d :: ks, x :: vs, h1, h2 => by
    obtain ⟨a, b, c, e⟩ := sml_kv (ks := ks) (vs := vs) (fun y hy => h1 y (List.mem_cons_of_mem _ hy)) fun y hy => h2 y (List.mem_cons_of_mem _ hy)
    have s := h1 d List.mem_cons_self
    have t := h2 x List.mem_cons_self
    have s3 := s.wt
    have s4 := s.dp
    have t3 := t.wt
    have t4 := t.dp
    rw [List.zip_cons_cons]
    refine ⟨by simp only [PyData.leavesShortKv, s.lv, t.lv, a, Bool.and_self], by simp only [PyData.showableKv, s.sh, t.sh, b, Bool.and_self], ?_, ?_⟩
    · simp only [PyData.weightKv, List.length_cons, Nat.succ_mul]
      omega
    · simp only [PyData.depthKv]
      omega
theorem sml_dict {n1 n2 k m : Nat} {ks vs : List PyData} (h1 : ∀ d ∈ ks, Sml n1 k d) (h2 : ∀ d ∈ vs, Sml n2 k d) (hm : ks.length ≤ m) : Sml (m * (n1 + n2 + 2)) (k + 1) (.dict (ks.zip vs)) := by
  obtain ⟨a, b, c, e⟩ := sml_kv h1 h2
  have := Nat.mul_le_mul_right (n1 + n2 + 2) hm
  refine ⟨by simp only [PyData.leavesShort]; exact a, by simp only [PyData.showable]; exact b, by simp only [PyData.weight]; omega, by simp only [PyData.depth]; omega⟩
theorem Sml.mono {n m j k : Nat} {d : PyData} (s : Sml n j d) (h1 : n ≤ m) (h2 : j ≤ k) : Sml m k d := ⟨s.lv, s.sh, Nat.le_trans s.wt h1, Nat.le_trans s.dp h2⟩
theorem Sml.fits {n k : Nat} {d : PyData} (s : Sml n k d) (h : 66 * n + 64 ≤ sizeLine) : d.shown.length ≤ sizeLine := by
  have z := PyData.shown_le 64 (by decide) d s.lv
  have := s.wt
  omega
end HG

namespace HG
open PySem PySem.Spec PyProof.Rows L2
open C8 (pss_cut tCut)
/-! ### a shape handed in another order -/
structure PermW (W W1 : List Way) : Prop where
  nm : (W1.map (·.1)).Perm (W.map (·.1))
  wy : ∀ q ∈ W1, ∃ q0 ∈ W, q0.1 = q.1 ∧ q.2.Perm q0.2
section
variable {W W1 : List Way}
theorem PermW.nd (p : PermW W W1) (ok : WOk W) : (W1.map (·.1)).Nodup := p.nm.nodup_iff.mpr ok.nd
theorem PermW.look (p : PermW W W1) (ok : WOk W) {k : Str} (h : k ∈ W1.map (·.1)) : (lookW W1 k).Perm (lookW W k) := by
  obtain ⟨q, hq, rfl⟩ := List.mem_map.mp h
  obtain ⟨q0, h0, e, pp⟩ := p.wy q hq
  rw [lookW_of (p.nd ok) hq, ← e, lookW_of ok.nd h0]
  exact pp
theorem PermW.sh (p : PermW W W1) (ok : WOk W) : HG.sh W1 = HG.sh W := by
  show (srt (W1.map (·.1))).map (fun k => (k, srt (lookW W1 k))) = (srt (W.map (·.1))).map fun k => (k, srt (lookW W k))
  rw [← srt_of_perm p.nm]
  refine List.map_congr_left fun k hk => ?_
  rw [srt_of_perm (p.look ok (srt_mem.mp hk))]
theorem prod_perm {l m : List Int} (p : l.Perm m) : ∀ a : Int, l.foldl (fun m i => m * i) a = m.foldl (fun m i => m * i) a := by
  induction p with
  | nil => exact fun _ => rfl
  | cons x _ ih => exact fun a => ih _
  | swap x y l =>
    intro a
    rw [List.foldl_cons, List.foldl_cons, List.foldl_cons, List.foldl_cons, Int.mul_assoc, Int.mul_comm y x, ← Int.mul_assoc]
  | trans _ _ i1 i2 => exact fun a => (i1 a).trans (i2 a)
theorem lens_of {V : List Way} (nd : (V.map (·.1)).Nodup) : V.map (fun q => (q.2.length : Int)) = (V.map (·.1)).map fun k => ((lookW V k).length : Int) := by
  rw [List.map_map]
  refine List.map_congr_left fun q hq => ?_
  show _ = ((lookW V q.1).length : Int)
  rw [lookW_of nd hq]
theorem PermW.ok (p : PermW W W1) (ok : WOk W) : WOk W1 where
  nd := p.nd ok
  n1 := by
    have := p.nm.length_eq
    rw [List.length_map, List.length_map] at this
    rw [this]
    exact ok.n1
  n4 := by
    have := p.nm.length_eq
    rw [List.length_map, List.length_map] at this
    rw [this]
    exact ok.n4
  nm := fun q hq => by
    obtain ⟨q0, h0, e, _⟩ := p.wy q hq
    rw [← e]
    exact ok.nm q0 h0
  wd := fun q hq => by
    obtain ⟨q0, h0, _, pp⟩ := p.wy q hq
    exact pp.nodup_iff.mpr (ok.wd q0 h0)
  w1 := fun q hq => by
    obtain ⟨q0, h0, _, pp⟩ := p.wy q hq
    rw [pp.length_eq]
    exact ok.w1 q0 h0
  w4 := fun q hq => by
    obtain ⟨q0, h0, _, pp⟩ := p.wy q hq
    rw [pp.length_eq]
    exact ok.w4 q0 h0
  wn := fun q hq z hz => by
    obtain ⟨q0, h0, _, pp⟩ := p.wy q hq
    exact ok.wn q0 h0 z (pp.mem_iff.mp hz)
  most := by
    have e : wprod W1 = wprod W := by
      rw [wprod_prodI, wprod_prodI, lens_of (p.nd ok), lens_of ok.nd]
      have e1 : (W1.map (·.1)).map (fun k => ((lookW W1 k).length : Int)) = (W1.map (·.1)).map fun k => ((lookW W k).length : Int) := List.map_congr_left fun k hk => by rw [(p.look ok hk).length_eq]
      rw [e1]
      exact prod_perm (p.nm.map _) 1
    rw [e]
    exact ok.most
theorem PermW.len (p : PermW W W1) : W1.length = W.length := by
  have := p.nm.length_eq
  rwa [List.length_map, List.length_map] at this
end
/-! ### the gains as a function -/
def rowOf (es : List Row) (st : List Str) : List Int := ((es.find? fun e => decide (e.1 = st)).map (·.2)).getD []
theorem rowOf_of {es : List Row} (hN : (es.map (·.1)).Nodup) {e : Row} (h : e ∈ es) : rowOf es e.1 = e.2 := by
  unfold rowOf
  induction es with
  | nil => cases h
  | cons a r ih =>
    rw [List.map_cons, List.nodup_cons] at hN
    rw [List.find?_cons]
    rcases List.mem_cons.mp h with rfl | h
    · rw [decide_eq_true rfl]
      rfl
    · have hne : ¬ a.1 = e.1 := fun z => hN.1 (List.mem_map.mpr ⟨e, h, z.symm⟩)
      rw [decide_eq_false hne]
      exact ih hN.2 h
theorem kS_inj {a b : List Str} (h : kS a = kS b) : a = b := List.map_inj_right (fun x y e => Sum.inr.inj e) |>.mp h
theorem ev_at {H0 H : Hp} : ∀ {es : List Row} {kvs : List (List L2.Key × V)} {st : List Str}, Paired (fun (e : Row) kv => kv.1 = kS e.1 ∧ Hnd H0 H kv.2 (e.2.map V.int)) es kvs → st ∈ es.map (·.1) → ∃ e ∈ es, e.1 = st ∧ ∃ v, valV kvs (kS st) = some v ∧ Hnd H0 H v (e.2.map V.int)
  | _, _, _, .nil, h => nomatch h
  | e :: es, kv :: kvs, st, .cons r t, h => by
    by_cases z : e.1 = st
    · exact ⟨e, List.mem_cons_self, z, kv.2, valV_pos (by rw [r.1, z]), r.2⟩
    · rw [List.map_cons] at h
      obtain ⟨e', h1, h2, v, h3, h4⟩ := ev_at t ((List.mem_cons.mp h).resolve_left fun y => z y.symm)
      exact ⟨e', List.mem_cons_of_mem _ h1, h2, v, by rw [valV_neg fun y => z (kS_inj (r.1.symm.trans y))]; exact h3, h4⟩
theorem Hnd.seq {K : PySem.W.Frag} {H0 H : Hp} {v : V} {xs : List V} (h : Hnd H0 H v xs) : SeqV K H v xs := by
  obtain ⟨a, rfl, ⟨_, h⟩ | h⟩ := h
  · exact .lst (SqL.of h) (.lst h)
  · exact .tup (SqT.of h) (.tup h)
theorem Hnd.keep {H0 H H' : Hp} {v : V} {xs : List V} (h : Hnd H0 H v xs) (k : ∀ c o, NotIns o → H c = some o → H' c = some o) : Hnd H0 H' v xs := by
  obtain ⟨a, e, ⟨n, h⟩ | h⟩ := h
  · exact ⟨a, e, .inl ⟨n, k _ _ (fun _ _ _ z => nomatch z) h⟩⟩
  · exact ⟨a, e, .inr (k _ _ (fun _ _ _ z => nomatch z) h)⟩
/-! ### what is handed in, as data -/
theorem hnd_strs {K : PySem.W.Frag} {H0 H : Hp} {v : V} {zs : List Str} (h : Hnd H0 H v (zs.map V.str)) (hn : ∀ z ∈ zs, isNm z = true) (h4 : zs.length ≤ 4) : ∃ d, Shw K H v d ∧ Sml 36 1 d := by
  have hs : ∀ d ∈ zs.map PyData.str, Sml 8 0 d := fun d hd => by
    obtain ⟨z, hz, rfl⟩ := List.mem_map.mp hd
    exact sml_str (hn z hz)
  obtain ⟨a, rfl, ⟨_, h⟩ | h⟩ := h
  · exact ⟨_, .flat (dp_strs h), sml_list (m := 4) hs (by rw [List.length_map]; exact h4)⟩
  · exact ⟨_, .flat (.tup (SqT.of h) (dpAll_strs zs)), sml_tuple (m := 4) hs (by rw [List.length_map]; exact h4)⟩
theorem hnd_ints {K : PySem.W.Frag} {H0 H : Hp} {v : V} {ns : List Int} (h : Hnd H0 H v (ns.map V.int)) (hn : ∀ z ∈ ns, GainOk z) (h4 : ns.length ≤ 4) : ∃ d, Shw K H v d ∧ Sml 816 1 d := by
  have hs : ∀ d ∈ ns.map PyData.int, Sml 203 0 d := fun d hd => by
    obtain ⟨z, hz, rfl⟩ := List.mem_map.mp hd
    exact sml_int (hn z hz)
  obtain ⟨a, rfl, ⟨_, h⟩ | h⟩ := h
  · exact ⟨_, .flat (.lst (SqL.of h) (dpAll_ints ns)), sml_list (m := 4) hs (by rw [List.length_map]; exact h4)⟩
  · exact ⟨_, .flat (.tup (SqT.of h) (dpAll_ints ns)), sml_tuple (m := 4) hs (by rw [List.length_map]; exact h4)⟩
theorem shw_vals {K : PySem.W.Frag} {H : Hp} {n : Nat} {κ : Type} : ∀ {kvs : List (κ × V)}, (∀ kv ∈ kvs, ∃ d, Shw K H kv.2 d ∧ Sml n 1 d) → ∃ ds, ShwAll K H (kvs.map (·.2)) ds ∧ (∀ d ∈ ds, Sml n 1 d)
  | [], _ => ⟨[], .nil, (fun _ z => nomatch z)⟩
  | kv :: kvs, h => by
    obtain ⟨d, h1, h2⟩ := h kv List.mem_cons_self
    obtain ⟨ds, h3, h4⟩ := shw_vals (kvs := kvs) fun x hx => h x (List.mem_cons_of_mem _ hx)
    refine ⟨d :: ds, .cons h1 h3, fun x hx => ?_⟩
    rcases List.mem_cons.mp hx with rfl | hx
    · exact h2
    · exact h4 x hx
theorem paired_mem {α β : Type} {R : α → β → Prop} {l : List α} {m : List β} (h : Paired R l m) {b : β} (hb : b ∈ m) : ∃ a ∈ l, R a b := by
  obtain ⟨i, hi, ei⟩ := List.getElem_of_mem hb
  obtain ⟨a, ha, r⟩ := paired_get h (show m[i]? = some b by rw [List.getElem?_eq_getElem hi, ei])
  exact ⟨a, List.mem_of_getElem? ha, r⟩
theorem shw_ways {K : PySem.W.Frag} {H0 H : Hp} {d : Addr} {W1 : List Way} {k1 : List (Key × V)} (ok : WOk W1) (hd : H d = some (.dK k1)) (h : Paired (fun (q : Way) kv => kv.1 = Sum.inr q.1 ∧ Hnd H0 H kv.2 (q.2.map V.str)) W1 k1) :
    ∃ D, Shw K H (.ref d) D ∧ Sml 184 2 D := by
  obtain ⟨ds, h1, h2⟩ := shw_vals (K := K) (n := 36) fun kv hkv => by
    obtain ⟨q, hq, _, hn⟩ := paired_mem h hkv
    exact hnd_strs hn (ok.wn q hq) (ok.w4 q hq)
  refine ⟨_, .dK hd h1, sml_dict (n1 := 8) (n2 := 36) (m := 4) (fun x hx => ?_) h2 ?_⟩
  · obtain ⟨kv, hkv, rfl⟩ := List.mem_map.mp hx
    obtain ⟨q, hq, e, _⟩ := paired_mem h hkv
    rw [e]
    exact (sml_str (ok.nm q hq)).mono (Nat.le_refl _) (by decide)
  · rw [List.length_map, ← Paired.length h]
    exact ok.n4
theorem shw_gains {K : PySem.W.Frag} {H0 H : Hp} {d : Addr} {es : List Row} {k2 : List (List L2.Key × V)} (hd : H d = some (.dT k2)) (h : Paired (fun (e : Row) kv => kv.1 = kS e.1 ∧ Hnd H0 H kv.2 (e.2.map V.int)) es k2)
    (hk : ∀ e ∈ es, (∀ z ∈ e.1, isNm z = true) ∧ e.1.length ≤ 4) (hv : ∀ e ∈ es, (∀ z ∈ e.2, GainOk z) ∧ e.2.length ≤ 4) (hl : es.length ≤ 256) : ∃ D, Shw K H (.ref d) D ∧ Sml 218624 2 D := by
  obtain ⟨ds, h1, h2⟩ := shw_vals (K := K) (n := 816) fun kv hkv => by
    obtain ⟨e, he, _, hn⟩ := paired_mem h hkv
    exact hnd_ints hn (hv e he).1 (hv e he).2
  refine ⟨_, .dT hd h1, sml_dict (n1 := 36) (n2 := 816) (m := 256) (fun x hx => ?_) h2 ?_⟩
  · obtain ⟨kv, hkv, rfl⟩ := List.mem_map.mp hx
    obtain ⟨e, he, ek, _⟩ := paired_mem h hkv
    rw [ek]
    unfold kTD
    rw [show (kS e.1).map kD = e.1.map PyData.str by unfold kS; rw [List.map_map]; rfl]
    refine sml_tuple (n := 8) (k := 0) (m := 4) (ds := e.1.map PyData.str) (fun y hy => ?_) (by rw [List.length_map]; exact (hk e he).2)
    obtain ⟨z, hz, rfl⟩ := List.mem_map.mp hy
    exact sml_str ((hk e he).1 z hz)
  · rw [List.length_map, ← Paired.length h]
    exact hl
theorem both_fit {D1 D2 : PyData} (h1 : Sml 184 2 D1) (h2 : Sml 218624 2 D2) : PyData.showableAll [D1, D2] = true ∧ PyData.depthAll [D1, D2] ≤ 30 ∧ (PyData.list [D1, D2]).shown.length ≤ sizeLine := by
  obtain ⟨a, b, c, e⟩ := sml_all (n := 218624) (k := 2) (ds := [D1, D2]) fun d hd => by
    simp only [List.mem_cons, List.not_mem_nil, or_false] at hd
    rcases hd with rfl | rfl
    · exact h1.mono (by decide) (Nat.le_refl _)
    · exact h2
  refine ⟨b, Nat.le_trans e (by decide), ?_⟩
  have z := PyData.shown_le 64 (by decide) (.list [D1, D2]) (by simp only [PyData.leavesShort]; exact a)
  have w1 := h1.wt
  have w2 := h2.wt
  have ew : (PyData.list [D1, D2]).weight = D1.weight + 1 + (D2.weight + 1 + 0) := by simp only [PyData.weight, PyData.weightAll]
  have es : sizeLine = 16777216 := by decide
  rw [ew] at z
  omega
/-! ### data that stays -/
mutual
theorem dp_keep {K : PySem.W.Frag} {H H' : Hp} (k : ∀ c o, NotIns o → H c = some o → H' c = some o) : ∀ {v : V} {d : PyData}, Dp K H v d → Dp K H' v d
  | _, _, .non => .non
  | _, _, .bl b => .bl b
  | _, _, .int i => .int i
  | _, _, .str z => .str z
  | _, _, .lst h t => .lst (seqL_keep h k) (dpAll_keep k t)
  | _, _, .tup h t => .tup (seqT_keep h k) (dpAll_keep k t)
theorem dpAll_keep {K : PySem.W.Frag} {H H' : Hp} (k : ∀ c o, NotIns o → H c = some o → H' c = some o) : ∀ {vs : List V} {ds : List PyData}, DpAll K H vs ds → DpAll K H' vs ds
  | _, _, .nil => .nil
  | _, _, .cons h t => .cons (dp_keep k h) (dpAll_keep k t)
end
theorem ni_lst {xs : List V} : NotIns (.lst xs) := fun _ _ _ z => nomatch z
theorem ni_tup {xs : List V} : NotIns (.tup xs) := fun _ _ _ z => nomatch z
theorem ni_dK {xs : List (Key × V)} : NotIns (.dK xs) := fun _ _ _ z => nomatch z
theorem ni_dT {xs : List (List Key × V)} : NotIns (.dT xs) := fun _ _ _ z => nomatch z
mutual
theorem shw_keep {K : PySem.W.Frag} {H H' : Hp} (k : ∀ c o, NotIns o → H c = some o → H' c = some o) : ∀ {v : V} {d : PyData}, Shw K H v d → Shw K H' v d
  | _, _, .flat h => .flat (dp_keep k h)
  | _, _, .lst h t => .lst (k _ _ ni_lst h) (shwAll_keep k t)
  | _, _, .tup h t => .tup (k _ _ ni_tup h) (shwAll_keep k t)
  | _, _, .dK h t => .dK (k _ _ ni_dK h) (shwAll_keep k t)
  | _, _, .dT h t => .dT (k _ _ ni_dT h) (shwAll_keep k t)
theorem shwAll_keep {K : PySem.W.Frag} {H H' : Hp} (k : ∀ c o, NotIns o → H c = some o → H' c = some o) : ∀ {vs : List V} {ds : List PyData}, ShwAll K H vs ds → ShwAll K H' vs ds
  | _, _, .nil => .nil
  | _, _, .cons h t => .cons (shw_keep k h) (shwAll_keep k t)
end
/-! ### an instance, as isinstance sees it -/
structure InsOk (K : PySem.W.Frag) (C : Addr) : Prop where
  ha : PySem.W.findIn K (.ref C) "__class__" = some (some (.builtin "object.__class__"))
  hn : PySem.W.specialIn K (.builtin "object.__class__") "__get__" = some (some (.builtin "getset_descriptor.__get__"))
  ht : PySem.W.takesIn K (.builtin "object.__class__") = some true
  hm : PySem.W.mroIn K C (.type "object") = some true
  k : ∀ T ∈ six, PySem.W.kitOne K (.ref C) (.type T) = some false
theorem AnyV.ins {K : PySem.W.Frag} {H : Hp} {a C dx : Addr} {fs : List (Str × V)} (h : H a = some (.ins C dx fs)) (c : Cls K C) (i : InsOk K C) : AnyV K H (.ref a) .ins :=
  ⟨⟨.ref C, .base (.ins h c i.ha i.hn i.ht i.hm), fun T hT => i.k T hT⟩, (fun z => nomatch z), (fun _ z e => nomatch e)⟩
/-! ### a game when what was handed in is emptied -/
theorem GameAt.off {K : PySem.W.Frag} {C : Addr} {N : Addr → Prop} {H H' : Hp} {g : Addr} {S : List Way} {γ : List Str → List Int} {dx w l t : Addr} {vs : List V} {kvs : List (List Key × V)} (G : GameAt K C N H g S γ dx w l t vs kvs)
    (kN : ∀ c u, N c → H c = some u → H' c = some u) (kT : ∀ c xs, H c = some (.tup xs) → H' c = some (.tup xs)) (kF : ∀ c o xs, H c = some (.frz o (.tup xs)) → H' c = some (.frz o (.tup xs))) : GameAt K C (fun _ => True) H' g S γ dx w l t vs kvs where
  hg := kN _ _ G.ng G.hg
  ng := trivial
  hw := by
    obtain ⟨kw, h, p⟩ := G.hw
    exact ⟨kw, kN _ _ G.nw h, paired_imp p fun q kv ⟨e, a, ev, n, h⟩ => ⟨e, a, ev, trivial, kN _ _ n h⟩⟩
  nw := trivial
  hl := kN _ _ G.nl G.hl
  nl := trivial
  hs := G.hs.tups kT
  ht := kN _ _ G.nt G.ht
  nt := trivial
  hk := paired_imp G.hk fun st kv ⟨e, a, ev, h⟩ => ⟨e, a, ev, by
    rcases h with (h | ⟨o, h⟩) | h
    · exact .inl (.inl (kT _ _ h))
    · exact .inl (.inr ⟨o, kF _ _ _ h⟩)
    · exact .inr h⟩
end HG

namespace HG
open PySem PySem.Spec PyProof.Rows L2 HT
open C8 (pss_cut tCut)
/-! ### repr of data without dicts, of True and False -/
def rReprD (K : PySem.W.Frag) : List V → Hp → VK → Prop := fun vs H Q => ∃ (a : Addr) (d : PyData), vs = [.ref a] ∧ Dp K H (.ref a) d ∧ d.showable = true ∧ d.depth ≤ 30 ∧ d.shown.length ≤ sizeLine ∧ Q (.str d.shown) H
theorem call_reprD {X : Cx} (hgd : X.A.guards = some []) (hu : X.A.units + 64 < cLine) : CallR X (.builtin "repr") (rReprD X.K) := by
  intro pins s σ H vs us Q I r h
  obtain ⟨a, d, rfl, hd, hs, h30, hz, q⟩ := h
  rw [Vals.ref1 r]
  obtain ⟨as, rd⟩ := Dp.reads I d (.ref a) (.ref a) hd rfl
  exact repr_of_reads' rd hs (fun z => by rw [dp_nodict hd] at z; cases z) hgd (by omega) (fun _ _ z => z) (fun h' u tk hk => ⟨.str d.shown, H, I.kept (t' := tk) hk, ⟨u, rfl⟩, q⟩) hz
def rReprB : List V → Hp → VK → Prop := fun vs H Q => ∃ b : Bool, vs = [.bl b] ∧ Q (.str (if b then "True" else "False")) H
theorem call_reprB {X : Cx} : CallR X (.builtin "repr") rReprB := by
  intro pins s σ H vs us Q I r h
  obtain ⟨b, rfl, q⟩ := h
  obtain ⟨u, rfl, ru⟩ := Vals.one r
  obtain rfl : u = Value.bool b := ru
  refine PySem.P.repr_of_bool ⟨.str (if b then "True" else "False"), H, I.tok _, ⟨s.toks, ?_⟩, q⟩
  cases b <;> rfl
/-! ### what is told, as data -/
def dOut : Out → PyData
  | .wrong => .tuple [.str "wrong", .int 1]
  | .stand st => .tuple [.str "standing", HG.dT st]
  | .step j => .tuple [.str "step", .int (j : Int)]
  | .fine _ _ => .none
def NotFine : Out → Prop
  | .wrong => True
  | .stand st => st.length ≤ 4 ∧ ∀ z ∈ st, isNm z = true
  | .step j => j ≤ 1000
  | .fine _ _ => False
theorem dp_two {K : PySem.W.Frag} {H : Hp} {a : Addr} {x y : V} {d e : PyData} (h : H a = some (.tup [x, y])) (hx : Dp K H x d) (hy : Dp K H y e) : Dp K H (.ref a) (.tuple [d, e]) := .tup (SqT.of h) (.cons hx (.cons hy .nil))
theorem tried_dp {K : PySem.W.Frag} {S : List Way} {γ : List Str → List Int} {H0 H' : Hp} {way : Nat} {p : Addr} {o : Out} (h : TriedAt S γ H0 H' way p o) (n : NotFine o) : Dp K H' (.ref p) (dOut o) := by
  cases o with
  | wrong => exact dp_two h (.str _) (.int _)
  | stand st =>
    obtain ⟨a, h1, h2⟩ := h
    exact dp_two h1 (.str _) (dp_tup (SqT.of h2))
  | step j => exact dp_two h (.str _) (.int _)
  | fine st cs => exact n.elim
theorem sml_two {n m k : Nat} {d e : PyData} (h1 : Sml n k d) (h2 : Sml n k e) : Sml (2 * (n + 1)) (k + 1) (.tuple [d, e]) := sml_tuple (m := 2) (fun x hx => by
  rcases List.mem_cons.mp hx with rfl | hx
  · exact h1
  · rw [List.mem_singleton.mp hx]
    exact h2) (Nat.le_refl 2)
theorem sml_names {st : List Str} (h4 : st.length ≤ 4) (h : ∀ z ∈ st, isNm z = true) : Sml 36 1 (HG.dT st) := sml_tuple (n := 8) (k := 0) (m := 4) (fun d hd => by
  obtain ⟨z, hz, rfl⟩ := List.mem_map.mp hd
  exact sml_str (h z hz)) (by rw [List.length_map]; exact h4)
theorem small_int {j : Nat} (h : j ≤ 1000) : Sml 203 0 (.int (j : Int)) := sml_int (by
  unfold GainOk
  omega)
theorem dOut_sml {o : Out} (n : NotFine o) : Sml 408 2 (dOut o) := by
  cases o with
  | wrong => exact (sml_two (m := 0) ((sml_str (by decide +kernel)).mono (by decide) (Nat.le_refl 0)) (small_int (j := 1) (by decide))).mono (by decide) (by decide)
  | stand st => exact (sml_two (m := 0) ((sml_str (by decide +kernel)).mono (by decide) (by decide)) (sml_names n.1 n.2)).mono (by decide) (by decide)
  | step j => exact (sml_two (m := 0) ((sml_str (by decide +kernel)).mono (by decide) (Nat.le_refl 0)) (small_int n)).mono (by decide) (by decide)
  | fine st cs => exact n.elim
theorem read_sml {K : PySem.W.Frag} {H : Hp} {a : Addr} {d : PyData} {n k : Nat} {Q : VK} (h : Dp K H (.ref a) d) (s : Sml n k d) (hn : 66 * n + 64 ≤ sizeLine) (hk : k ≤ 30) (q : Q (.str d.shown) H) : rReprD K [.ref a] H Q :=
  ⟨a, d, rfl, h, s.sh, Nat.le_trans s.dp hk, s.fits hn, q⟩
/-! ### a row, as data -/
theorem dp_seq2 {K : PySem.W.Frag} {H : Hp} {v : V} {xs : List V} {ds : List PyData} {n k m : Nat} (h : Seq2 H v xs) (t : DpAll K H xs ds) (hs : ∀ d ∈ ds, Sml n k d) (hm : ds.length ≤ m) : ∃ a d, v = .ref a ∧ Dp K H (.ref a) d ∧ Sml (m * (n + 1)) (k + 1) d := by
  obtain ⟨a, rfl, h | h⟩ := h
  · exact ⟨a, _, rfl, .lst (SqL.of h) t, sml_list hs hm⟩
  · exact ⟨a, _, rfl, .tup (SqT.of h) t, sml_tuple hs hm⟩
theorem dp_changes {K : PySem.W.Frag} {H : Hp} {cs : List Ch} {zs : List V} (h : Paired (fun (c : Ch) v => Seq2 H v [.str c.1, .str c.2]) cs zs) (hn : ∀ c ∈ cs, isNm c.1 = true ∧ isNm c.2 = true) : ∃ ds, DpAll K H zs ds ∧ (∀ d ∈ ds, Sml 18 1 d) ∧ ds.length = cs.length := by
  induction h with
  | nil => exact ⟨[], .nil, (fun _ h => nomatch h), rfl⟩
  | @cons c v cs zs q _ ih =>
    obtain ⟨ds, h1, h2, h3⟩ := ih fun c' hc => hn c' (List.mem_cons_of_mem _ hc)
    obtain ⟨m1, m2⟩ := hn c List.mem_cons_self
    obtain ⟨a, d, rfl, hd, sd⟩ := dp_seq2 (K := K) (m := 2) q (.cons (.str _) (.cons (.str _) .nil)) (n := 8) (k := 0) (fun d hd => by
      rcases List.mem_cons.mp hd with rfl | hd
      · exact sml_str m1
      · rw [List.mem_singleton.mp hd]
        exact sml_str m2) (Nat.le_refl 2)
    refine ⟨d :: ds, .cons hd h1, fun x hx => ?_, by rw [List.length_cons, List.length_cons, h3]⟩
    rcases List.mem_cons.mp hx with rfl | hx
    · exact sd
    · exact h2 x hx
theorem RowAt.data {K : PySem.W.Frag} {H : Hp} {x : V} {st : List Str} {cs : List Ch} (h : RowAt H x st cs) : ∃ a d, x = .ref a ∧ Dp K H (.ref a) d ∧ Sml 7602 3 d := by
  obtain ⟨y, z, zs, hx, hy, hz, hp⟩ := h.ex
  obtain ⟨ds, h1, h2, h3⟩ := dp_changes (K := K) hp h.cn
  obtain ⟨az, dz, rfl, hdz, sz⟩ := dp_seq2 (K := K) (m := 200) hz h1 h2 (by rw [h3]; exact h.few)
  obtain ⟨ay, dy, rfl, hdy, sy⟩ := dp_seq2 (K := K) (m := 4) hy (dpAll_strs st) (n := 8) (k := 0) (fun d hd => by
    obtain ⟨z, hz, rfl⟩ := List.mem_map.mp hd
    exact sml_str (h.nm z hz)) (by rw [List.length_map]; exact h.n4)
  exact dp_seq2 (K := K) (m := 2) hx (.cons hdy (.cons hdz .nil)) (n := 3800) (k := 2) (fun d hd => by
    rcases List.mem_cons.mp hd with rfl | hd
    · exact sy.mono (by decide) (by decide)
    · rw [List.mem_singleton.mp hd]
      exact sz.mono (by decide) (by decide)) (Nat.le_refl 2)
end HG

namespace HG
open PySem PySem.Spec PyProof.Rows L2 HT
open C8 (pss_cut tCut)
/-! ### values of which each keeps φ, where Ctx stands -/
def tOdd (Ctx : L2.St → Hp → Prop) (φ : Hp → V → Prop) : TE := fun σ H Q => Ctx σ H ∧ ∀ H' v, Same H H' → φ H' v → Q v H'
def tOdds (Ctx : L2.St → Hp → Prop) (φ : Hp → V → Prop) (n : Nat) : TA := fun σ H Q => Ctx σ H ∧ ∀ H' vs, Same H H' → (∀ v ∈ vs, φ H' v) → vs.length = n → Q vs H'
section
variable {X : Cx} {Ctx : L2.St → Hp → Prop} {φ : Hp → V → Prop} {e : Expr} {es : List Expr} {te : TE} {n : Nat}
theorem pe_odd (h : PE X e te) (k : ∀ σ H Q, Ctx σ H → (∀ H' v, Same H H' → φ H' v → Q v H') → te σ H Q) : PE X e (tOdd Ctx φ) := ⟨fun pins s σ H Q I q => h.run pins s σ H Q I (k σ H Q q.1 q.2)⟩
theorem pa_odd0 : PA X [] (tOdds Ctx φ 0) := pa_imp pa_nil fun σ H Q q => q.2 H [] (Same.refl H) (fun _ h => nomatch h) rfl
theorem pa_odd (hC : ∀ σ H H', Same H H' → Ctx σ H → Ctx σ H') (hφ : ∀ H H' v, Same H H' → φ H v → φ H' v) (h : PE X e (tOdd Ctx φ)) (t : PA X es (tOdds Ctx φ n)) (hs : starEach (e :: es) X.env = (false, eval e X.env) :: starEach es X.env := by rfl) : PA X (e :: es) (tOdds Ctx φ (n + 1)) :=
  pa_imp (pa_cons h t hs) fun σ H Q q => ⟨q.1, fun H1 v s1 hv => ⟨hC σ H H1 s1 q.1, fun H2 vs s2 hvs hl => q.2 H2 (v :: vs) (s1.trans s2) (fun x hx => by
    rcases List.mem_cons.mp hx with rfl | hx
    · exact hφ H1 H2 x s2 hv
    · exact hvs x hx) (by rw [List.length_cons, hl])⟩⟩
end
/-! ### what is no row -/
section
variable {K : PySem.W.Frag} {H : Hp}
theorem jr_flat {x : V} {t : Tg} (h : AnyV K H x t) (n1 : t ≠ .lst) (n2 : t ≠ .tup) : JRow K H x false := .inl ⟨t, h, n1, n2, rfl⟩
theorem jr_many {x : V} {xs : List V} (h : Seq2 H x xs) (n : xs.length ≠ 2) : JRow K H x false := .inr (.inl ⟨xs, h.seq, n, rfl⟩)
theorem jr_names {x y z : V} (h : Seq2 H x [y, z]) (hy : JNames K H y false) : JRow K H x false := .inr (.inr ⟨y, z, h.seq, .inl ⟨hy, rfl⟩⟩)
theorem jr_rest {x y z : V} (h : Seq2 H x [y, z]) (hy : JNames K H y true) (hz : JMany K H z false) : JRow K H x false := .inr (.inr ⟨y, z, h.seq, .inr ⟨hy, hz⟩⟩)
theorem jn_yes {y : V} {st : List Str} (h : Seq2 H y (st.map V.str)) (nm : ∀ z ∈ st, isNm z = true) (n1 : 1 ≤ st.length) (n4 : st.length ≤ 4) : JNames K H y true := .inl ⟨_, h.seq, fun _ _ => names_any nm, (namesV_yes nm n1 n4).symm⟩
theorem jn_no {y : V} {xs : List V} (h : Seq2 H y xs) (ha : ∀ y ∈ xs, ∃ t, AnyV K H y t) (n : namesV xs = false) : JNames K H y false := .inl ⟨xs, h.seq, fun _ _ => ha, n.symm⟩
theorem jn_flat {y : V} {t : Tg} (h : AnyV K H y t) (n1 : t ≠ .lst) (n2 : t ≠ .tup) : JNames K H y false := .inr ⟨t, h, n1, n2, rfl⟩
theorem jm_flat {z : V} {t : Tg} (h : AnyV K H z t) (n1 : t ≠ .lst) (n2 : t ≠ .tup) : JMany K H z false := .inl ⟨t, h, n1, n2, rfl⟩
theorem jm_long {z : V} {zs : List V} (h : Seq2 H z zs) (n : 200 < zs.length) (m : zs.length ≤ 100000) : JMany K H z false := .inr ⟨zs, h.seq, m, .inl ⟨n, rfl⟩⟩
theorem jm_one {z x : V} (h : Seq2 H z [x]) (hx : JChange K H x false) : JMany K H z false := .inr ⟨[x], h.seq, by show 1 ≤ 100000; decide, .inr ⟨[false], by show 1 ≤ 200; decide, .cons hx .nil, rfl⟩⟩
theorem jm_two {z x y : V} (h : Seq2 H z [x, y]) (hx : JChange K H x true) (hy : JChange K H y false) : JMany K H z false := .inr ⟨[x, y], h.seq, by show 2 ≤ 100000; decide, .inr ⟨[true, false], by show 2 ≤ 200; decide, .cons hx (.cons hy .nil), rfl⟩⟩
theorem jc_flat {x : V} {t : Tg} (h : AnyV K H x t) (n1 : t ≠ .lst) (n2 : t ≠ .tup) : JChange K H x false := .inr ⟨t, h, n1, n2, rfl⟩
theorem jc_no {x : V} {xs : List V} (h : Seq2 H x xs) (ha : ∀ y ∈ xs, ∃ t, AnyV K H y t) (n : (namesV xs && decide (xs.length = 2)) = false) : JChange K H x false := .inl ⟨xs, h.seq, fun _ _ => ha, n.symm⟩
theorem jc_yes {x : V} {c v : Str} (h : Seq2 H x [.str c, .str v]) (n1 : isNm c = true) (n2 : isNm v = true) : JChange K H x true := by
  have hn : ∀ y ∈ ([c, v] : List Str), isNm y = true := fun y hy => by
    rcases List.mem_cons.mp hy with rfl | hy
    · exact n1
    · rw [List.mem_singleton.mp hy]
      exact n2
  refine .inl ⟨_, h.seq, fun _ _ => names_any (xs := [c, v]) hn, ?_⟩
  rw [show namesV [.str c, .str v] = true from namesV_yes (xs := [c, v]) hn (by show 1 ≤ 2; decide) (by show 2 ≤ 4; decide)]
  rfl
theorem any_str {z : Str} (h : isNm z = true) : AnyV K H (.str z) .str := nm_any h
theorem s2_tup {a : Addr} {xs : List V} (h : H a = some (.tup xs)) : Seq2 H (.ref a) xs := ⟨a, rfl, .inr h⟩
theorem s2_lst {a : Addr} {xs : List V} (h : H a = some (.lst xs)) : Seq2 H (.ref a) xs := ⟨a, rfl, .inl h⟩
end
/-- what the odd rows are made of: ways in 2, a name in 7, a standing in 13, a list in 14 -/
structure OCtx (W : List Way) (a l d : Addr) (st : List Str) (es : List V) (nm : Str) (σ : L2.St) (H : Hp) : Prop where
  i2 : σ[2]? = some (some (.ref d))
  i7 : σ[7]? = some (some (.str nm))
  i13 : σ[13]? = some (some (.ref a))
  i14 : σ[14]? = some (some (.ref l))
  hW : ShL (fun _ => True) H d W
  ha : H a = some (.tup (st.map V.str))
  hl : H l = some (.lst es)
theorem OCtx.same {W : List Way} {a l d : Addr} {st : List Str} {es : List V} {nm : Str} {σ : L2.St} {H H' : Hp} (s : Same H H') (c : OCtx W a l d st es nm σ H) : OCtx W a l d st es nm σ H' := ⟨c.i2, c.i7, c.i13, c.i14, c.hW.same s, s _ _ c.ha, s _ _ c.hl⟩
/-- what stands besides -/
structure OFix (W : List Way) (st : List Str) (nm : Str) : Prop where
  ok : WOk W
  sn : ∀ z ∈ st, isNm z = true
  n1 : 1 ≤ st.length
  n4 : st.length ≤ 4
  nn : isNm nm = true
section
variable {K : PySem.W.Frag} {W : List Way} {a l d : Addr} {st : List Str} {es : List V} {nm : Str} {σ : L2.St} {H : Hp} {Q : VK}
abbrev JF (K : PySem.W.Frag) : Hp → V → Prop := fun H v => JRow K H v false
theorem od_non (k : ∀ H' v, Same H H' → JF K H' v → Q v H') : tC .non σ H Q := k H _ (Same.refl _) (jr_flat .non (by decide) (by decide))
theorem od_int (i : Int) (k : ∀ H' v, Same H H' → JF K H' v → Q v H') : tC (.int i) σ H Q := k H _ (Same.refl _) (jr_flat (.int i) (by decide) (by decide))
theorem od_str (k : ∀ H' v, Same H H' → JF K H' v → Q v H') : tC (.str "a") σ H Q := k H _ (Same.refl _) (jr_flat (any_str (by decide +kernel)) (by decide) (by decide))
theorem od_tup0 (k : ∀ H' v, Same H H' → JF K H' v → Q v H') : tTup tNil σ H Q := ⟨by show 0 ≤ sizeLine; decide, fun p np => k _ _ (same_upd np) (jr_many (s2_tup upd_same) (by decide))⟩
theorem od_lst0 (k : ∀ H' v, Same H H' → JF K H' v → Q v H') : tLst tNil σ H Q := ⟨by show 0 ≤ sizeLine; decide, fun p np => k _ _ (same_upd np) (jr_many (s2_lst upd_same) (by decide))⟩
theorem od_dct (k : ∀ H' v, Same H H' → JF K H' v → Q v H') : tDNewT σ H Q := fun p np => k _ _ (same_upd np) (jr_flat (.dT upd_same) (by decide) (by decide))
theorem od_first (c : OCtx W a l d st es nm σ H) (k : ∀ H' v, Same H H' → JF K H' v → Q v H') : tTup (tCons (tVar 13) tNil) σ H Q := ⟨_, c.i13, by show 1 ≤ sizeLine; decide, fun p np => k _ _ (same_upd np) (jr_many (s2_tup upd_same) (by show 1 ≠ 2; decide))⟩
theorem od_three (c : OCtx W a l d st es nm σ H) (k : ∀ H' v, Same H H' → JF K H' v → Q v H') : tTup (tCons (tVar 13) (tCons (tVar 14) (tCons (tLst tNil) tNil))) σ H Q := ⟨_, c.i13, _, c.i14, by show 0 ≤ sizeLine; decide, fun q nq => ⟨by show 3 ≤ sizeLine; decide, fun p np => k _ _ ((same_upd nq).trans (same_upd np)) (jr_many (s2_tup upd_same) (by show 3 ≠ 2; decide))⟩⟩
theorem od_none2 (f : OFix W st nm) (c : OCtx W a l d st es nm σ H) (k : ∀ H' v, Same H H' → JF K H' v → Q v H') : tTup (tCons (tVar 13) (tCons (tC .non) tNil)) σ H Q := ⟨_, c.i13, by show 2 ≤ sizeLine; decide, fun p np => k _ _ (same_upd np) (jr_rest (s2_tup upd_same) (jn_yes (s2_tup (same_upd np _ _ c.ha)) f.sn f.n1 f.n4) (jm_flat .non (by decide) (by decide)))⟩
theorem od_none1 (k : ∀ H' v, Same H H' → JF K H' v → Q v H') : tTup (tCons (tC .non) (tCons (tLst tNil) tNil)) σ H Q := ⟨by show 0 ≤ sizeLine; decide, fun q nq => ⟨by show 2 ≤ sizeLine; decide, fun p np => k _ _ ((same_upd nq).trans (same_upd np)) (jr_names (s2_tup upd_same) (jn_flat .non (by decide) (by decide)))⟩⟩
theorem od_lnone (f : OFix W st nm) (c : OCtx W a l d st es nm σ H) (k : ∀ H' v, Same H H' → JF K H' v → Q v H') : tTup (tCons (tVar 13) (tCons (tLst (tCons (tC .non) tNil)) tNil)) σ H Q :=
  ⟨_, c.i13, by show 1 ≤ sizeLine; decide, fun q nq => ⟨by show 2 ≤ sizeLine; decide, fun p np => k _ _ ((same_upd nq).trans (same_upd np)) (jr_rest (s2_tup upd_same) (jn_yes (s2_tup ((same_upd nq).trans (same_upd np) _ _ c.ha)) f.sn f.n1 f.n4) (jm_one (s2_lst (same_upd np _ _ upd_same)) (jc_flat .non (by decide) (by decide))))⟩⟩
theorem od_short (f : OFix W st nm) (c : OCtx W a l d st es nm σ H) (k : ∀ H' v, Same H H' → JF K H' v → Q v H') : tTup (tCons (tVar 13) (tCons (tLst (tCons (tTup (tCons (tC (.str "a")) tNil)) tNil)) tNil)) σ H Q :=
  ⟨_, c.i13, by show 1 ≤ sizeLine; decide, fun r nr => ⟨by show 1 ≤ sizeLine; decide, fun q nq => ⟨by show 2 ≤ sizeLine; decide, fun p np => k _ _ ((same_upd nr).trans ((same_upd nq).trans (same_upd np))) (jr_rest (s2_tup upd_same) (jn_yes (s2_tup ((same_upd nr).trans ((same_upd nq).trans (same_upd np)) _ _ c.ha)) f.sn f.n1 f.n4)
    (jm_one (s2_lst (same_upd np _ _ upd_same)) (jc_no (s2_tup (same_upd np _ _ (same_upd nq _ _ upd_same))) (fun y hy => ⟨.str, by rw [List.mem_singleton.mp hy]; exact any_str (by decide +kernel)⟩) (by decide +kernel))))⟩⟩⟩
theorem od_three2 (f : OFix W st nm) (c : OCtx W a l d st es nm σ H) (k : ∀ H' v, Same H H' → JF K H' v → Q v H') : tTup (tCons (tVar 13) (tCons (tLst (tCons (tTup (tCons (tC (.str "a")) (tCons (tC (.int 3)) tNil))) tNil)) tNil)) σ H Q :=
  ⟨_, c.i13, by show 2 ≤ sizeLine; decide, fun r nr => ⟨by show 1 ≤ sizeLine; decide, fun q nq => ⟨by show 2 ≤ sizeLine; decide, fun p np => k _ _ ((same_upd nr).trans ((same_upd nq).trans (same_upd np))) (jr_rest (s2_tup upd_same) (jn_yes (s2_tup ((same_upd nr).trans ((same_upd nq).trans (same_upd np)) _ _ c.ha)) f.sn f.n1 f.n4)
    (jm_one (s2_lst (same_upd np _ _ upd_same)) (jc_no (s2_tup (same_upd np _ _ (same_upd nq _ _ upd_same))) (fun y hy => by
      rcases List.mem_cons.mp hy with rfl | hy
      · exact ⟨.str, any_str (by decide +kernel)⟩
      · exact ⟨.int, by rw [List.mem_singleton.mp hy]; exact .int 3⟩) (by decide +kernel))))⟩⟩⟩
theorem od_empty (k : ∀ H' v, Same H H' → JF K H' v → Q v H') : tTup (tCons (tTup tNil) (tCons (tLst tNil) tNil)) σ H Q :=
  ⟨by show 0 ≤ sizeLine; decide, fun r nr => ⟨by show 0 ≤ sizeLine; decide, fun q nq => ⟨by show 2 ≤ sizeLine; decide, fun p np => k _ _ ((same_upd nr).trans ((same_upd nq).trans (same_upd np))) (jr_names (s2_tup upd_same) (jn_no (s2_tup (same_upd np _ _ (same_upd nq _ _ upd_same))) (fun _ h => nomatch h) rfl))⟩⟩⟩
theorem s2_of {a : Addr} {xs : List V} {H' : Hp} (h : H' a = some (.tup xs)) : Seq2 H' (.ref a) xs := s2_tup h
abbrev tAB : TE := tTup (tCons (tC (.str "a")) (tCons (tC (.str "b")) tNil))
theorem od_long (f : OFix W st nm) (c : OCtx W a l d st es nm σ H) (k : ∀ H' v, Same H H' → JF K H' v → Q v H') : tTup (tCons (tVar 13) (tCons (tOp rRep (tLst (tCons tAB tNil)) (tC (.int 201))) tNil)) σ H Q :=
  ⟨_, c.i13, by show 2 ≤ sizeLine; decide, fun r nr => ⟨by show 1 ≤ sizeLine; decide, fun q nq => ⟨q, 201, [.ref r], rfl, rfl, upd_same, by decide, by decide, by show 1 * 201 ≤ sizeLine; decide, fun o no => ⟨by show 2 ≤ sizeLine; decide, fun p np => by
    refine k _ _ ((same_upd nr).trans ((same_upd nq).trans ((same_upd no).trans (same_upd np)))) (jr_rest (s2_tup upd_same) (jn_yes (s2_tup (same_upd np _ _ (same_upd no _ _ (same_upd nq _ _ (same_upd nr _ _ c.ha))))) f.sn f.n1 f.n4) (jm_long (s2_lst (same_upd np _ _ upd_same)) ?_ ?_))
    · rw [List.length_flatten, List.map_replicate, List.sum_replicate_nat]
      show 200 < Int.toNat 201 * 1
      decide
    · rw [List.length_flatten, List.map_replicate, List.sum_replicate_nat]
      show Int.toNat 201 * 1 ≤ 100000
      decide⟩⟩⟩⟩
theorem od_lstr (f : OFix W st nm) (c : OCtx W a l d st es nm σ H) (k : ∀ H' v, Same H H' → JF K H' v → Q v H') : tTup (tCons (tCB (fun (xs : List V) H (Q : VK) => ∃ p ys, xs = [.ref p] ∧ (SqL K H p ys ∨ SqT K H p ys) ∧ ∀ l, H l = none → Q (.ref l) (upd H l (.lst ys))) (tCons (tVar 13) tNil)) (tCons (tC (.str "ab")) tNil)) σ H Q :=
  ⟨_, c.i13, a, _, rfl, .inr (SqT.of c.ha), fun q nq => ⟨by show 2 ≤ sizeLine; decide, fun p np => k _ _ ((same_upd nq).trans (same_upd np)) (jr_rest (s2_tup upd_same) (jn_yes (s2_lst (same_upd np _ _ upd_same)) f.sn f.n1 f.n4) (jm_flat (any_str (by decide +kernel)) (by decide) (by decide)))⟩⟩
theorem namesV_int {st : List Str} {i : Int} : namesV (st.map V.str ++ [.int i]) = false := by
  unfold namesV
  rw [List.all_append]
  show (_ && (_ && (nameV (.int i) && true))) = false
  rw [nameV_no (fun z h => by cases h), Bool.false_and, Bool.and_false, Bool.and_false]
theorem od_cat3 (f : OFix W st nm) (c : OCtx W a l d st es nm σ H) (k : ∀ H' v, Same H H' → JF K H' v → Q v H') : tTup (tCons (tOp rCatB (tVar 13) (tTup (tCons (tC (.int 3)) tNil))) (tCons (tLst tNil) tNil)) σ H Q :=
  ⟨_, c.i13, by show 1 ≤ sizeLine; decide, fun r nr => ⟨a, r, _, _, rfl, rfl, same_upd nr _ _ c.ha, upd_same, by
    rw [List.length_map]
    have := f.n4
    show st.length + 1 ≤ 1000
    omega, fun H1 q s1 h1 => ⟨by show 0 ≤ sizeLine; decide, fun o no => ⟨by show 2 ≤ sizeLine; decide, fun p np => by
    refine k _ _ ((same_upd nr).trans (s1.trans ((same_upd no).trans (same_upd np)))) (jr_names (s2_tup upd_same) (jn_no (s2_tup (same_upd np _ _ (same_upd no _ _ h1))) (fun y hy => ?_) namesV_int))
    rcases List.mem_append.mp hy with hy | hy
    · exact names_any f.sn y hy
    · exact ⟨.int, by rw [List.mem_singleton.mp hy]; exact .int 3⟩⟩⟩⟩⟩
theorem od_big (k : ∀ H' v, Same H H' → JF K H' v → Q v H') : tTup (tCons (tTup (tCons (tC (.str "A")) tNil)) (tCons (tLst tNil) tNil)) σ H Q :=
  ⟨by show 1 ≤ sizeLine; decide, fun r nr => ⟨by show 0 ≤ sizeLine; decide, fun q nq => ⟨by show 2 ≤ sizeLine; decide, fun p np => k _ _ ((same_upd nr).trans ((same_upd nq).trans (same_upd np))) (jr_names (s2_tup upd_same) (jn_no (s2_tup (same_upd np _ _ (same_upd nq _ _ upd_same))) (fun y hy => ⟨.str, by
    rw [List.mem_singleton.mp hy]
    exact .str "A" (by decide +kernel)⟩) (by decide +kernel)))⟩⟩⟩
abbrev tZqs : TE := tOp rRepB (tTup (tCons (tC (.str "zq")) tNil)) (tCB (fun (xs : List V) H (Q : VK) => ∃ a kvs, xs = [V.ref a] ∧ H a = some (.dK kvs) ∧ Q (.int kvs.length) H) (tCons (tVar 2) tNil))
theorem rep_one {z : Str} (n : Nat) : (List.replicate n [V.str z]).flatten = (List.replicate n z).map V.str := by
  induction n with
  | zero => rfl
  | succ n ih => rw [List.replicate_succ, List.flatten_cons, ih]; rfl
theorem zqs_of (f : OFix W st nm) (c : OCtx W a l d st es nm σ H) {R : VK} (k : ∀ H' p, Same H H' → H' p = some (.tup ((List.replicate W.length zq).map V.str)) → R (.ref p) H') : tZqs σ H R :=
  ⟨by show 1 ≤ sizeLine; decide, fun r nr => by
    obtain ⟨kw, hd, hp⟩ := id c.hW
    have hl : kw.length = W.length := (Paired.length hp).symm
    have n1 := f.ok.n1
    have n4 := f.ok.n4
    refine ⟨_, c.i2, d, kw, rfl, same_upd nr _ _ hd, r, (kw.length : Int), [.str "zq"], rfl, rfl, upd_same, (by intro z; cases z), by omega, by omega, by show 1 ≤ 1000; decide, fun H1 p s1 h1 => k _ p ((same_upd nr).trans s1) ?_⟩
    rw [h1, rep_one, hl, Int.toNat_natCast]
    rfl⟩
theorem zqs_nm (n : Nat) : ∀ z ∈ List.replicate n zq, isNm z = true := fun z hz => by rw [(List.mem_replicate.mp hz).2]; exact zq_nm
theorem od_zqs (f : OFix W st nm) (c : OCtx W a l d st es nm σ H) (k : ∀ H' v, Same H H' → JF K H' v → Q v H') : tTup (tCons tZqs (tCons (tLst (tCons (tC .non) tNil)) tNil)) σ H Q :=
  zqs_of f c fun H1 r s1 h1 => ⟨by show 1 ≤ sizeLine; decide, fun q nq => ⟨by show 2 ≤ sizeLine; decide, fun p np => k _ _ (s1.trans ((same_upd nq).trans (same_upd np))) (jr_rest (s2_tup upd_same) (jn_yes (s2_tup (((same_upd nq).trans (same_upd np)) _ _ h1)) (zqs_nm _) (by rw [List.length_replicate]; exact f.ok.n1) (by rw [List.length_replicate]; exact f.ok.n4)) (jm_one (s2_lst (same_upd np _ _ upd_same)) (jc_flat .non (by decide) (by decide))))⟩⟩
theorem od_two1 (f : OFix W st nm) (c : OCtx W a l d st es nm σ H) (k : ∀ H' v, Same H H' → JF K H' v → Q v H') : tTup (tCons (tVar 13) (tCons (tLst (tCons (tTup (tCons (tC (.str "zq")) (tCons (tC (.str "a")) tNil))) (tCons (tC .non) tNil))) tNil)) σ H Q :=
  ⟨_, c.i13, by show 2 ≤ sizeLine; decide, fun r nr => ⟨by show 2 ≤ sizeLine; decide, fun q nq => ⟨by show 2 ≤ sizeLine; decide, fun p np => by
    exact k _ _ ((same_upd nr).trans ((same_upd nq).trans (same_upd np))) (jr_rest (s2_tup upd_same) (jn_yes (s2_tup (same_upd np _ _ (same_upd nq _ _ (same_upd nr _ _ c.ha)))) f.sn f.n1 f.n4) (jm_two (s2_lst (same_upd np _ _ upd_same)) (jc_yes (s2_tup (same_upd np _ _ (same_upd nq _ _ upd_same))) (by decide +kernel) (by decide +kernel)) (jc_flat .non (by decide) (by decide))))⟩⟩⟩
theorem od_two2 (f : OFix W st nm) (c : OCtx W a l d st es nm σ H) (k : ∀ H' v, Same H H' → JF K H' v → Q v H') : tTup (tCons (tVar 13) (tCons (tLst (tCons (tTup (tCons (tVar 7) (tCons (tC (.str "zq")) tNil))) (tCons (tTup (tCons (tC (.str "a")) (tCons (tC (.int 3)) tNil))) tNil))) tNil)) σ H Q :=
  ⟨_, c.i13, _, c.i7, by show 2 ≤ sizeLine; decide, fun r nr => ⟨by show 2 ≤ sizeLine; decide, fun r2 nr2 => ⟨by show 2 ≤ sizeLine; decide, fun q nq => ⟨by show 2 ≤ sizeLine; decide, fun p np => by
    exact k _ _ ((same_upd nr).trans ((same_upd nr2).trans ((same_upd nq).trans (same_upd np)))) (jr_rest (s2_tup upd_same) (jn_yes (s2_tup (same_upd np _ _ (same_upd nq _ _ (same_upd nr2 _ _ (same_upd nr _ _ c.ha))))) f.sn f.n1 f.n4) (jm_two (s2_lst (same_upd np _ _ upd_same)) (jc_yes (s2_tup (same_upd np _ _ (same_upd nq _ _ (same_upd nr2 _ _ upd_same)))) f.nn (by decide +kernel)) (jc_no (s2_tup (same_upd np _ _ (same_upd nq _ _ upd_same))) (fun y hy => by
      rcases List.mem_cons.mp hy with rfl | hy
      · exact ⟨.str, any_str (by decide +kernel)⟩
      · exact ⟨.int, by rw [List.mem_singleton.mp hy]; exact .int 3⟩) (by decide +kernel))))⟩⟩⟩⟩
end
end HG

namespace HG
open PySem PySem.Spec PyProof.Rows L2 HT
open C8 (pss_cut tCut)
/-! ### the rows that are refused -/
theorem del_of {H : Hp} {R a : Addr} {o : HO} (n : a ≠ R) (h : H a = some o) : del H R a = some o := by rw [del_ne n]; exact h
theorem del_le (H : Hp) (R : Addr) : Same (del H R) H := fun a o h => by
  by_cases n : a = R
  · rw [n, del_same] at h
    cases h
  · rwa [del_ne n] at h
theorem del_up {H H' : Hp} (R : Addr) (s : Same H H') : Same (del H R) (del H' R) := fun a o h => by
  by_cases n : a = R
  · rw [n, del_same] at h
    cases h
  · rw [del_ne n] at h
    exact del_of n (s _ _ h)
theorem same_del {H H' : Hp} {R : Addr} (n : H R = none) (s : Same H H') : Same H (del H' R) := fun a o h => del_of (ne_of_none h n) (s _ _ h)
theorem del_tup {H : Hp} {R a : Addr} {rs xs : List V} (hR : H R = some (.lst rs)) (h : H a = some (.tup xs)) : del H R a = some (.tup xs) := del_of (ne_of h hR (by intro z; cases z)) h
theorem del_upd {H : Hp} {R : Addr} {o : HO} : del (upd H R o) R = del H R := by
  funext a
  by_cases n : a = R
  · rw [n, del_same, del_same]
  · rw [del_ne n, del_ne n, upd_ne n]
def ItemAt (K : PySem.W.Frag) (S : List Way) (Hd : Hp) (o : Out) (v : V) : Prop := ∃ q x e, v = .ref q ∧ Hd q = some (.tup [x, .ref e]) ∧ WOut K Hd S x o ∧ NotFine o ∧ Dp K Hd (.ref e) (dOut o)
theorem ItemAt.same {K : PySem.W.Frag} {S : List Way} {H H' : Hp} {o : Out} {v : V} (h : ItemAt K S H o v) (s : Same H H') : ItemAt K S H' o v :=
  let ⟨q, x, e, a, b, c, d, f⟩ := h; ⟨q, x, e, a, s _ _ b, c.same s, d, dp_keep (fun _ _ _ => s _ _) f⟩
structure RowsI (K : PySem.W.Frag) (S : List Way) (H1 : Hp) (R : Addr) (os : List Out) (n : Nat) (H' : Hp) : Prop where
  sm : Same H1 (del H' R)
  ex : ∃ rs, H' R = some (.lst rs) ∧ Paired (ItemAt K S (del H' R)) os rs
  len : os.length ≤ n
theorem RowsI.grow {K : PySem.W.Frag} {S : List Way} {H1 H' H2 : Hp} {R : Addr} {os : List Out} {n : Nat} (h : RowsI K S H1 R os n H') (s : Same H' H2) : RowsI K S H1 R os n H2 :=
  ⟨h.sm.trans (del_up R s), let ⟨rs, a, b⟩ := h.ex; ⟨rs, s _ _ a, paired_imp b fun _ _ q => q.same (del_up R s)⟩, h.len⟩
theorem RowsI.push {K : PySem.W.Frag} {S : List Way} {H1 H' : Hp} {R : Addr} {os : List Out} {rs : List V} {n : Nat} {o : Out} {v : V} (h : RowsI K S H1 R os n H') (hR : H' R = some (.lst rs)) (i : ItemAt K S (del H' R) o v) : RowsI K S H1 R (os ++ [o]) (n + 1) (upd H' R (.lst (rs ++ [v]))) :=
  ⟨by rw [del_upd]; exact h.sm, ⟨rs ++ [v], upd_same, by
    obtain ⟨rs', a, b⟩ := h.ex
    rw [hR] at a
    cases a
    rw [del_upd]
    exact paired_append b (.cons i .nil)⟩, by rw [List.length_append]; exact Nat.succ_le_succ h.len⟩
theorem RowsI.base {K : PySem.W.Frag} {S : List Way} {H1 H' : Hp} {R : Addr} {os : List Out} {n : Nat} (h : RowsI K S H1 R os n H') : Same H1 H' := h.sm.trans (del_le _ _)
def BadV (S : List Way) (u : List Str) (H : Hp) (v : V) : Prop := ∃ (a : Addr) (c : Ch), v = .ref a ∧ H a = some (.tup [.str c.1, .str c.2]) ∧ isNm c.1 = true ∧ isNm c.2 = true ∧ canP S u c = false
theorem BadV.same {S : List Way} {u : List Str} {H H' : Hp} {v : V} (h : BadV S u H v) (s : Same H H') : BadV S u H' v := let ⟨a, c, e, q, r⟩ := h; ⟨a, c, e, s _ _ q, r⟩
theorem bad_upd {S : List Way} {u : List Str} {H : Hp} {D : Addr} {xs : List V} {o : HO} {v : V} (hD : H D = some (.lst xs)) (h : BadV S u H v) : BadV S u (upd H D o) v :=
  let ⟨a, c, e, q, r⟩ := h; ⟨a, c, e, by rw [upd_ne (ne_of q hD (by intro z; cases z))]; exact q, r⟩
theorem paired_take {α β : Type} {R : α → β → Prop} {l : List α} {m : List β} (h : Paired R l m) : ∀ n, Paired R (l.take n) (m.take n) := by
  induction h with
  | nil => intro n; rw [List.take_nil, List.take_nil]; exact .nil
  | cons r _ ih =>
    intro n
    cases n with
    | zero => exact .nil
    | succ n => exact .cons r (ih n)
theorem paired_drop {α β : Type} {R : α → β → Prop} {l : List α} {m : List β} (h : Paired R l m) : ∀ n, Paired R (l.drop n) (m.drop n) := by
  induction h with
  | nil => intro n; rw [List.drop_nil, List.drop_nil]; exact .nil
  | cons r t ih =>
    intro n
    cases n with
    | zero => exact .cons r t
    | succ n => exact ih n
/-- a list or a tuple of names that is no standing, at an address that isn't R -/
def NearV (S : List Way) (R : Addr) (H : Hp) (v : V) : Prop := ∃ (a : Addr) (zs : List Str), v = .ref a ∧ a ≠ R ∧ (H a = some (.lst (zs.map V.str)) ∨ H a = some (.tup (zs.map V.str))) ∧ zs ∉ stds S ∧ (∀ z ∈ zs, isNm z = true) ∧ 1 ≤ zs.length ∧ zs.length ≤ 9
theorem NearV.same {S : List Way} {R : Addr} {H H' : Hp} {v : V} (h : NearV S R H v) (s : Same H H') : NearV S R H' v := let ⟨a, zs, e, n, q, r⟩ := h; ⟨a, zs, e, n, q.imp (s _ _) (s _ _), r⟩
def Near4 (S : List Way) (R : Addr) (H : Hp) (v : V) : Prop := ∃ (a : Addr) (zs : List Str), v = .ref a ∧ a ≠ R ∧ (H a = some (.lst (zs.map V.str)) ∨ H a = some (.tup (zs.map V.str))) ∧ zs ∉ stds S ∧ (∀ z ∈ zs, isNm z = true) ∧ 1 ≤ zs.length ∧ zs.length ≤ 4
def CtxO (σ : L2.St) (H : Hp) : Prop := ∃ W a l d st es nm, OCtx W a l d st es nm σ H ∧ OFix W st nm
theorem CtxO.same {σ : L2.St} {H H' : Hp} (s : Same H H') (h : CtxO σ H) : CtxO σ H' := let ⟨W, a, l, d, st, es, nm, c, f⟩ := h; ⟨W, a, l, d, st, es, nm, c.same s, f⟩
def spRefused (K : PySem.W.Frag) (C : Addr) : Sp := fun args H Q _ => ∃ (b k g d p : Addr) (ns : List Int) (W : List Way) (st : List Str) (cs : List Ch) (N : Addr → Prop) (γ : List Str → List Int), args = [.ref b, .ref g, .ref d, .ref p] ∧ ABag H b k ns ∧ IsG K C N H g (sh W) γ ∧ GLen (sh W) γ ∧
  ShL (fun _ => True) H d W ∧ WOk W ∧ MenuW W ∧ LRow H W b p st cs ∧ cs.length ≤ 196 ∧ ∀ H', But b H H' → ABag H' b k ns → Q (.bl true) H'
section
variable {P : Program} {w : World} {K : PySem.W.Frag} {mg : Str → Option Value} {base : Heap} {C : Addr}
variable {fT fO fN fS fW fM fC fCg : Addr} {dT' dO dN dS dW dM dC dCg : FuncData}
abbrev NsRf : List Str := ["_law_bag_here", "_law_game", "_law_ways", "_law_row_here", "_law_spot", "_law_standing", "_law_change", "_law_name", "_law_present", "_law_way", "_law_some", "_law_bad", "_law_rows", "_law_first", "_law_changes_here", "_law_odd", "_law_thing", "_law_due_here", "_law_one_here"]
theorem ok_refused (cc : Cls K C) (ci : InsOk K C) {f fR fTr fNr : Addr} {fd dR dTr dNr : FuncData} (B : BT K mg fT fO dT' dO) (GL : GnT K mg fN fS fW dN dS dW) (T : MvT K mg fM fC fCg dM dC dCg) (mrp : mg "repr" = none)
    (R : DfB K mg "is_ring" s_is_ring ["game", "thing"] fR dR) (oR : FnOk P w K mg base CX0 7 fR dR ["game", "thing"] (spRing K C)) (Tr : DfB K mg "_law_tried" s_law_tried ["_law_way", "_law_game", "_law_row_here"] fTr dTr) (oTr : FnOk P w K mg base CX0 8 fTr dTr ["_law_way", "_law_game", "_law_row_here"] (spTried K C))
    (Nr : DfB K mg "_law_near" s_law_near ["_law_ways", "_law_standing"] fNr dNr) (D : Df K mg "_law_refused" s_law_refused f fd) : FnG P w K mg base CX0 9 f fd ["_law_bag_here", "_law_game", "_law_ways", "_law_row_here"] (spRefused K C) := by
  have S : FnScope NsRf ["_law_bag_here", "_law_game", "_law_ways", "_law_row_here"] (defScope s_law_refused) := ⟨rfl, rfl, rfl, by decide +kernel, rfl, by decide +kernel, by decide +kernel⟩
  have nd := S.nd
  refine okG D.F S (fun vs H Q E h => ?_) (fun cdv A outer s H vs Q E hgd hr h => ?_)
  · obtain ⟨b, k, g, d, p, ns, W, st, cs, N, γ, rfl, _⟩ := h
    rfl
  · obtain ⟨b, k, g, d, p, ns, W, st, cs, N, γ, rfl, B0, hG, hγ, hW, ok, hM, hR, hl6, q⟩ := h
    have hu := hu_of hr
    have hu64 := hr.units
    have ms := GL.m_sorted
    have oT := ok_take (P := P) (w := w) (base := base) B.T B.ml B.mi
    have oO := ok_one (P := P) (w := w) (base := base) B.O B.T B.bT B.gT B.ml B.mi
    have oMv := ok_moved (P := P) (w := w) (base := base) ms T.mv.d
    have oNr := ok_lnear (P := P) (w := w) (base := base) B GL Nr.d.F
    refine ⟨_, pss_cons (ps_set (i := 4) nd rfl (Or.inl rfl) (pe_call oT (hr.mono (by decide)) (by rfl) B.gT B.T.kp B.bT .nil pass0 (pa_cons (pv 0) (pa_cons (pe_op op_add (pe_callB call_len_seq (by rfl) B.ml PySem.boot_len (pa_cons (pe_ix ix_tup (pv 3) pe_int (fun _ _ => rfl)) pa_nil)) pe_int) pa_nil))))
      (pss_cons (ps_set (i := 5) nd rfl (Or.inl rfl) (pe_ix ix_tup (pv 3) pe_int (fun _ _ => rfl)))
      (pss_cons (ps_for PassesOwn.never rfl (pi_list (pe_slice sl_list (pe_ix ix_tup (pv 3) pe_int (fun _ _ => rfl)) po_none (po_some (pv 4)))) (pg_name (i := 6) nd rfl (Or.inl rfl))
        (pss_one (ps_set (i := 5) nd rfl (Or.inl rfl) (pe_call oMv (hr.mono (by decide)) (by rfl) T.mv.d.g T.mv.d.F.kp T.mv.b .nil pass0 (pa_cons (pv 2) (pa_cons (pv 5) (pa_cons (pv 6) pa_nil)))))))
      (pss_cons (ps_set (i := 7) nd rfl (Or.inr rfl) (pe_call oO (hr.mono (by decide)) (by rfl) B.gO B.O.kp B.bO .nil pass0 (pa_cons (pv 0) (pa_cons (pe_callB (call_srtD rfl) (by rfl) ms (by decide +kernel) (pa_cons (pv 2) pa_nil)) pa_nil))))
      (pss_cons (ps_set (i := 8) nd rfl (Or.inl rfl) (pe_ix ix_tup (pv 5) (pe_bm PySem.F.plainAttrs_list PySem.F.slot_list_index PySem.F.type_list_index mt_index (pe_callB (call_srtD rfl) (by rfl) ms (by decide +kernel) (pa_cons (pv 2) pa_nil)) (pa_cons (pv 7) pa_nil)) (fun _ _ => rfl)))
      (pss_cons (ps_setLc (i := 10) (own := [("_law_way", 9)]) (g := gName 9) rfl nd rfl rfl (sw_true rfl rfl rfl (by decide +kernel)) (pi_list (pe_dget hu (pv 2) (pe_ix ix_list (pe_callB (call_srtD rfl) (by rfl) ms (by decide +kernel) (pa_cons (pv 2) pa_nil)) pe_int (fun _ _ => rfl)) (fun _ _ => rfl))) (blkOk_by (N := NsRf) (sc := defScope s_law_refused) (by decide +kernel)) (fun _ _ _ _ _ => pg_name (i := 9) nd rfl (Or.inl rfl))
          (fun _ _ _ _ _ => pts_one (pt_cmpR (r := rIn K true) op_notIn_seq (pv 9) (pe_dget hu (pv 2) (pv 7) (fun _ _ => rfl)) (by rfl))) (fun _ _ _ _ _ => pe_tup (pa_cons (pv 7) (pa_cons (pv 9) pa_nil))))
      (pss_cons (ps_set (i := 11) nd rfl (Or.inl rfl) (pe_call oO (hr.mono (by decide)) (by rfl) B.gO B.O.kp B.bO .nil pass0 (pa_cons (pv 0) (pa_cons (pe_op op_cat (pe_lst (pa_cons (pe_tup (pa_cons (pv 7) (pa_cons pe_str pa_nil))) (pa_cons (pe_tup (pa_cons pe_str (pa_cons pe_str pa_nil))) (pa_cons (pe_tup (pa_cons (pv 7) (pa_cons (pv 8) pa_nil))) pa_nil)))) (pv 10)) pa_nil))))
      (pss_cut (ps_set (i := 12) nd rfl (Or.inl rfl) (pe_lst (pa_cons (pe_tup (pa_cons (pe_tup (pa_cons (pe_ix ix_tup (pv 3) pe_int (fun _ _ => rfl)) (pa_cons (pe_op op_cat (pe_op op_cat (pe_slice sl_list (pe_ix ix_tup (pv 3) pe_int (fun _ _ => rfl)) po_none (po_some (pv 4))) (pe_lst (pa_cons (pv 11) pa_nil))) (pe_slice sl_list (pe_ix ix_tup (pv 3) pe_int (fun _ _ => rfl)) (po_some (pv 4)) po_none)) pa_nil))) (pa_cons (pe_tup (pa_cons pe_str (pa_cons (pv 4) pa_nil))) pa_nil))) pa_nil)))
      (pss_cons (ps_set (i := 10) nd rfl (Or.inl rfl) (pe_lst (pa_cons (pe_op op_repB (pe_tup (pa_cons pe_str pa_nil)) (pe_callB call_lenD (by rfl) B.ml PySem.boot_len (pa_cons (pv 2) pa_nil))) (pa_cons (pe_op op_catB (pe_ix ix_tup (pv 3) pe_int (fun _ _ => rfl)) (pe_tup (pa_cons pe_str pa_nil))) (pa_cons (pe_op op_rep (pe_lst (pa_cons pe_str pa_nil)) (pe_callB call_lenD (by rfl) B.ml PySem.boot_len (pa_cons (pv 2) pa_nil))) pa_nil)))))
      (pss_cons (ps_set (i := 10) nd rfl (Or.inl rfl) (pe_op op_cat (pv 10) (pe_call oNr (hr.mono (by decide)) (by rfl) Nr.d.g Nr.d.F.kp Nr.b .nil pass0 (pa_cons (pv 2) (pa_cons (pe_ix ix_tup (pv 3) pe_int (fun _ _ => rfl)) pa_nil)))))
      (pss_cut (ps_for PassesOwn.never rfl (pi_list (pe_lc (own := [("_law_one_here", 18)]) (g := gName 18) rfl nd (pi_list (pv 10)) (blkOk_by (N := NsRf) (sc := defScope s_law_refused) (by decide +kernel)) (fun _ _ _ _ _ => pg_name (i := 18) nd rfl (Or.inl rfl))
          (fun _ _ _ _ _ => pts_one (pt_cmpR op_lt (pe_callB (id := "len") (r := fun xs H Q => ∃ p ys, xs = [V.ref p] ∧ (SqL K H p ys ∨ SqT K H p ys) ∧ Q (.int (ys.length : Int)) H) call_len_seq (by rfl) B.ml PySem.boot_len (pa_cons (pv 18) pa_nil)) pe_int (nomark _))) (fun _ _ _ _ _ => pv 18))) (pg_name (i := 13) nd rfl (Or.inl rfl))
        (pss_one (ps_expr (pe_bm PySem.F.plainAttrs_list PySem.F.slot_list_append PySem.F.type_list_append mt_append (pv 12) (pa_cons (pe_tup (pa_cons (pe_tup (pa_cons (pv 13) (pa_cons (pe_ix ix_tup (pv 3) pe_int (fun _ _ => rfl)) pa_nil))) (pa_cons (pe_tup (pa_cons pe_str (pa_cons (pe_callTy (T := "tuple") (r := rTupOf K) call_tup (by rfl) GL.m_tuple (by decide +kernel) (pa_cons (pv 13) pa_nil)) pa_nil))) pa_nil))) pa_nil)))))
      (pss_cons (ps_asg (pv 3) (pg_tup rfl (pgs_cons (pg_name (i := 13) nd rfl (Or.inl rfl)) (pgs_cons (pg_name (i := 14) nd rfl (Or.inl rfl)) pgs_nil))))
      (pss_cons (ps_set (i := 15) nd rfl (Or.inl rfl) (pe_lst (pa_odd (Ctx := CtxO) (φ := JF K) (fun _ _ _ s h => h.same s) (fun _ _ _ s h => h.same s) (pe_odd pe_non fun σ H Q c k => od_non k)
          (pa_odd (fun _ _ _ s h => h.same s) (fun _ _ _ s h => h.same s) (pe_odd pe_int fun σ H Q c k => od_int 3 k)
          (pa_odd (fun _ _ _ s h => h.same s) (fun _ _ _ s h => h.same s) (pe_odd pe_str fun σ H Q c k => od_str k)
          (pa_odd (fun _ _ _ s h => h.same s) (fun _ _ _ s h => h.same s) (pe_odd (pe_tup pa_nil) fun σ H Q c k => od_tup0 k)
          (pa_odd (fun _ _ _ s h => h.same s) (fun _ _ _ s h => h.same s) (pe_odd (pe_lst pa_nil) fun σ H Q c k => od_lst0 k)
          (pa_odd (fun _ _ _ s h => h.same s) (fun _ _ _ s h => h.same s) (pe_odd pe_dnewT fun σ H Q c k => od_dct k)
          (pa_odd (fun _ _ _ s h => h.same s) (fun _ _ _ s h => h.same s) (pe_odd (pe_tup (pa_cons (pv 13) pa_nil)) fun σ H Q c k => let ⟨_, _, _, _, _, _, _, c, f⟩ := c; od_first c k)
          (pa_odd (fun _ _ _ s h => h.same s) (fun _ _ _ s h => h.same s) (pe_odd (pe_tup (pa_cons (pv 13) (pa_cons (pv 14) (pa_cons (pe_lst pa_nil) pa_nil)))) fun σ H Q c k => let ⟨_, _, _, _, _, _, _, c, f⟩ := c; od_three c k)
          (pa_odd (fun _ _ _ s h => h.same s) (fun _ _ _ s h => h.same s) (pe_odd (pe_tup (pa_cons (pv 13) (pa_cons pe_non pa_nil))) fun σ H Q c k => let ⟨_, _, _, _, _, _, _, c, f⟩ := c; od_none2 f c k)
          (pa_odd (fun _ _ _ s h => h.same s) (fun _ _ _ s h => h.same s) (pe_odd (pe_tup (pa_cons pe_non (pa_cons (pe_lst pa_nil) pa_nil))) fun σ H Q c k => od_none1 k)
          (pa_odd (fun _ _ _ s h => h.same s) (fun _ _ _ s h => h.same s) (pe_odd (pe_tup (pa_cons (pv 13) (pa_cons (pe_lst (pa_cons pe_non pa_nil)) pa_nil))) fun σ H Q c k => let ⟨_, _, _, _, _, _, _, c, f⟩ := c; od_lnone f c k)
          pa_odd0)))))))))))))
      (pss_cons (ps_set (i := 15) nd rfl (Or.inl rfl) (pe_op op_cat (pv 15) (pe_lst (pa_odd (Ctx := CtxO) (φ := JF K) (fun _ _ _ s h => h.same s) (fun _ _ _ s h => h.same s) (pe_odd (pe_tup (pa_cons (pv 13) (pa_cons (pe_lst (pa_cons (pe_tup (pa_cons pe_str pa_nil)) pa_nil)) pa_nil))) fun σ H Q c k => let ⟨_, _, _, _, _, _, _, c, f⟩ := c; od_short f c k)
          (pa_odd (fun _ _ _ s h => h.same s) (fun _ _ _ s h => h.same s) (pe_odd (pe_tup (pa_cons (pv 13) (pa_cons (pe_lst (pa_cons (pe_tup (pa_cons pe_str (pa_cons pe_int pa_nil))) pa_nil)) pa_nil))) fun σ H Q c k => let ⟨_, _, _, _, _, _, _, c, f⟩ := c; od_three2 f c k)
          (pa_odd (fun _ _ _ s h => h.same s) (fun _ _ _ s h => h.same s) (pe_odd (pe_tup (pa_cons (pe_tup pa_nil) (pa_cons (pe_lst pa_nil) pa_nil))) fun σ H Q c k => od_empty k)
          (pa_odd (fun _ _ _ s h => h.same s) (fun _ _ _ s h => h.same s) (pe_odd (pe_tup (pa_cons (pv 13) (pa_cons (pe_op op_rep (pe_lst (pa_cons (pe_tup (pa_cons pe_str (pa_cons pe_str pa_nil))) pa_nil)) pe_int) pa_nil))) fun σ H Q c k => let ⟨_, _, _, _, _, _, _, c, f⟩ := c; od_long f c k)
          (pa_odd (fun _ _ _ s h => h.same s) (fun _ _ _ s h => h.same s) (pe_odd (pe_tup (pa_cons (pe_callTy call_list_of (by rfl) GL.m_list (by decide +kernel) (pa_cons (pv 13) pa_nil)) (pa_cons pe_str pa_nil))) fun σ H Q c k => let ⟨_, _, _, _, _, _, _, c, f⟩ := c; od_lstr f c k)
          pa_odd0))))))))
      (pss_cons (ps_set (i := 15) nd rfl (Or.inl rfl) (pe_op op_cat (pv 15) (pe_lst (pa_odd (Ctx := CtxO) (φ := JF K) (fun _ _ _ s h => h.same s) (fun _ _ _ s h => h.same s) (pe_odd (pe_tup (pa_cons (pe_op op_catB (pv 13) (pe_tup (pa_cons pe_int pa_nil))) (pa_cons (pe_lst pa_nil) pa_nil))) fun σ H Q c k => let ⟨_, _, _, _, _, _, _, c, f⟩ := c; od_cat3 f c k)
          (pa_odd (fun _ _ _ s h => h.same s) (fun _ _ _ s h => h.same s) (pe_odd (pe_tup (pa_cons (pe_tup (pa_cons pe_str pa_nil)) (pa_cons (pe_lst pa_nil) pa_nil))) fun σ H Q c k => od_big k)
          pa_odd0)))))
      (pss_cons (ps_set (i := 15) nd rfl (Or.inl rfl) (pe_op op_cat (pv 15) (pe_lst (pa_odd (Ctx := CtxO) (φ := JF K) (fun _ _ _ s h => h.same s) (fun _ _ _ s h => h.same s) (pe_odd (pe_tup (pa_cons (pe_op op_repB (pe_tup (pa_cons pe_str pa_nil)) (pe_callB call_lenD (by rfl) B.ml PySem.boot_len (pa_cons (pv 2) pa_nil))) (pa_cons (pe_lst (pa_cons pe_non pa_nil)) pa_nil))) fun σ H Q c k => let ⟨_, _, _, _, _, _, _, c, f⟩ := c; od_zqs f c k)
          (pa_odd (fun _ _ _ s h => h.same s) (fun _ _ _ s h => h.same s) (pe_odd (pe_tup (pa_cons (pv 13) (pa_cons (pe_lst (pa_cons (pe_tup (pa_cons pe_str (pa_cons pe_str pa_nil))) (pa_cons pe_non pa_nil))) pa_nil))) fun σ H Q c k => let ⟨_, _, _, _, _, _, _, c, f⟩ := c; od_two1 f c k)
          (pa_odd (fun _ _ _ s h => h.same s) (fun _ _ _ s h => h.same s) (pe_odd (pe_tup (pa_cons (pv 13) (pa_cons (pe_lst (pa_cons (pe_tup (pa_cons (pv 7) (pa_cons pe_str pa_nil))) (pa_cons (pe_tup (pa_cons pe_str (pa_cons pe_int pa_nil))) pa_nil))) pa_nil))) fun σ H Q c k => let ⟨_, _, _, _, _, _, _, c, f⟩ := c; od_two2 f c k)
          pa_odd0))))))
      (pss_cons (ps_set (i := 12) nd rfl (Or.inl rfl) (pe_op op_cat (pv 12) (pe_lc (own := [("_law_thing", 16)]) (g := gName 16) (tt := tYes) rfl nd (pi_list (pv 15)) (blkOk_by (N := NsRf) (sc := defScope s_law_refused) (by decide +kernel)) (fun _ _ _ _ _ => pg_name (i := 16) nd rfl (Or.inl rfl)) (fun _ _ _ _ _ => pts_nil)
          (fun _ _ _ _ _ => pe_tup (pa_cons (pv 16) (pa_cons (pe_tup (pa_cons pe_str (pa_cons pe_int pa_nil))) pa_nil))))))
      (pss_cut (ps_expr (pe_bm PySem.F.plainAttrs_list PySem.F.slot_list_append PySem.F.type_list_append mt_append (pv 12) (pa_cons (pe_tup (pa_cons (pe_tup (pa_cons (pe_op op_repB (pe_tup (pa_cons pe_str pa_nil)) (pe_callB call_lenD (by rfl) B.ml PySem.boot_len (pa_cons (pv 2) pa_nil))) (pa_cons (pe_lst (pa_cons (pe_tup (pa_cons pe_str (pa_cons pe_str pa_nil))) pa_nil)) pa_nil))) (pa_cons (pe_tup (pa_cons pe_str (pa_cons (pe_op op_repB (pe_tup (pa_cons pe_str pa_nil)) (pe_callB call_lenD (by rfl) B.ml PySem.boot_len (pa_cons (pv 2) pa_nil))) pa_nil))) pa_nil))) pa_nil)))
      (pss_cons (ps_if (PW.pt (pw_or (pt_cmpR op_isnot_bl (pe_call oR (hr.mono (by decide)) (by rfl) R.d.g R.d.F.kp R.b .nil pass0 (pa_cons (pv 1) (pa_cons (pv 1) pa_nil))) pe_bl (by rfl))
          (pw_or1 (pt_cmpR (op_neD hu64) (pe_call oTr (hr.mono (by decide)) (by rfl) Tr.d.g Tr.d.F.kp Tr.b .nil pass0 (pa_cons pe_int (pa_cons (pv 1) (pa_cons (pv 1) pa_nil)))) (pe_tup (pa_cons pe_str (pa_cons pe_int pa_nil))) (nomark _))))) pss_never pss_nil)
      (pss_cons (ps_for PassesOwn.never rfl (pi_list (pv 12)) (pg_tup rfl (pgs_cons (pg_name (i := 16) nd rfl (Or.inl rfl)) (pgs_cons (pg_name (i := 17) nd rfl (Or.inl rfl)) pgs_nil)))
        (pss_cons (ps_if (pt_cmpR op_isnot_bl (pe_call oR (hr.mono (by decide)) (by rfl) R.d.g R.d.F.kp R.b .nil pass0 (pa_cons (pv 1) (pa_cons (pv 16) pa_nil))) pe_bl (by rfl)) pss_never pss_nil)
        (pss_one (ps_for PassesOwn.never rfl (pi_range1 rfl GL.m_range (pa_cons pe_int pa_nil)) (pg_name (i := 9) nd rfl (Or.inl rfl))
          (pss_one (ps_if (pt_cmpR op_ne (pe_callB (call_reprD hgd hu64) (by rfl) mrp (by decide +kernel) (pa_cons (pe_call oTr (hr.mono (by decide)) (by rfl) Tr.d.g Tr.d.F.kp Tr.b .nil pass0 (pa_cons (pv 9) (pa_cons (pv 1) (pa_cons (pv 16) pa_nil)))) pa_nil)) (pe_callB (call_reprD hgd hu64) (by rfl) mrp (by decide +kernel) (pa_cons (pv 17) pa_nil)) (nomark _)) pss_never pss_nil))))))
      (pss_one (ps_ret pe_bl))))))))))))))))))))), ?_⟩
    obtain ⟨a, l, es, hp, ha, hl, lb, hes⟩ := hR.ex
    have sok := ok.sok
    have shl : (sh W).length = W.length := sh_len W
    have n4 := ok.n4
    have n1 := ok.n1
    have hnm : srt (W.map (·.1)) = names (sh W) := (sh_names W).symm
    have snl : (names (sh W)).length = W.length := by unfold names; rw [List.length_map, shl]
    have ecl : es.length = cs.length := (Paired.length hes).symm
    have cin : ∀ i, i ≤ cs.length → goes (sh W) st (cs.take i) ∈ stds (sh W) := fun i hi => goes_in sok hR.hin hi fun k c _ => hR.can k c
    refine ⟨_, rfl, _, rfl, p, _, 1, .ref l, rfl, rfl, SqT.of hp, rfl, l, es, rfl, .inl (SqL.of hl), _, _, rfl, rfl, b, k, ns, _, rfl, B0, (by omega), (by omega), fun H1 dd kb1 B1 d0 dm => ?_⟩
    obtain ⟨j, rfl⟩ := Int.eq_ofNat_of_zero_le d0
    have hj : j ≤ cs.length := by omega
    have hp1 := tup_but kb1 B0 hp
    have ha1 := tup_but kb1 B0 ha
    have hl1 := kb1 _ _ hl lb
    refine ⟨_, rfl, p, _, 0, .ref a, rfl, rfl, SqT.of hp1, rfl, _, rfl, p, _, 1, .ref l, rfl, rfl, SqT.of hp1, rfl, _, rfl, (j : Int), rfl, l, es, rfl, SqL.of hl1, fun sp nsp => ?_⟩
    rw [cut_to]
    have s2 := same_upd (o := .lst (es.take j)) nsp
    have hsp : (upd H1 sp (.lst (es.take j))) sp = some (.lst (es.take j)) := upd_same
    generalize (upd H1 sp (.lst (es.take j))) = H2 at s2 hsp
    have kb2 := kb1.trans (But.of s2)
    have B2 := B1.same s2
    refine ⟨sp, rfl, ⟨_, SqL.of hsp⟩, for_it (walk_list (K := K) (a := sp) (xs := es.take j)) (fun i σ H' => ∃ ca v6 v7 v8 v9 v10 v11 v12 v13 v14 v15 v16 v17 v18, σ = [some (.ref b), some (.ref g), some (.ref d), some (.ref p), some (.int (j : Int)), some (.ref ca), v6, v7, v8, v9, v10, v11, v12, v13, v14, v15, v16, v17, v18] ∧ Same H2 H' ∧ H' ca = some (.tup ((goes (sh W) st (cs.take i)).map V.str)))
      ⟨a, _, _, _, _, _, _, _, _, _, _, _, _, _, rfl, Same.refl _, s2 _ _ ha1⟩ (fun i σ H' _ ⟨_, _, _, _, _, _, _, _, _, _, _, _, _, _, _, sx, _⟩ => SqL.of (sx _ _ hsp)) ?_ ?_⟩
    · rintro i x σ Hz H3 hi ⟨ca, v6, v7, v8, v9, v10, v11, v12, v13, v14, v15, v16, v17, v18, rfl, s3, hca⟩ ⟨rfl, hx⟩
      rw [List.length_take] at hi
      rw [List.getElem?_take, if_pos (by omega)] at hx
      obtain ⟨c, hc, pc, rfl, hpc⟩ := paired_get hes hx
      have hil : i < cs.length := (List.getElem?_eq_some_iff.mp hc).1
      obtain ⟨i0, q0, z0, hq0, e0, _⟩ := can_facts sok (cin i (Nat.le_of_lt hil)) (hR.can i c hc)
      refine ⟨_, rfl, _, rfl, _, rfl, d, ca, pc, W, _, c, rfl, (hW.but B0 ok.w1 kb2).same s3, ok, hca, by rw [stds_mem (cin i (Nat.le_of_lt hil)), shl], s3 _ _ (tup_but kb2 B0 hpc), by rw [← e0]; exact List.mem_of_getElem? (names_at hq0), fun H4 p4 s4 h4 => ?_⟩
      exact ⟨p4, _, _, _, _, _, _, _, _, _, _, _, _, _, rfl, s3.trans s4, by rw [goes_more hc]; exact h4⟩
    rintro σ H3 ⟨ca, v6, v7, v8, v9, v10, v11, v12, v13, v14, v15, v16, v17, v18, rfl, s3, hca⟩
    rw [List.length_take, ecl, Nat.min_eq_left hj] at hca
    have uin := cin j hj
    have kb3 := kb2.trans (But.of s3)
    have B3 := B2.same s3
    obtain ⟨kw, hd, hpw⟩ := id (hW.but B0 ok.w1 kb3)
    refine ⟨_, rfl, _, rfl, d, kw, W.map (·.1), rfl, hd, keysL hpw, (by rw [List.length_map]; exact Nat.lt_of_le_of_lt n4 (by decide)), fun np nn => ?_⟩
    rw [hnm]
    have s4 := same_upd (o := .lst ((names (sh W)).map V.str)) nn
    have hnp : (upd H3 np (.lst ((names (sh W)).map V.str))) np = some (.lst ((names (sh W)).map V.str)) := upd_same
    have npb : np ≠ b := abag_not B3 nn
    have hca4 := s4 _ _ hca
    generalize (upd H3 np (.lst ((names (sh W)).map V.str))) = H4 at s4 hnp hca4
    have kb4 := kb3.trans (But.of s4)
    have B4 := B3.same s4
    refine ⟨b, k, np, ns, _, rfl, B4, SqL.of hnp, npb, ?_, by rw [List.length_map, snl]; omega, fun H5 x kb45 B5 hx => ?_⟩
    · intro z
      have := congrArg List.length z
      rw [List.length_map, snl] at this
      exact absurd this (by show W.length ≠ 0; omega)
    obtain ⟨nm, hnmm, rfl⟩ := List.mem_map.mp hx
    have kb5 := kb4.trans kb45
    have hW5 := hW.but B0 ok.w1 kb5
    obtain ⟨kw5, hd5, hpw5⟩ := id hW5
    have hca5 := tup_but kb45 B4 hca4
    obtain ⟨i, hi⟩ := List.mem_iff_getElem?.mp hnmm
    have hi' := hi
    unfold names at hi'
    rw [List.getElem?_map] at hi'
    obtain ⟨qw, hq, eqn⟩ := Option.map_eq_some_iff.mp hi'
    have eqn' : qw.1 = nm := eqn
    subst eqn'
    obtain ⟨i1, i2, i3⟩ := ix_name sok.nd hi
    have hz : (goes (sh W) st (cs.take j))[i]? = some ((goes (sh W) st (cs.take j))[i]'(by rw [stds_mem uin]; exact (List.getElem?_eq_some_iff.mp hq).1)) := List.getElem?_eq_getElem _
    generalize hze : (goes (sh W) st (cs.take j))[i]'(by rw [stds_mem uin]; exact (List.getElem?_eq_some_iff.mp hq).1) = zp at hz
    refine ⟨_, rfl, _, rfl, d, kw5, W.map (·.1), rfl, hd5, keysL hpw5, (by rw [List.length_map]; exact Nat.lt_of_le_of_lt n4 (by decide)), fun np2 nn2 => ?_⟩
    rw [hnm]
    have s6 := same_upd (o := .lst ((names (sh W)).map V.str)) nn2
    have hca6 := s6 _ _ hca5
    refine ⟨.inl ⟨rfl, _, SqL.of upd_same⟩, _, rfl, np2, _, .str qw.1, i, .str qw.1, rfl, rfl, SqL.of upd_same, rfl, flat_strs _, i1, i2, i3, ca, _, _, .str zp, rfl, rfl, SqT.of hca6, atI_nat (by rw [List.getElem?_map, hz]; rfl), ?_⟩
    generalize (upd H5 np2 (.lst ((names (sh W)).map V.str))) = H6 at s6 hca6
    have s06 : But b H H6 := kb5.trans (But.of s6)
    have B6 := B5.same s6
    have hW6 := hW.but B0 ok.w1 s06
    have wayOf : ∀ {H' : Hp}, ShL (fun _ => True) H' d W → ∀ q ∈ sh W, ∃ aw ws, DGet H' d (.str q.1) (some (.ref aw)) ∧ H' aw = some (.lst (ws.map V.str)) ∧ q.2 = srt ws ∧ (q.1, ws) ∈ W := by
      intro H' hS q hqm
      obtain ⟨kw, hd, hp⟩ := hS
      obtain ⟨q0, h0, eq0⟩ := sh_of ok.nd hqm
      obtain ⟨aw, hw, _, haw⟩ := way_at hp ok.nd h0
      have en : q0.1 = q.1 := by rw [eq0]
      refine ⟨aw, q0.2, ?_, haw, by rw [eq0], by rw [← en]; exact h0⟩
      rw [← hw, ← en]
      exact DGet.k (k := Sum.inr q0.1) hd
    obtain ⟨kw6, hd6, hpw6⟩ := id hW6
    obtain ⟨q0, hq0⟩ : ∃ q0, (sh W)[0]? = some q0 := ⟨(sh W)[0]'(by omega), List.getElem?_eq_getElem _⟩
    refine ⟨_, rfl, _, rfl, d, kw6, W.map (·.1), rfl, hd6, keysL hpw6, (by rw [List.length_map]; exact Nat.lt_of_le_of_lt n4 (by decide)), fun np3 nn3 => ?_⟩
    rw [hnm]
    have s7 := same_upd (o := .lst ((names (sh W)).map V.str)) nn3
    have hW7 := hW6.same s7
    obtain ⟨aw, ws, hg0, haw, _, hmw⟩ := wayOf hW7 q0 (List.mem_of_getElem? hq0)
    have w4 : ws.length ≤ 4 := ok.w4 _ hmw
    refine ⟨np3, _, 0, .str q0.1, rfl, rfl, SqL.of upd_same, atI_nat (j := 0) (by rw [List.getElem?_map, names_at hq0]; rfl), d, _, rfl, hg0, aw, rfl, ⟨_, SqL.of haw⟩, fun D nD => ?_⟩
    generalize (upd H6 np3 (.lst ((names (sh W)).map V.str))) = H7 at s7 hW7 hg0 haw nD
    have sD := same_upd (o := .lst []) nD
    refine lc_it (walk_list (K := K) (a := aw) (xs := ws.map V.str)) (fun m H' => ∃ zs, H' D = some (.lst zs) ∧ (∀ v ∈ zs, BadV (sh W) (goes (sh W) st (cs.take j)) H' v) ∧ zs.length ≤ m ∧ Same H7 H') ⟨[], upd_same, (fun _ h => nomatch h), Nat.le_refl _, sD⟩ (fun m H' _ ⟨_, _, _, _, sx⟩ => SqL.of (sx _ _ haw)) ?_ ?_
    · rintro m y H9' H9 hm ⟨zs, hD, hzs, hzl, s9⟩ ⟨rfl, hy⟩
      rw [List.length_map] at hm
      rw [List.getElem?_map] at hy
      obtain ⟨v, hv, rfl⟩ := Option.map_eq_some_iff.mp hy
      obtain ⟨aw2, ws2, hg2, haw2, ews2, hmw2⟩ := wayOf (hW7.same s9) qw (List.mem_of_getElem? hq)
      refine ⟨rfl, _, rfl, _, rfl, _, rfl, d, _, rfl, hg2, aw2, _, rfl, .inl (SqL.of haw2), rfl, flat_strs _, _, rfl, ?_⟩
      rw [if_pos rfl, inV_strs]
      by_cases hvw : v ∈ ws2
      · rw [decide_eq_true hvw]
        exact iteF ⟨zs, hD, hzs, Nat.le_succ_of_le hzl, s9⟩
      · rw [decide_eq_false hvw]
        refine iteT ⟨_, rfl, _, rfl, (by show 2 ≤ sizeLine; decide), fun tp ntp => ?_⟩
        have st9 := same_upd (o := .tup [V.str qw.1, V.str v]) ntp
        have hD' := st9 _ _ hD
        refine ⟨zs, hD', small1000 (by omega), zs ++ [.ref tp], upd_same, fun x hx => ?_, by rw [List.length_append]; exact Nat.succ_le_succ hzl, fun r o e => ?_⟩
        · rcases List.mem_append.mp hx with hx | hx
          · exact bad_upd hD' ((hzs x hx).same st9)
          · rw [List.mem_singleton.mp hx]
            refine bad_upd hD' ⟨tp, (qw.1, v), rfl, upd_same, ok.sok.nm _ (List.mem_of_getElem? hq), ok.wn _ hmw _ (List.mem_of_getElem? hv), ?_⟩
            rw [canP_at sok.nd hq hz, ews2, decide_eq_false (fun z => hvw (srt_mem.mp z)), Bool.false_and]
        · rw [upd_ne (ne_of_none e nD)]
          exact st9 _ _ (s9 _ _ e)
    rintro H8 ⟨zs, hD, hzs, hzl, s8⟩
    rw [List.length_map] at hzl
    -- what cannot be done
    have hzl4 : zs.length ≤ 4 := Nat.le_trans hzl w4
    have s68 := s7.trans s8
    have B8 := B6.same s68
    have zqn : zq ∉ names (sh W) := fun z => by
      obtain ⟨q', hq', e'⟩ := List.mem_map.mp z
      obtain ⟨q0', h0', e0'⟩ := sh_of ok.nd hq'
      have := (hM q0' h0').1
      rw [e0'] at e'
      have e2 : q0'.1 = zq := e'
      rw [e2] at this
      exact absurd this (by decide +kernel)
    have zqw : zq ∉ qw.2 := fun z => by
      obtain ⟨q0', h0', e0'⟩ := sh_of ok.nd (List.mem_of_getElem? hq)
      rw [e0'] at z
      have := (hM q0' h0').2 _ (srt_mem.mp z)
      exact absurd this (by decide +kernel)
    have nqw := ok.sok.nm _ (List.mem_of_getElem? hq)
    have nzp : isNm zp = true := stds_names sok.wn uin _ (List.mem_of_getElem? hz)
    refine ⟨_, rfl, _, rfl, (by show 2 ≤ sizeLine; decide), fun t1 nt1 => ⟨(by show 2 ≤ sizeLine; decide), fun t2 nt2 => ⟨_, rfl, _, rfl, (by show 2 ≤ sizeLine; decide), fun t3 nt3 => ⟨(by show 3 ≤ sizeLine; decide), fun lp nlp => ?_⟩⟩⟩⟩
    have st1 := same_upd (o := .tup [V.str qw.1, V.str (Str.ofString "zq")]) nt1
    have st2 := same_upd (o := .tup [V.str (Str.ofString "zq"), V.str (Str.ofString "a")]) nt2
    have st3 := same_upd (o := .tup [V.str qw.1, V.str zp]) nt3
    have slp := same_upd (o := .lst [V.ref t1, V.ref t2, V.ref t3]) nlp
    have b1 := BadV.same (S := sh W) (u := goes (sh W) st (cs.take j)) (v := .ref t1) (BadV.same (BadV.same ⟨t1, (qw.1, zq), rfl, upd_same, nqw, zq_nm, by rw [canP_at sok.nd hq hz, decide_eq_false zqw, Bool.false_and]⟩ st2) st3) slp
    have b2 := BadV.same (S := sh W) (u := goes (sh W) st (cs.take j)) (v := .ref t2) (BadV.same ⟨t2, (zq, Str.ofString "a"), rfl, upd_same, zq_nm, by decide +kernel, canP_no zqn⟩ st3) slp
    have b3 := BadV.same (S := sh W) (u := goes (sh W) st (cs.take j)) (v := .ref t3) ⟨t3, (qw.1, zp), rfl, upd_same, nqw, nzp, by rw [canP_at sok.nd hq hz, decide_eq_true rfl]; simp⟩ slp
    have s9 := st1.trans (st2.trans (st3.trans slp))
    have hlp := upd_same (H := (upd (upd (upd H8 t1 (.tup [V.str qw.1, V.str (Str.ofString "zq")])) t2 (.tup [V.str (Str.ofString "zq"), V.str (Str.ofString "a")])) t3 (.tup [V.str qw.1, V.str zp]))) (a := lp) (o := .lst [V.ref t1, V.ref t2, V.ref t3])
    generalize (upd (upd (upd (upd H8 t1 (.tup [V.str qw.1, V.str (Str.ofString "zq")])) t2 (.tup [V.str (Str.ofString "zq"), V.str (Str.ofString "a")])) t3 (.tup [V.str qw.1, V.str zp])) lp (.lst [V.ref t1, V.ref t2, V.ref t3])) = H9 at b1 b2 b3 s9 hlp
    have hD9 := s9 _ _ hD
    refine ⟨_, rfl, lp, D, _, zs, rfl, rfl, hlp, hD9, Nat.le_of_lt (small1000 (by show 3 + zs.length ≤ 1000; omega)), fun cp ncp => ?_⟩
    have s10 := same_upd (o := .lst ([V.ref t1, V.ref t2, V.ref t3] ++ zs)) ncp
    have hcp : (upd H9 cp (.lst ([V.ref t1, V.ref t2, V.ref t3] ++ zs))) cp = some (.lst ([V.ref t1, V.ref t2, V.ref t3] ++ zs)) := upd_same
    have B9 := B8.same s9
    have cpb : cp ≠ b := abag_not B9 ncp
    have allbad : ∀ v ∈ ([V.ref t1, V.ref t2, V.ref t3] ++ zs), BadV (sh W) (goes (sh W) st (cs.take j)) (upd H9 cp (.lst ([V.ref t1, V.ref t2, V.ref t3] ++ zs))) v := fun v hv => by
      refine BadV.same ?_ s10
      rcases List.mem_append.mp hv with hv | hv
      · rcases List.mem_cons.mp hv with rfl | hv
        · exact b1
        rcases List.mem_cons.mp hv with rfl | hv
        · exact b2
        rw [List.mem_singleton.mp hv]
        exact b3
      · exact (hzs v hv).same s9
    generalize (upd H9 cp (.lst ([V.ref t1, V.ref t2, V.ref t3] ++ zs))) = H10 at s10 hcp allbad
    have B10 := B9.same s10
    have kb10 : But b H H10 := s06.trans (But.of (s68.trans (s9.trans s10)))
    refine ⟨b, k, cp, ns, _, rfl, B10, SqL.of hcp, cpb, (fun z => nomatch z), by rw [List.length_append]; show 3 + zs.length < 1000; omega, fun H11 x kb1011 B11 hx => ?_⟩
    obtain ⟨pb, cb, rfl, hpb, nb1, nb2, hbad⟩ := allbad x hx
    have hpb11 := tup_but kb1011 B10 hpb
    have kb11 := kb10.trans kb1011
    have hp11 := tup_but kb11 B0 hp
    have ha11 := tup_but kb11 B0 ha
    have hl11 := kb11 _ _ hl lb
    have hes11 : Paired (ChAt H11) cs es := paired_imp hes fun _ _ h => ch_but kb11 B0 h
    refine ⟨fun σ H' => ∃ (R : Addr) (H1 : Hp) (os : List Out) (v5 v6 v8 v9 v10 v11 v13 v14 v15 v16 v17 v18 : Option V), RowsI K (sh W) H1 R os 1 H' ∧ But b H H1 ∧ ABag H1 b k ns ∧ H1 R = none ∧
      σ = [some (.ref b), some (.ref g), some (.ref d), some (.ref p), some (.int (j : Int)), v5, v6, some (.str qw.1), v8, v9, v10, v11, some (.ref R), v13, v14, v15, v16, v17, v18], ?_, ?_⟩
    · refine ⟨_, rfl, p, _, 0, .ref a, rfl, rfl, SqT.of hp11, rfl, _, rfl, p, _, 1, .ref l, rfl, rfl, SqT.of hp11, rfl, _, rfl, (j : Int), rfl, l, es, rfl, SqL.of hl11, fun x1 nx1 => ?_⟩
      rw [cut_to]
      have sx1 := same_upd (o := .lst (es.take j)) nx1
      refine ⟨_, rfl, (by show 1 ≤ sizeLine; decide), fun x2 nx2 => ?_⟩
      have sx2 := same_upd (o := .lst [V.ref pb]) nx2
      refine ⟨x1, x2, _, _, rfl, rfl, sx2 _ _ upd_same, upd_same, Nat.le_of_lt (small1000 (by rw [List.length_take]; show _ + 1 ≤ 1000; omega)), fun x3 nx3 => ?_⟩
      have sx3 := same_upd (o := .lst (es.take j ++ [V.ref pb])) nx3
      have hx3 := upd_same (H := upd (upd H11 x1 (.lst (es.take j))) x2 (.lst [V.ref pb])) (a := x3) (o := .lst (es.take j ++ [V.ref pb]))
      have s12 := sx1.trans (sx2.trans sx3)
      generalize (upd (upd (upd H11 x1 (.lst (es.take j))) x2 (.lst [V.ref pb])) x3 (.lst (es.take j ++ [V.ref pb]))) = H12 at sx3 hx3 s12
      refine ⟨_, rfl, p, _, 1, .ref l, rfl, rfl, SqT.of (s12 _ _ hp11), rfl, _, rfl, (j : Int), rfl, l, es, rfl, SqL.of (s12 _ _ hl11), fun x4 nx4 => ?_⟩
      rw [cut_from]
      have sx4 := same_upd (o := .lst (es.drop j)) nx4
      refine ⟨x3, x4, _, _, rfl, rfl, sx4 _ _ hx3, upd_same, Nat.le_of_lt (small1000 (by rw [List.length_append, List.length_take, List.length_drop]; show _ + 1 + _ ≤ 1000; omega)), fun x5 nx5 => ?_⟩
      have sx5 := same_upd (o := .lst (es.take j ++ [V.ref pb] ++ es.drop j)) nx5
      have hx5 := upd_same (H := upd H12 x4 (.lst (es.drop j))) (a := x5) (o := .lst (es.take j ++ [V.ref pb] ++ es.drop j))
      have s13 := s12.trans (sx4.trans sx5)
      generalize (upd (upd H12 x4 (.lst (es.drop j))) x5 (.lst (es.take j ++ [V.ref pb] ++ es.drop j))) = H13 at sx5 hx5 s13
      refine ⟨(by show 2 ≤ sizeLine; decide), fun q1 nq1 => ⟨_, rfl, (by show 2 ≤ sizeLine; decide), fun q2 nq2 => ⟨(by show 2 ≤ sizeLine; decide), fun q3 nq3 => ⟨(by show 1 ≤ sizeLine; decide), fun R nR => ?_⟩⟩⟩⟩
      have sq1 := same_upd (o := .tup [V.ref a, V.ref x5]) nq1
      have sq2 := same_upd (o := .tup [V.str (Str.ofString "step"), V.int (j : Int)]) nq2
      have sq3 := same_upd (o := .tup [V.ref q1, V.ref q2]) nq3
      have s14 := s13.trans (sq1.trans (sq2.trans sq3))
      refine ⟨R, _, [.step j], _, _, _, _, _, _, _, _, _, _, _, _, ⟨?_, ⟨_, upd_same, .cons ?_ .nil⟩, Nat.le_refl 1⟩, kb11.trans (But.of s14), B11.same s14, nR, rfl⟩
      · rw [del_upd]
        exact same_del nR (Same.refl _)
      · rw [del_upd]
        refine ⟨q3, .ref q1, q2, rfl, del_of (ne_of_none upd_same nR) upd_same, ?_, (by show j ≤ 1000; omega), dp_two (del_of (ne_of_none (sq3 _ _ upd_same) nR) (sq3 _ _ upd_same)) (.str _) (.int _)⟩
        refine WOut.same ?_ (same_del nR (Same.refl _))
        have hx5' := sq3 _ _ (sq2 _ _ (sq1 _ _ hx5))
        have ecs : (cs.take j ++ [cb] ++ cs.drop j).length = cs.length + 1 := by
          rw [List.length_append, List.length_append, List.length_take, List.length_drop]
          show _ + 1 + _ = _
          omega
        have etj : ∀ i, i ≤ j → (cs.take j ++ [cb] ++ cs.drop j).take i = cs.take i := fun i hi => by
          rw [List.append_assoc, List.take_append_of_le_length (by rw [List.length_take]; omega), List.take_take, Nat.min_eq_left hi]
        refine ⟨st, cs.take j ++ [cb] ++ cs.drop j, cb, ⟨⟨.ref a, .ref x5, _, s2_tup (sq3 _ _ (sq2 _ _ upd_same)), s2_tup (s14 _ _ ha11), s2_lst hx5', ?_⟩, stds_names sok.wn hR.hin, ?_, ?_, ?_, ?_⟩, hR.hin, ?_, ?_, ?_⟩
        · have ch2 : ∀ (c : Ch) v, ChAt H11 c v → Seq2 (upd (upd (upd H13 q1 (.tup [V.ref a, V.ref x5])) q2 (.tup [V.str (Str.ofString "step"), V.int (j : Int)])) q3 (.tup [V.ref q1, V.ref q2])) v [.str c.1, .str c.2] := fun c v ⟨pc, e, h⟩ => by
            subst e
            exact s2_tup (s14 _ _ h)
          refine paired_append (paired_append (paired_imp (paired_take hes11 j) ch2) (.cons (s2_tup (s14 _ _ hpb11)) .nil)) (paired_imp (paired_drop hes11 j) ch2)
        · rw [stds_mem hR.hin]
          omega
        · rw [stds_mem hR.hin]
          omega
        · intro c hc
          rcases List.mem_append.mp hc with hc | hc
          · rcases List.mem_append.mp hc with hc | hc
            · exact hR.nm ok c (List.mem_of_mem_take hc)
            · rw [List.mem_singleton.mp hc]
              exact ⟨nb1, nb2⟩
          · exact hR.nm ok c (List.mem_of_mem_drop hc)
        · rw [ecs]
          omega
        · rw [List.append_assoc, List.getElem?_append_right (by rw [List.length_take]; omega), List.length_take, Nat.min_eq_left hj, Nat.sub_self]
          rfl
        · rw [etj j (Nat.le_refl j)]
          exact hbad
        · intro i c hij hc
          rw [etj i (Nat.le_of_lt hij)]
          rw [List.append_assoc, List.getElem?_append_left (by rw [List.length_take]; omega), List.getElem?_take, if_pos hij] at hc
          exact hR.can i c hc
    rintro σ H2 ⟨R, Hb, os, v5, v6, v8, v9, v10, v11, v13, v14, v15, v16, v17, v18, hI, kbB, BB, nR, rfl⟩
    have hpB := tup_but kbB B0 hp
    have haB := tup_but kbB B0 ha
    have hlB := kbB _ _ hl lb
    have hesB : Paired (ChAt Hb) cs es := paired_imp hes fun _ _ h => ch_but kbB B0 h
    have hWB := hW.but B0 ok.w1 kbB
    have hGB := hG.but sok B0 kbB
    have sB := hI.base
    obtain ⟨kw2, hd2, hpw2⟩ := id (hWB.same sB)
    have kwl : kw2.length = W.length := (Paired.length hpw2).symm
    obtain ⟨rs0, hR0, _⟩ := id hI.ex
    have nmst : ∀ z ∈ st, isNm z = true := stds_names sok.wn hR.hin
    have stl : st.length = W.length := by rw [stds_mem hR.hin, shl]
    have zst : zq ∉ names (sh W) ∧ List.replicate W.length zq ∉ stds (sh W) := by
      refine ⟨zqn, fun hm => ?_⟩
      have h0 : (List.replicate W.length zq)[0]? = some zq := by rw [List.getElem?_replicate, if_pos (by omega)]
      have hmem := stds_at hm hq0 h0
      obtain ⟨q0', h0', e0'⟩ := sh_of ok.nd (List.mem_of_getElem? hq0)
      rw [e0'] at hmem
      exact absurd ((hM q0' h0').2 _ (srt_mem.mp hmem)) (by decide +kernel)
    refine ⟨(by show 1 ≤ sizeLine; decide), fun r1 nr1 => ⟨_, rfl, d, kw2, rfl, same_upd nr1 _ _ hd2, r1, (kw2.length : Int), [.str zq], rfl, rfl, upd_same, (by intro z; cases z), (by omega), (by omega), (by show 1 ≤ 1000; decide), fun H3 f1 s3 hf1 => ?_⟩⟩
    rw [rep_one, kwl, Int.toNat_natCast] at hf1
    have s23 := (same_upd nr1).trans s3
    have s03 := sB.trans s23
    refine ⟨_, rfl, p, _, 0, .ref a, rfl, rfl, SqT.of (s03 _ _ hpB), rfl, (by show 1 ≤ sizeLine; decide), fun r2 nr2 => ⟨a, r2, _, _, rfl, rfl, same_upd nr2 _ _ (s03 _ _ haB), upd_same, (by rw [List.length_map]; show st.length + 1 ≤ 1000; omega), fun H4 f2 s4 hf2 => ?_⟩⟩
    have s34 := (same_upd nr2).trans s4
    have s24 := s23.trans s34
    refine ⟨(by show 1 ≤ sizeLine; decide), fun r3 nr3 => ⟨_, rfl, d, kw2, rfl, same_upd nr3 _ _ (s24 _ _ hd2), r3, (kw2.length : Int), [.str zq], rfl, rfl, upd_same, (by omega), (by omega), (by rw [Int.toNat_natCast]; show 1 * kw2.length ≤ sizeLine; exact Nat.le_of_lt (small1000 (by omega))), fun f3 nf3 => ?_⟩⟩
    rw [rep_one, kwl, Int.toNat_natCast]
    have s45 := (same_upd (o := .lst [V.str (Str.ofString "zq")]) nr3).trans (same_upd (o := .lst ((List.replicate W.length zq).map V.str)) nf3)
    have hf3 := upd_same (H := upd H4 r3 (.lst [V.str (Str.ofString "zq")])) (a := f3) (o := .lst ((List.replicate W.length zq).map V.str))
    generalize (upd (upd H4 r3 (.lst [V.str (Str.ofString "zq")])) f3 (.lst ((List.replicate W.length zq).map V.str))) = H5 at s45 hf3
    have f3R : f3 ≠ R := fun z => by
      rw [z] at nf3
      rw [same_upd nr3 _ _ (s24 _ _ hR0)] at nf3
      cases nf3
    refine ⟨(by show 3 ≤ sizeLine; decide), fun lp nlp => ?_⟩
    have slp := same_upd (o := .lst [V.ref f1, V.ref f2, V.ref f3]) nlp
    have hlp := upd_same (H := H5) (a := lp) (o := .lst [V.ref f1, V.ref f2, V.ref f3])
    generalize (upd H5 lp (.lst [V.ref f1, V.ref f2, V.ref f3])) = H6 at slp hlp
    have s26 := s24.trans (s45.trans slp)
    have s06 := sB.trans s26
    refine ⟨_, rfl, _, rfl, _, rfl, p, _, 0, .ref a, rfl, rfl, SqT.of (s06 _ _ hpB), rfl, d, a, W, st, rfl, hWB.same s06, ok, s06 _ _ haB, (by omega), (by omega), nmst, fun H7 np vs fs s7 nnp hnp hts hnear => ⟨lp, np, _, vs, rfl, rfl, s7 _ _ hlp, hnp, Nat.le_of_lt (small1000 (by
      rw [← Paired.length hts]
      have := hnear.few
      show 3 + fs.length ≤ 1000
      omega)), fun cp ncp => ?_⟩⟩
    have scp := same_upd (o := .lst ([V.ref f1, V.ref f2, V.ref f3] ++ vs)) ncp
    have hcp := upd_same (H := H7) (a := cp) (o := .lst ([V.ref f1, V.ref f2, V.ref f3] ++ vs))
    have few8 : ([V.ref f1, V.ref f2, V.ref f3] ++ vs).length ≤ 103 := by
      rw [List.length_append, ← Paired.length hts]
      have := hnear.few
      show 3 + fs.length ≤ 103
      omega
    have near8 : ∀ v ∈ ([V.ref f1, V.ref f2, V.ref f3] ++ vs), NearV (sh W) R (upd H7 cp (.lst ([V.ref f1, V.ref f2, V.ref f3] ++ vs))) v := by
      have hR7 := s7 _ _ (s26 _ _ hR0)
      intro v hv
      refine NearV.same ?_ scp
      rcases List.mem_append.mp hv with hv | hv
      · rcases List.mem_cons.mp hv with rfl | hv
        · have h1 := s7 _ _ ((s34.trans (s45.trans slp)) _ _ hf1)
          exact ⟨f1, _, rfl, ne_of h1 hR7 (by intro z; cases z), .inr h1, zst.2, zqs_nm _, by rw [List.length_replicate]; omega, by rw [List.length_replicate]; omega⟩
        rcases List.mem_cons.mp hv with rfl | hv
        · have h1 := s7 _ _ ((s45.trans slp) _ _ hf2)
          rw [show st.map V.str ++ [V.str (Str.ofString "a")] = (st ++ [Str.ofString "a"]).map V.str by rw [List.map_append]; rfl] at h1
          refine ⟨f2, _, rfl, ne_of h1 hR7 (by intro z; cases z), .inr h1, fun hm => ?_, fun z hz => ?_, by rw [List.length_append]; exact Nat.le_add_left _ _, by rw [List.length_append]; show st.length + 1 ≤ 9; omega⟩
          · have := stds_mem hm
            rw [List.length_append, shl] at this
            have e1 : st.length + 1 = W.length := this
            omega
          · rcases List.mem_append.mp hz with hz | hz
            · exact nmst z hz
            · rw [List.mem_singleton.mp hz]
              decide +kernel
        · rw [List.mem_singleton.mp hv]
          have h1 := s7 _ _ (slp _ _ hf3)
          exact ⟨f3, _, rfl, f3R, .inl h1, zst.2, zqs_nm _, by rw [List.length_replicate]; omega, by rw [List.length_replicate]; omega⟩
      · obtain ⟨f, hf, pf, rfl, hpf⟩ := paired_mem hts hv
        exact ⟨pf, f, rfl, ne_of hpf hR7 (by intro z; cases z), .inr hpf, hnear.no f hf, hnear.nm f hf, hnear.n1 f hf, hnear.ln f hf⟩
    generalize ([V.ref f1, V.ref f2, V.ref f3] ++ vs) = xs8 at scp hcp few8 near8
    generalize (upd H7 cp (.lst xs8)) = H8 at scp hcp near8
    have s28 := s26.trans (s7.trans scp)
    have hI8 := hI.grow s28
    refine ⟨fun σ H' => ∃ (os : List Out) (v5 v6 v8 v9 v10 v11 v13 v14 v15 v16 v17 v18 : Option V), RowsI K (sh W) Hb R os 200 H' ∧
      σ = [some (.ref b), some (.ref g), some (.ref d), some (.ref p), some (.int (j : Int)), v5, v6, some (.str qw.1), v8, v9, v10, v11, some (.ref R), v13, v14, v15, v16, v17, v18], ?_, ?_⟩
    · refine ⟨_, rfl, cp, rfl, ⟨_, SqL.of hcp⟩, fun D nD => ?_⟩
      have sD := same_upd (o := .lst []) nD
      refine lc_it (walk_list (K := K) (a := cp) (xs := xs8)) (fun m H' => ∃ zs, H' D = some (.lst zs) ∧ (∀ v ∈ zs, Near4 (sh W) R H8 v) ∧ zs.length ≤ m ∧ Same H8 H') ⟨[], upd_same, (fun _ h => nomatch h), Nat.le_refl _, sD⟩ (fun m H' _ ⟨_, _, _, _, sx⟩ => SqL.of (sx _ _ hcp)) ?_ ?_
      · rintro m y Hz H9 hm ⟨zs, hD, hzs, hzl, s9⟩ ⟨rfl, hy⟩
        obtain ⟨av, us, rfl, nav, hav, hus⟩ := near8 y (List.mem_of_getElem? hy)
        have hav9 := hav.imp (s9 _ _) (s9 _ _)
        refine ⟨rfl, _, rfl, av, us.map V.str, rfl, hav9.imp SqL.of SqT.of, _, _, rfl, rfl, _, rfl, ?_⟩
        rw [List.length_map]
        by_cases h5 : us.length < 5
        · rw [decide_eq_true (show (us.length : Int) < 5 by omega)]
          refine iteT ⟨_, rfl, zs, hD, small1000 (by omega), zs ++ [.ref av], upd_same, fun x hx => ?_, by rw [List.length_append]; exact Nat.succ_le_succ hzl, fun r o e => ?_⟩
          · rcases List.mem_append.mp hx with hx | hx
            · exact hzs x hx
            · rw [List.mem_singleton.mp hx]
              exact ⟨av, us, rfl, nav, hav, hus.1, hus.2.1, hus.2.2.1, by omega⟩
          · rw [upd_ne (ne_of_none e nD)]
            exact s9 _ _ e
        · rw [decide_eq_false (show ¬ (us.length : Int) < 5 by omega)]
          exact iteF ⟨zs, hD, hzs, Nat.le_succ_of_le hzl, s9⟩
      rintro H9 ⟨zs, hD, hzs, hzl, s9⟩
      have DR : D ≠ R := fun z => by
        rw [z, s28 _ _ hR0] at nD
        cases nD
      refine ⟨D, rfl, ⟨_, SqL.of hD⟩, for_it (walk_list (K := K) (a := D) (xs := zs)) (fun i σ H' => ∃ (os : List Out) (v5 v6 v8 v9 v10 v11 v13 v14 v15 v16 v17 v18 : Option V), RowsI K (sh W) Hb R os (i + 1) H' ∧ But R H9 H' ∧
          σ = [some (.ref b), some (.ref g), some (.ref d), some (.ref p), some (.int (j : Int)), v5, v6, some (.str qw.1), v8, v9, v10, v11, some (.ref R), v13, v14, v15, v16, v17, v18])
        ⟨os, _, _, _, _, _, _, _, _, _, _, _, _, hI8.grow s9, But.of (Same.refl _), rfl⟩ (fun i σ H' _ ⟨_, _, _, _, _, _, _, _, _, _, _, _, _, _, kx, _⟩ => SqL.of (kx _ _ hD DR)) ?_ ?_⟩
      · rintro i x σ Hz H10 hi ⟨os, v5, v6, v8, v9, v10, v11, v13, v14, v15, v16, v17, v18, hI10, kx, rfl⟩ ⟨rfl, hx⟩
        obtain ⟨av, us, rfl, nav, hav, hno, hnm', h1, h4⟩ := hzs x (List.mem_of_getElem? hx)
        have hav10 : H10 av = some (.lst (us.map V.str)) ∨ H10 av = some (.tup (us.map V.str)) := hav.imp (fun e => kx _ _ (s9 _ _ e) nav) (fun e => kx _ _ (s9 _ _ e) nav)
        obtain ⟨rs, hR10, hrs⟩ := id hI10.ex
        have sB10 := hI10.base
        refine ⟨_, rfl, .inl ⟨rfl, _, SqL.of hR10⟩, _, rfl, _, rfl, p, _, 1, .ref l, rfl, rfl, SqT.of (sB10 _ _ hpB), rfl, (by show 2 ≤ sizeLine; decide), fun q1 nq1 => ⟨_, rfl, ?_⟩⟩
        have sq1 := same_upd (o := .tup [V.ref av, V.ref l]) nq1
        first | (unfold tNil; dsimp only) | dsimp only
        refine tup_of2 (xs := us.map V.str) ⟨av, rfl, hav10.imp (sq1 _ _) (sq1 _ _)⟩ fun H11 tp s11 htp => ⟨(by show 2 ≤ sizeLine; decide), fun q2 nq2 => ⟨(by show 2 ≤ sizeLine; decide), fun q3 nq3 => ?_⟩⟩
        have sq2 := same_upd (o := .tup [V.str (Str.ofString "standing"), V.ref tp]) nq2
        have sq3 := same_upd (o := .tup [V.ref q1, V.ref q2]) nq3
        have s1012 := sq1.trans (s11.trans (sq2.trans sq3))
        have hq1 := sq3 _ _ (sq2 _ _ (s11 _ _ (upd_same (H := H10) (a := q1) (o := .tup [V.ref av, V.ref l]))))
        have hq2 := sq3 _ _ (upd_same (H := H11) (a := q2) (o := .tup [V.str (Str.ofString "standing"), V.ref tp]))
        have hq3 := upd_same (H := upd H11 q2 (.tup [V.str (Str.ofString "standing"), V.ref tp])) (a := q3) (o := .tup [V.ref q1, V.ref q2])
        have htp' := sq3 _ _ (sq2 _ _ htp)
        generalize (upd (upd H11 q2 (.tup [V.str (Str.ofString "standing"), V.ref tp])) q3 (.tup [V.ref q1, V.ref q2])) = H12 at s1012 hq1 hq2 hq3 htp'
        have hI12 := hI10.grow s1012
        have hR12 := s1012 _ _ hR10
        have sB12 := hI12.sm
        refine ⟨R, rs, _, rfl, rfl, hR12, small1000 (by rw [← Paired.length hrs]; have := hI10.len; omega), os ++ [.stand us], _, _, _, _, _, _, _, _, _, _, _, _, hI12.push hR12 ?_, fun r o e ne => ?_, rfl⟩
        · refine ⟨q3, .ref q1, q2, rfl, del_tup hR12 hq3, ⟨cs, ⟨⟨.ref av, .ref l, es, s2_tup (del_tup hR12 hq1), ⟨av, rfl, ?_⟩, s2_lst (sB12 _ _ hlB), paired_imp hesB fun c v ⟨pc, e, h⟩ => by
            subst e
            exact s2_tup (sB12 _ _ h)⟩, hnm', h1, h4, hR.nm ok, by omega⟩, hno⟩, ⟨h4, hnm'⟩, dp_two (del_tup hR12 hq2) (.str _) (dp_tup (SqT.of (del_tup hR12 htp')))⟩
          exact hav10.imp (fun e => del_of nav (s1012 _ _ e)) (fun e => del_of nav (s1012 _ _ e))
        · rw [upd_ne ne]
          exact s1012 _ _ (kx _ _ e ne)
      · rintro σ H10 ⟨os, v5, v6, v8, v9, v10, v11, v13, v14, v15, v16, v17, v18, hI10, kx, rfl⟩
        exact ⟨os, _, _, _, _, _, _, _, _, _, _, _, _, ⟨hI10.sm, hI10.ex, by have := hI10.len; omega⟩, rfl⟩
    clear hI hI8 near8 hnear hts hcp scp few8
    rintro σ H3 ⟨os, v5, v6, v8, v9, v10, v11, v13, v14, v15, v16, v17, v18, hI3, rfl⟩
    have sB3 := hI3.base
    obtain ⟨rs3, hR3, hrs3⟩ := id hI3.ex
    have fix : OFix W st qw.1 := ⟨ok, nmst, by omega, by omega, nqw⟩
    refine ⟨_, rfl, p, _, rfl, SqT.of (sB3 _ _ hpB), rfl, _, _, rfl, _, _, rfl, rfl, ?_⟩
    refine ⟨⟨W, a, l, d, st, es, qw.1, ⟨rfl, rfl, rfl, rfl, hWB.same sB3, sB3 _ _ haB, sB3 _ _ hlB⟩, fix⟩, fun H4 xs1 s4 hx1 hl1 => ⟨Nat.le_of_lt (small1000 (by omega)), fun o1 no1 => ?_⟩⟩
    have so1 := same_upd (o := .lst xs1) no1
    have ho1 := upd_same (H := H4) (a := o1) (o := .lst xs1)
    have j1 : ∀ v ∈ xs1, JRow K (upd H4 o1 (.lst xs1)) v false := fun v hv => (hx1 v hv).same so1
    generalize (upd H4 o1 (.lst xs1)) = H5 at so1 ho1 j1
    have s35 := s4.trans so1
    have sB5 := sB3.trans s35
    refine ⟨_, rfl, ⟨W, a, l, d, st, es, qw.1, ⟨rfl, rfl, rfl, rfl, hWB.same sB5, sB5 _ _ haB, sB5 _ _ hlB⟩, fix⟩, fun H6 xs2 s6 hx2 hl2 => ⟨Nat.le_of_lt (small1000 (by omega)), fun o2 no2 => ⟨o1, o2, xs1, xs2, rfl, rfl, same_upd no2 _ _ (s6 _ _ ho1), upd_same, Nat.le_of_lt (small1000 (by omega)), fun c2 nc2 => ?_⟩⟩⟩
    have so2 := (same_upd (o := .lst xs2) no2).trans (same_upd (o := .lst (xs1 ++ xs2)) nc2)
    have hc2 := upd_same (H := upd H6 o2 (.lst xs2)) (a := c2) (o := .lst (xs1 ++ xs2))
    have j2 : ∀ v ∈ xs1 ++ xs2, JRow K (upd (upd H6 o2 (.lst xs2)) c2 (.lst (xs1 ++ xs2))) v false := fun v hv => by
      rcases List.mem_append.mp hv with hv | hv
      · exact (j1 v hv).same (s6.trans so2)
      · exact (hx2 v hv).same so2
    have l2 : (xs1 ++ xs2).length = 16 := by rw [List.length_append, hl1, hl2]
    generalize (xs1 ++ xs2) = ys2 at hc2 j2 l2 so2
    generalize (upd (upd H6 o2 (.lst xs2)) c2 (.lst ys2)) = H7 at so2 hc2 j2
    have sB7 := sB5.trans (s6.trans so2)
    refine ⟨_, rfl, ⟨W, a, l, d, st, es, qw.1, ⟨rfl, rfl, rfl, rfl, hWB.same sB7, sB7 _ _ haB, sB7 _ _ hlB⟩, fix⟩, fun H8 xs3 s8 hx3 hl3 => ⟨Nat.le_of_lt (small1000 (by omega)), fun o3 no3 => ⟨c2, o3, ys2, xs3, rfl, rfl, same_upd no3 _ _ (s8 _ _ hc2), upd_same, Nat.le_of_lt (small1000 (by omega)), fun c3 nc3 => ?_⟩⟩⟩
    have so3 := (same_upd (o := .lst xs3) no3).trans (same_upd (o := .lst (ys2 ++ xs3)) nc3)
    have hc3 := upd_same (H := upd H8 o3 (.lst xs3)) (a := c3) (o := .lst (ys2 ++ xs3))
    have j3 : ∀ v ∈ ys2 ++ xs3, JRow K (upd (upd H8 o3 (.lst xs3)) c3 (.lst (ys2 ++ xs3))) v false := fun v hv => by
      rcases List.mem_append.mp hv with hv | hv
      · exact (j2 v hv).same (s8.trans so3)
      · exact (hx3 v hv).same so3
    have l3 : (ys2 ++ xs3).length = 18 := by rw [List.length_append, l2, hl3]
    generalize (ys2 ++ xs3) = ys3 at hc3 j3 l3 so3
    generalize (upd (upd H8 o3 (.lst xs3)) c3 (.lst ys3)) = H9 at so3 hc3 j3
    have sB9 := sB7.trans (s8.trans so3)
    refine ⟨_, rfl, ⟨W, a, l, d, st, es, qw.1, ⟨rfl, rfl, rfl, rfl, hWB.same sB9, sB9 _ _ haB, sB9 _ _ hlB⟩, fix⟩, fun H10 xs4 s10 hx4 hl4 => ⟨Nat.le_of_lt (small1000 (by omega)), fun o4 no4 => ⟨c3, o4, ys3, xs4, rfl, rfl, same_upd no4 _ _ (s10 _ _ hc3), upd_same, Nat.le_of_lt (small1000 (by omega)), fun c4 nc4 => ?_⟩⟩⟩
    have so4 := (same_upd (o := .lst xs4) no4).trans (same_upd (o := .lst (ys3 ++ xs4)) nc4)
    have hc4 := upd_same (H := upd H10 o4 (.lst xs4)) (a := c4) (o := .lst (ys3 ++ xs4))
    have j4 : ∀ v ∈ ys3 ++ xs4, JRow K (upd (upd H10 o4 (.lst xs4)) c4 (.lst (ys3 ++ xs4))) v false := fun v hv => by
      rcases List.mem_append.mp hv with hv | hv
      · exact (j3 v hv).same (s10.trans so4)
      · exact (hx4 v hv).same so4
    have l4 : (ys3 ++ xs4).length = 21 := by rw [List.length_append, l3, hl4]
    generalize (ys3 ++ xs4) = ys4 at hc4 j4 l4 so4
    generalize (upd (upd H10 o4 (.lst xs4)) c4 (.lst ys4)) = H11 at so4 hc4 j4
    have s311 := s35.trans ((s6.trans so2).trans ((s8.trans so3).trans (s10.trans so4)))
    have hI11 := hI3.grow s311
    refine ⟨_, rfl, _, rfl, c4, rfl, ⟨_, SqL.of hc4⟩, fun D nD => ?_⟩
    refine lc_it (walk_list (K := K) (a := c4) (xs := ys4)) (fun m H' => ∃ os', RowsI K (sh W) H11 D os' m H') ⟨[], ⟨by rw [del_upd]; exact same_del nD (Same.refl _), ⟨[], upd_same, .nil⟩, Nat.le_refl _⟩⟩ (fun m H' _ ⟨_, h⟩ => SqL.of (h.base _ _ hc4)) ?_ ?_
    · rintro m y Hz H12 hm ⟨os', hI12⟩ ⟨rfl, hy⟩
      obtain ⟨ds, hD, hds⟩ := id hI12.ex
      refine ⟨rfl, _, rfl, (by show 2 ≤ sizeLine; decide), fun t1 nt1 => ⟨(by show 2 ≤ sizeLine; decide), fun t2 nt2 => ?_⟩⟩
      have st1 := same_upd (o := .tup [V.str (Str.ofString "wrong"), V.int 1]) nt1
      have st2 := same_upd (o := .tup [y, V.ref t1]) nt2
      have hI14 := hI12.grow (st1.trans st2)
      have hD14 := (st1.trans st2) _ _ hD
      have h1 := st2 _ _ (upd_same (H := H12) (a := t1) (o := .tup [V.str (Str.ofString "wrong"), V.int 1]))
      have h2 := upd_same (H := upd H12 t1 (.tup [V.str (Str.ofString "wrong"), V.int 1])) (a := t2) (o := .tup [y, V.ref t1])
      exact ⟨ds, hD14, small1000 (by rw [← Paired.length hds]; have := hI12.len; omega), _, hI14.push (o := .wrong) hD14 ⟨t2, y, t1, rfl, del_tup hD14 h2, JRow.same (j4 y (List.mem_of_getElem? hy)) hI14.sm, trivial, dp_two (del_tup hD14 h1) (.str _) (.int _)⟩⟩
    rintro H12 ⟨os', hI12⟩
    rw [l4] at hI12
    obtain ⟨ds, hD, hds⟩ := id hI12.ex
    have hI12' := hI11.grow hI12.base
    obtain ⟨rs, hR12, hrs⟩ := id hI12'.ex
    have l12 := hI12'.len
    have l12' := hI12.len
    refine ⟨R, D, rs, ds, rfl, rfl, hR12, hD, Nat.le_of_lt (small1000 (by rw [← Paired.length hrs, ← Paired.length hds]; omega)), fun R2 nR2 => ?_⟩
    have hI13 : RowsI K (sh W) H12 R2 (os ++ os') 221 (upd H12 R2 (.lst (rs ++ ds))) := ⟨by rw [del_upd]; exact same_del nR2 (Same.refl _), ⟨_, upd_same, by
      rw [del_upd]
      exact paired_append (paired_imp hrs fun _ _ h => (h.same (del_le _ _)).same (same_del nR2 (Same.refl _))) (paired_imp hds fun _ _ h => (h.same (del_le _ _)).same (same_del nR2 (Same.refl _)))⟩, by rw [List.length_append]; omega⟩
    have sB12 := sB3.trans (s311.trans hI12.base)
    generalize (upd H12 R2 (.lst (rs ++ ds))) = H13 at hI13
    have kbC : But b H H12 := kbB.trans (But.of sB12)
    have BC := BB.same sB12
    refine ⟨fun σ H' => ∃ (os : List Out) (v5 v6 v8 v9 v10 v11 v13 v14 v15 v16 v17 v18 : Option V), RowsI K (sh W) H12 R2 os 300 H' ∧
      σ = [some (.ref b), some (.ref g), some (.ref d), some (.ref p), some (.int (j : Int)), v5, v6, some (.str qw.1), v8, v9, v10, v11, some (.ref R2), v13, v14, v15, v16, v17, v18], ?_, ?_⟩
    · have hd13 := (sB.trans (Same.refl _))
      have sC := sB12.trans hI13.base
      obtain ⟨kw, hd, hpw⟩ := id (hWB.same sC)
      have kwl' : kw.length = W.length := (Paired.length hpw).symm
      obtain ⟨rs2, hR2, hrs2⟩ := id hI13.ex
      refine ⟨_, rfl, .inl ⟨rfl, _, SqL.of hR2⟩, (by show 1 ≤ sizeLine; decide), fun r1 nr1 => ⟨_, rfl, d, kw, rfl, same_upd nr1 _ _ hd, r1, (kw.length : Int), [.str zq], rfl, rfl, upd_same, (by intro z; cases z), (by omega), (by omega), (by show 1 ≤ 1000; decide), fun H14 f1 s14 hf1 => ?_⟩⟩
      rw [rep_one, kwl', Int.toNat_natCast] at hf1
      have s1314 := (same_upd nr1).trans s14
      refine ⟨(by show 2 ≤ sizeLine; decide), fun t1 nt1 => ⟨(by show 1 ≤ sizeLine; decide), fun l1 nl1 => ⟨(by show 2 ≤ sizeLine; decide), fun q1 nq1 => ?_⟩⟩⟩
      have st1 := same_upd (o := .tup [V.str (Str.ofString "zq"), V.str (Str.ofString "a")]) nt1
      have sl1 := same_upd (o := .lst [V.ref t1]) nl1
      have sq1 := same_upd (o := .tup [V.ref f1, V.ref l1]) nq1
      have ht1 := sq1 _ _ (sl1 _ _ (upd_same (H := H14) (a := t1) (o := .tup [V.str (Str.ofString "zq"), V.str (Str.ofString "a")])))
      have hl1' := sq1 _ _ (upd_same (H := upd H14 t1 (.tup [V.str (Str.ofString "zq"), V.str (Str.ofString "a")])) (a := l1) (o := .lst [V.ref t1]))
      have hq1 := upd_same (H := upd (upd H14 t1 (.tup [V.str (Str.ofString "zq"), V.str (Str.ofString "a")])) l1 (.lst [V.ref t1])) (a := q1) (o := .tup [V.ref f1, V.ref l1])
      have s1415 := st1.trans (sl1.trans sq1)
      have l1R : l1 ≠ R2 := fun z => by
        rw [z, st1 _ _ (s1314 _ _ hR2)] at nl1
        cases nl1
      generalize (upd (upd (upd H14 t1 (.tup [V.str (Str.ofString "zq"), V.str (Str.ofString "a")])) l1 (.lst [V.ref t1])) q1 (.tup [V.ref f1, V.ref l1])) = H15 at ht1 hl1' hq1 s1415
      have s1315 := s1314.trans s1415
      refine ⟨(by show 1 ≤ sizeLine; decide), fun r2 nr2 => ⟨_, rfl, d, kw, rfl, same_upd nr2 _ _ (s1315 _ _ hd), r2, (kw.length : Int), [.str zq], rfl, rfl, upd_same, (by intro z; cases z), (by omega), (by omega), (by show 1 ≤ 1000; decide), fun H16 f2 s16 hf2 => ⟨(by show 2 ≤ sizeLine; decide), fun q2 nq2 => ⟨(by show 2 ≤ sizeLine; decide), fun q3 nq3 => ?_⟩⟩⟩⟩
      rw [rep_one, kwl', Int.toNat_natCast] at hf2
      have sq2 := same_upd (o := .tup [V.str (Str.ofString "standing"), V.ref f2]) nq2
      have sq3 := same_upd (o := .tup [V.ref q1, V.ref q2]) nq3
      have s1517 := (same_upd nr2).trans (s16.trans (sq2.trans sq3))
      have hq2 := sq3 _ _ (upd_same (H := H16) (a := q2) (o := .tup [V.str (Str.ofString "standing"), V.ref f2]))
      have hq3 := upd_same (H := upd H16 q2 (.tup [V.str (Str.ofString "standing"), V.ref f2])) (a := q3) (o := .tup [V.ref q1, V.ref q2])
      have hf2' := sq3 _ _ (sq2 _ _ hf2)
      generalize (upd (upd H16 q2 (.tup [V.str (Str.ofString "standing"), V.ref f2])) q3 (.tup [V.ref q1, V.ref q2])) = H17 at s1517 hq2 hq3 hf2'
      have hI17 := hI13.grow (s1315.trans s1517)
      have hR17 := (s1315.trans s1517) _ _ hR2
      have hl17 := hI17.len
      refine ⟨R2, rs2, _, rfl, rfl, hR17, small1000 (by rw [← Paired.length hrs2]; omega), _, _, _, _, _, _, _, _, _, _, _, _, _, ⟨(hI17.push (o := .stand (List.replicate W.length zq)) hR17 ?_).sm, (hI17.push (o := .stand (List.replicate W.length zq)) hR17 ?_).ex, by rw [List.length_append]; show _ + 1 ≤ 300; omega⟩, rfl⟩
      all_goals exact ⟨q3, .ref q1, q2, rfl, del_tup hR17 hq3, ⟨[(zq, Str.ofString "a")], ⟨⟨.ref f1, .ref l1, [.ref t1], s2_tup (del_tup hR17 (s1517 _ _ hq1)), s2_tup (del_tup hR17 (s1517 _ _ (s1415 _ _ hf1))), s2_lst (del_of l1R (s1517 _ _ hl1')), .cons (s2_tup (del_tup hR17 (s1517 _ _ ht1))) .nil⟩, zqs_nm _, by rw [List.length_replicate]; omega, by rw [List.length_replicate]; omega, fun c hc => by
          rw [List.mem_singleton.mp hc]
          exact ⟨zq_nm, by decide +kernel⟩, by show 1 ≤ 200; decide⟩, zst.2⟩, ⟨by rw [List.length_replicate]; omega, zqs_nm _⟩, dp_two (del_tup hR17 hq2) (.str _) (dp_tup (SqT.of (del_tup hR17 hf2')))⟩
    rintro σ H14 ⟨os, v5, v6, v8, v9, v10, v11, v13, v14, v15, v16, v17, v18, hI14, rfl⟩
    have sC14 := hI14.base
    have hGC := (hGB.same sB12).same sC14
    obtain ⟨rs2, hR2, hrs2⟩ := id hI14.ex
    have hjg : ∀ {H' : Hp}, Same H14 H' → JRow K H' (.ref g) false := fun s' => by
      obtain ⟨dx, wa, l', ta, vs', kvs', hGa⟩ := id (hGC.same s')
      exact jr_flat (AnyV.ins hGa.hg cc ci) (by decide) (by decide)
    refine ⟨_, rfl, _, rfl, g, .ref g, N, sh W, γ, .wrong, rfl, hGC, sok, hjg (Same.refl _), fun H15 s15 => ⟨_, _, rfl, rfl, _, rfl, iteF ?_⟩⟩
    refine ⟨_, rfl, _, rfl, g, .ref g, 0, N, sh W, γ, .wrong, rfl, by decide, hGC.same s15, sok, hγ, hjg s15, fun H16 t s16 htr => ⟨(by show 2 ≤ sizeLine; decide), fun t2 nt2 => ?_⟩⟩
    have ht2 := tried_dp (K := K) (o := .wrong) htr trivial
    have st2 := same_upd (o := .tup [V.str (Str.ofString "wrong"), V.int 1]) nt2
    refine ⟨dOut .wrong, dOut .wrong, dp_keep (fun _ _ _ => st2 _ _) ht2, dp_two upd_same (.str _) (.int _), by decide +kernel, by decide +kernel, _, rfl, ?_⟩
    rw [show (!PyData.eqv (dOut .wrong) (dOut .wrong)) = false by decide +kernel]
    refine iteF ?_
    generalize (upd H16 t2 (.tup [V.str (Str.ofString "wrong"), V.int 1])) = H17 at st2
    have s17 := s15.trans (s16.trans st2)
    have hI17 := hI14.grow s17
    have hR17 := s17 _ _ hR2
    refine ⟨_, rfl, R2, rfl, ⟨_, SqL.of hR17⟩, for_it (walk_list (K := K) (a := R2) (xs := rs2)) (fun i σ H' => ∃ (v5 v6 v8 v9 v10 v11 v13 v14 v15 v16 v17 v18 : Option V), Same H17 H' ∧
        σ = [some (.ref b), some (.ref g), some (.ref d), some (.ref p), some (.int (j : Int)), v5, v6, some (.str qw.1), v8, v9, v10, v11, some (.ref R2), v13, v14, v15, v16, v17, v18])
      ⟨_, _, _, _, _, _, _, _, _, _, _, _, Same.refl _, rfl⟩ (fun i σ H' _ ⟨_, _, _, _, _, _, _, _, _, _, _, _, sx, _⟩ => SqL.of (sx _ _ hR17)) ?_ ?_⟩
    · rintro i x σ Hz H18 hi ⟨v5, v6, v8, v9, v10, v11, v13, v14, v15, v16, v17, v18, s18, rfl⟩ ⟨rfl, hx⟩
      obtain ⟨o, ho, q3, y, e, rfl, hq3, hwo, hnf, hdp⟩ := paired_get hrs2 hx
      have s1418 := s17.trans s18
      have sd := (del_le H14 R2).trans s1418
      refine ⟨q3, _, rfl, SqT.of (sd _ _ hq3), rfl, _, _, rfl, _, _, rfl, rfl, ?_⟩
      have rb : ringB (sh W) o = false := by
        cases o with
        | fine st' cs' => exact hnf.elim
        | _ => rfl
      refine ⟨_, rfl, _, rfl, g, y, N, sh W, γ, o, rfl, hGC.same s1418, sok, hwo.same sd, fun H19 s19 => ⟨_, _, rfl, rfl, _, rfl, ?_⟩⟩
      rw [rb]
      refine iteF ?_
      refine ⟨3, rfl, by decide, by decide, for_range (lo := 0) (n := 3) (fun m σ H' => ∃ (v9 : Option V), Same H19 H' ∧
          σ = [some (.ref b), some (.ref g), some (.ref d), some (.ref p), some (.int (j : Int)), v5, v6, some (.str qw.1), v8, v9, v10, v11, some (.ref R2), v13, v14, v15, some y, some (.ref e), v18])
        ⟨_, Same.refl _, rfl⟩ ?_ ?_⟩
      · rintro m σ H20 hm ⟨v9, s20, rfl⟩
        rw [Int.zero_add]
        have s1420 := s1418.trans (s19.trans s20)
        refine ⟨_, rfl, _, rfl, _, rfl, g, y, m, N, sh W, γ, o, rfl, by omega, hGC.same s1420, sok, hγ, hwo.same ((del_le H14 R2).trans s1420), fun H21 t s21 htr => ?_⟩
        have hdt := tried_dp (K := K) htr hnf
        first | (unfold tNil; dsimp only) | dsimp only
        refine read_sml hdt (dOut_sml hnf) (by decide) (by decide) ?_
        refine ⟨_, rfl, ?_⟩
        first | (unfold tNil; dsimp only) | dsimp only
        refine read_sml (dp_keep (fun _ _ _ => ((del_le H14 R2).trans (s1420.trans s21)) _ _) hdp) (dOut_sml hnf) (by decide) (by decide) ?_
        refine ⟨rfl, _, rfl, ?_⟩
        rw [show (!decide (V.str (dOut o).shown = V.str (dOut o).shown)) = false by rw [decide_eq_true rfl]; rfl]
        exact iteF ⟨_, s20.trans s21, rfl⟩
      · rintro σ H20 ⟨v9, s20, rfl⟩
        exact ⟨_, _, _, _, _, _, _, _, _, _, _, _, s18.trans (s19.trans s20), rfl⟩
    · rintro σ H18 ⟨v5, v6, v8, v9, v10, v11, v13, v14, v15, v16, v17, v18, s18, rfl⟩
      have sf := sC14.trans (s17.trans s18)
      exact q H18 (kbC.trans (But.of sf)) (BC.same sf)
end
end HG

namespace HG
open PySem PySem.Spec PyProof.Rows L2 HT
open C8 (pss_cut tCut)
/-! ### what is told, as data -/
def toldD (S : List Way) (γ : List Str → List Int) (st : List Str) (cs : List Ch) : PyData := .list [.tuple [.str "told", HG.dT (goes S st cs)], .tuple [.str "told", .list ((stops S st cs).map HG.dT)], .tuple [.str "told", .int (sumP S γ st cs)]]
theorem told_shaped {S : List Way} {γ : List Str → List Int} {st : List Str} {cs : List Ch} (h : ∀ x ∈ stops S st cs, ∀ z ∈ x, isNm z = true) (h2 : ∀ z ∈ goes S st cs, isNm z = true) : SeqAt.shaped (toldD S γ st cs) = true := by
  have e0 : PyData.canLay0 (.str "told") = true := by decide +kernel
  have e1 := dT_lay h2
  have e2 := layAll_dT h
  have d1 := dT_depth (goes S st cs)
  have d2 := depthAll_dT (stops S st cs)
  unfold SeqAt.shaped toldD
  rw [Bool.and_eq_true_iff, decide_eq_true_iff]
  constructor
  · simp only [PyData.canLay0, PyData.canLayAll0, e1, e2, Bool.and_true, Bool.true_and] at e0 ⊢
    simp [e0]
  · simp only [PyData.depth, PyData.depthAll, d1]
    omega
theorem changes_nm {cs : List Ch} (h : ∀ c ∈ cs, isNm c.1 = true ∧ isNm c.2 = true) : ∀ x ∈ cs.map (fun c => [c.1, c.2]), ∀ z ∈ x, isNm z = true := by
  intro x hx z hz
  obtain ⟨c, hc, rfl⟩ := List.mem_map.mp hx
  rcases List.mem_cons.mp hz with rfl | hz
  · exact (h c hc).1
  · rw [List.mem_singleton.mp hz]
    exact (h c hc).2
theorem tried_same {S : List Way} {γ : List Str → List Int} {H0 H1 H' H2 : Hp} {way : Nat} {p : Addr} {st : List Str} {cs : List Ch} (h : TriedAt S γ H0 H' way p (.fine st cs)) (f : ∀ a, H0 a = none → H1 a = none) (s : Same H' H2) : TriedAt S γ H1 H2 way p (.fine st cs) :=
  ⟨fun e => let ⟨a, h1, h2⟩ := h.1 e; ⟨a, s _ _ h1, s _ _ h2⟩, fun e => let ⟨l, vs, h1, h2, h3, h4⟩ := h.2.1 e; ⟨l, vs, s _ _ h1, f l h2, s _ _ h3, h4.same s⟩, fun e => s _ _ (h.2.2 e)⟩
/-- what is not at D is told there too -/
theorem tried_del {S : List Way} {γ : List Str → List Int} {H0 H' : Hp} {way : Nat} {p D : Addr} {xs : List V} {st : List Str} {cs : List Ch} (h : TriedAt S γ H0 H' way p (.fine st cs)) (hD : H' D = some (.lst xs)) (h0 : H0 D ≠ none) : TriedAt S γ H0 (del H' D) way p (.fine st cs) :=
  ⟨fun e => let ⟨a, h1, h2⟩ := h.1 e; ⟨a, del_tup hD h1, del_tup hD h2⟩, fun e => let ⟨l, vs, h1, h2, h3, h4⟩ := h.2.1 e; ⟨l, vs, del_tup hD h1, h2, del_of (fun z => h0 (z ▸ h2)) h3, paired_imp h4 fun _ _ ⟨a, e, h⟩ => ⟨a, e, del_tup hD h⟩⟩, fun e => del_tup hD (h.2.2 e)⟩
def spLaw (K : PySem.W.Frag) : Sp := fun vs H Q _ => ∃ (a : Addr) (ns : List Int), vs = [.ref a] ∧ SqL K H a (ns.map V.int) ∧ ns.length ≤ 63 ∧ ∀ H', Q (.bl true) H'
abbrev NsLw : List Str := ["_law_script", "_law_bag_here", "_law_turn", "_law_ways", "_law_gains_here", "_law_game", "_law_row_here", "_law_one_here", "_law_thing", "_law_due_here", "_law_shown", "_law_ring", "_law_wide", "_law_again", "_law_found", "_law_wanted", "_law_way"]
section
variable {P : Program} {w : World} {K : PySem.W.Frag} {mg : Str → Option Value} {base : Heap} {C : Addr}
variable {fShape fNames fName fSorted fStds fTable fInts fInt fOne fPut : Addr} {dShape dNames dName dSorted dStds dTable dInts dInt dOne dPut : FuncData}
variable {fT fO fN fS fW : Addr} {dT' dO dN dS dW : FuncData}
theorem ok_law {f fIn fB fLs fLg fR fTr fRf fLo fDu fBk fRw : Addr} {fd dIn dB dLs dLg dR dTr dRf dLo dDu dBk dRw : FuncData}
    (G : GD K mg fShape fNames fName fSorted fStds fTable fInts fInt fOne fPut dShape dNames dName dSorted dStds dTable dInts dInt dOne dPut) (c : GC K C) (mk : Mk K C fIn) (FIn : Fun K "__init__" "Game.__init__" s_Game___init fIn dIn) (bIn : Binds K dIn ["self", "ways", "gains"] []) (gC : mg "Game" = some (.ref C))
    (mrp : mg "repr" = none) (B : BT K mg fT fO dT' dO) (GL : GnT K mg fN fS fW dN dS dW)
    (FB : DfB K mg "_law_bag" s_law_bag ["_law_script"] fB dB) (oB : FnOk P w K mg base CX0 1 fB dB ["_law_script"] (spBag K)) (Ls : DfB K mg "_law_shape" s_law_shape ["_law_bag_here", "_law_most"] fLs dLs) (oLs : FnOk P w K mg base CX0 4 fLs dLs ["_law_bag_here", "_law_most"] (spLShape K))
    (Lg : DfB K mg "_law_gains" s_law_gains ["_law_bag_here", "_law_ways"] fLg dLg) (oLg : FnOk P w K mg base CX0 4 fLg dLg ["_law_bag_here", "_law_ways"] spLGains)
    (R : DfB K mg "is_ring" s_is_ring ["game", "thing"] fR dR) (oR : FnOk P w K mg base CX0 7 fR dR ["game", "thing"] (spRing K C)) (Tr : DfB K mg "_law_tried" s_law_tried ["_law_way", "_law_game", "_law_row_here"] fTr dTr) (oTr : FnOk P w K mg base CX0 8 fTr dTr ["_law_way", "_law_game", "_law_row_here"] (spTried K C))
    (Rf : DfB K mg "_law_refused" s_law_refused ["_law_bag_here", "_law_game", "_law_ways", "_law_row_here"] fRf dRf) (oRf : FnG P w K mg base CX0 9 fRf dRf ["_law_bag_here", "_law_game", "_law_ways", "_law_row_here"] (spRefused K C))
    (Lo : DfB K mg "_law_loose" s_law_loose ["_law_bag_here", "_law_row_here"] fLo dLo) (oLo : FnOk P w K mg base CX0 2 fLo dLo ["_law_bag_here", "_law_row_here"] spLLoose)
    (Du : DfB K mg "_law_due" s_law_due ["_law_ways", "_law_gains_here", "_law_row_here"] fDu dDu) (oDu : FnOk P w K mg base CX0 2 fDu dDu ["_law_ways", "_law_gains_here", "_law_row_here"] spLDue)
    (Bk : DfB K mg "_law_back" s_law_back ["_law_bag_here", "_law_ways", "_law_row_here"] fBk dBk) (oBk : FnOk P w K mg base CX0 3 fBk dBk ["_law_bag_here", "_law_ways", "_law_row_here"] spLBack)
    (Rw : DfB K mg "_law_row" s_law_row ["_law_bag_here", "_law_ways", "_law_many"] fRw dRw) (oRw : FnOk P w K mg base CX0 3 fRw dRw ["_law_bag_here", "_law_ways", "_law_many"] spLRow)
    (F : Fun K "law" "law" s_law f fd) : FnG P w K mg base CX0 10 f fd ["_law_script"] (spLaw K) := by
  have S : FnScope NsLw ["_law_script"] (defScope s_law) := ⟨rfl, rfl, rfl, by decide +kernel, rfl, by decide +kernel, by decide +kernel⟩
  have nd := S.nd
  refine okG F S (fun vs H Q E h => ?_) (fun cdv A outer s H vs Q E hgd hr h => ?_)
  · obtain ⟨a, ns, rfl, _⟩ := h
    rfl
  · obtain ⟨a, ns, rfl, ha, hl, q⟩ := h
    have hu := hu_of hr
    have hu64 := hr.units
    have oT := ok_take (P := P) (w := w) (base := base) B.T B.ml B.mi
    have oInit := ok_init (P := P) (w := w) (base := base) G c FIn
    refine ⟨_, pss_cons (ps_set (i := 1) nd rfl (Or.inl rfl) (pe_call oB (hr.mono (by decide)) (by rfl) FB.d.g FB.d.F.kp FB.b .nil pass0 (pa_cons (pv 0) pa_nil)))
      (pss_cons (ps_for PassesOwn.never rfl (pi_range1 rfl GL.m_range (pa_cons pe_int pa_nil)) (pg_name (i := 2) nd rfl (Or.inl rfl))
      (pss_cons (ps_set (i := 3) nd rfl (Or.inl rfl) (pe_call oLs (hr.mono (by decide)) (by rfl) Ls.d.g Ls.d.F.kp Ls.b .nil pass0 (pa_cons (pv 1) (pa_cons (pe_ix ix_list (pe_lst (pa_ints (is := [12, 27, 27, 81]) (by decide +kernel))) (pv 2) (fun _ _ => rfl)) pa_nil))))
      (pss_cons (ps_set (i := 4) nd rfl (Or.inl rfl) (pe_call oLg (hr.mono (by decide)) (by rfl) Lg.d.g Lg.d.F.kp Lg.b .nil pass0 (pa_cons (pv 1) (pa_cons (pv 3) pa_nil))))
      (pss_cons (ps_set (i := 5) nd rfl (Or.inr rfl) (pe_make mk oInit (hr.mono (by decide)) (by rfl) gC bIn .nil pass0 (pa_cons (pv 3) (pa_cons (pv 4) pa_nil))))
      (pss_cons (ps_set (i := 6) nd rfl (Or.inl rfl) (pe_call oRw (hr.mono (by decide)) (by rfl) Rw.d.g Rw.d.F.kp Rw.b .nil pass0 (pa_cons (pv 1) (pa_cons (pv 3) (pa_cons (pe_ix ix_list (pe_lst (pa_cons pe_int (pa_cons pe_int (pa_cons pe_int (pa_cons (pe_call oT (hr.mono (by decide)) (by rfl) B.gT B.T.kp B.bT .nil pass0 (pa_cons (pv 1) (pa_cons pe_int pa_nil))) (pa_cons pe_int pa_nil)))))) (pe_call oT (hr.mono (by decide)) (by rfl) B.gT B.T.kp B.bT .nil pass0 (pa_cons (pv 1) (pa_cons pe_int pa_nil))) (fun _ _ => rfl)) pa_nil)))))
      (pss_cut (ps_for PassesOwn.never rfl (pi_tup (pe_tup (pa_cons (pv 6) (pa_cons (pe_call oBk (hr.mono (by decide)) (by rfl) Bk.d.g Bk.d.F.kp Bk.b .nil pass0 (pa_cons (pv 1) (pa_cons (pv 3) (pa_cons (pv 6) pa_nil)))) pa_nil)))) (pg_name (i := 7) nd rfl (Or.inl rfl))
      (pss_cons (ps_asg (pe_tup (pa_cons (pe_call oLo (hr.mono (by decide)) (by rfl) Lo.d.g Lo.d.F.kp Lo.b .nil pass0 (pa_cons (pv 1) (pa_cons (pv 7) pa_nil))) (pa_cons (pe_call oDu (hr.mono (by decide)) (by rfl) Du.d.g Du.d.F.kp Du.b .nil pass0 (pa_cons (pv 3) (pa_cons (pv 4) (pa_cons (pv 7) pa_nil)))) pa_nil))) (pg_tup rfl (pgs_cons (pg_name (i := 8) nd rfl (Or.inr rfl)) (pgs_cons (pg_name (i := 9) nd rfl (Or.inl rfl)) pgs_nil))))
      (pss_cons (ps_set (i := 10) nd rfl (Or.inl rfl) (pe_callB (call_reprD hgd hu64) (by rfl) mrp (by decide +kernel) (pa_cons (pv 8) pa_nil)))
      (pss_cut (ps_set (i := 11) nd rfl (Or.inl rfl) (pe_and (pe_cmpR (op_neD hu64) (pe_ix ix_tup (pv 7) pe_int (fun _ _ => rfl)) (pe_lst pa_nil) (nomark _)) (pe_one (pe_cmpR (op_eqD hu64) (pe_ix ix_list (pe_ix ix_tup (pv 9) pe_int (fun _ _ => rfl)) (pe_un un_neg pe_int) (fun _ _ => rfl)) (pe_ix ix_tup (pv 7) pe_int (fun _ _ => rfl)) (nomark _)))))
      (pss_cut (ps_if (pt_val (pv 11)) (pss_cons (ps_set (i := 12) nd rfl (Or.inl rfl) (pe_tup (pa_cons (pe_ix ix_tup (pv 7) pe_int (fun _ _ => rfl)) (pa_cons (pe_op op_rep (pe_ix ix_tup (pv 7) pe_int (fun _ _ => rfl)) (pe_op op_add pe_int (pe_op op_fdiv pe_int (pe_callB call_len_seq (by rfl) B.ml PySem.boot_len (pa_cons (pe_ix ix_tup (pv 7) pe_int (fun _ _ => rfl)) pa_nil))))) pa_nil))))
      (pss_one (ps_if (PW.pt (pw_or (pt_cmpR op_isnot_bl (pe_call oR (hr.mono (by decide)) (by rfl) R.d.g R.d.F.kp R.b .nil pass0 (pa_cons (pv 5) (pa_cons (pv 12) pa_nil))) pe_bl (by rfl)) (pw_or1 (pt_cmpR (op_neD hu64) (pe_call oTr (hr.mono (by decide)) (by rfl) Tr.d.g Tr.d.F.kp Tr.b .nil pass0 (pa_cons pe_int (pa_cons (pv 5) (pa_cons (pv 12) pa_nil)))) (pe_tup (pa_cons pe_str (pa_cons pe_int pa_nil))) (nomark _))))) pss_never pss_nil))) pss_nil)
      (pss_one (ps_for PassesOwn.never rfl (pi_range1 rfl GL.m_range (pa_cons pe_int pa_nil)) (pg_name (i := 13) nd rfl (Or.inl rfl))
      (pss_cons (ps_setLc (i := 14) (own := [("_law_way", 16)]) (g := gName 16) (tt := tYes) rfl nd rfl rfl (sw_true rfl rfl rfl (by decide +kernel)) (pi_range1 rfl GL.m_range (pa_cons pe_int pa_nil)) (blkOk_by (N := NsLw) (sc := defScope s_law) (by decide +kernel)) (fun _ _ _ _ _ => pg_name (i := 16) nd rfl (Or.inl rfl)) (fun _ _ _ _ _ => pts_nil) (fun _ _ _ _ _ => (pe_call oTr (hr.mono (by decide)) (by rfl) Tr.d.g Tr.d.F.kp Tr.b .nil pass0 (pa_cons (pv 16) (pa_cons (pv 5) (pa_cons (pv 8) pa_nil))))))
      (pss_cons (ps_set (i := 15) nd rfl (Or.inl rfl) (pe_lst (pa_cons (pe_tup (pa_cons pe_str (pa_cons (pe_ix ix_list (pe_ix ix_tup (pv 9) pe_int (fun _ _ => rfl)) (pe_un un_neg pe_int) (fun _ _ => rfl)) pa_nil))) (pa_cons (pe_tup (pa_cons pe_str (pa_cons (pe_ix ix_tup (pv 9) pe_int (fun _ _ => rfl)) pa_nil))) (pa_cons (pe_tup (pa_cons pe_str (pa_cons (pe_ix ix_tup (pv 9) pe_int (fun _ _ => rfl)) pa_nil))) pa_nil)))))
      (pss_cons (ps_if (PW.pt (pw_or (pt_cmpR (op_neD hu64) (pv 14) (pv 15) (nomark _)) (pw_or1 (pt_cmpR op_ne (pe_callB (call_reprD hgd hu64) (by rfl) mrp (by decide +kernel) (pa_cons (pv 8) pa_nil)) (pv 10) (nomark _))))) pss_never pss_nil)
      (pss_cons (ps_expr (pe_bm PySem.F.plainAttrs_list PySem.F.slot_list_append PySem.F.type_list_append mt_append (pe_ix ix_tup (pe_ix ix_list (pv 14) pe_int (fun _ _ => rfl)) pe_int (fun _ _ => rfl)) (pa_cons pe_non pa_nil)))
      (pss_one (ps_if (pt_cmpR op_ne (pe_callB call_reprB (by rfl) mrp (by decide +kernel) (pa_cons (pe_call oR (hr.mono (by decide)) (by rfl) R.d.g R.d.F.kp R.b .nil pass0 (pa_cons (pv 5) (pa_cons (pv 8) pa_nil))) pa_nil)) (pe_callB call_reprB (by rfl) mrp (by decide +kernel) (pa_cons (pv 11) pa_nil)) (nomark _)) pss_never pss_nil)))))))))))))
      (pss_one (ps_if (pt_not (pt_val (pe_callG oRf hgd hr (by rfl) Rf.d.g Rf.d.F.kp Rf.b .nil pass0 (pa_cons (pv 1) (pa_cons (pv 5) (pa_cons (pv 3) (pa_cons (pv 6) pa_nil))))))) pss_never pss_nil))))))))
      (pss_one (ps_ret pe_bl))), ?_⟩
    refine ⟨_, rfl, a, ns, rfl, ha, by omega, fun H1 b k ns' s1 B1 nb nk => ?_⟩
    refine ⟨4, rfl, by decide, by decide, for_range (lo := 0) (n := 4) (fun i σ H' => ∃ v2 v3 v4 v5 v6 v7 v8 v9 v10 v11 v12 v13 v14 v15 v16, σ = [some (.ref a), some (.ref b), v2, v3, v4, v5, v6, v7, v8, v9, v10, v11, v12, v13, v14, v15, v16] ∧ ABag H' b k ns') ⟨_, _, _, _, _, _, _, _, _, _, _, _, _, _, _, rfl, B1⟩ ?_ ?_⟩
    · rintro i σ H2 hi ⟨v2, v3, v4, v5, v6, v7, v8, v9, v10, v11, v12, v13, v14, v15, v16, rfl, B2⟩
      rw [Int.zero_add]
      obtain ⟨m, hm, m4, m81⟩ : ∃ m, ([12, 27, 27, 81] : List Int)[i]? = some m ∧ 4 ≤ m ∧ m ≤ 81 := by
        rcases i with _ | _ | _ | _ | i
        · exact ⟨12, rfl, by decide, by decide⟩
        · exact ⟨27, rfl, by decide, by decide⟩
        · exact ⟨27, rfl, by decide, by decide⟩
        · exact ⟨81, rfl, by decide, by decide⟩
        · omega
      refine ⟨_, rfl, (by show 4 ≤ sizeLine; decide), fun lp nlp => ?_⟩
      have slp := same_upd (o := .lst (([12, 27, 27, 81] : List Int).map V.int)) nlp
      refine ⟨_, rfl, lp, _, _, _, rfl, rfl, SqL.of upd_same, atI_nat (j := i) (by rw [List.getElem?_map, hm]; rfl), b, k, ns', m, rfl, B2.same slp, m4, m81, fun H3 d W kb3 B3 nd3 hW0 ok _ hMW => ?_⟩
      have hW3 : ShL (fun _ => True) H3 d W := by
        obtain ⟨kw, h, p⟩ := hW0
        exact ⟨kw, h, paired_imp p fun q kv ⟨e, c, ev, _, h⟩ => ⟨e, c, ev, trivial, h⟩⟩
      have sok := ok.sok
      have n4 := ok.n4
      have shl : (sh W).length = W.length := sh_len W
      refine ⟨_, rfl, _, rfl, b, k, d, ns', W, rfl, B3, hW3, ok, fun H4 gd kvs es sts kb4 B4 ngd hg4 he4 hperm hrows => ?_⟩
      have hW4 := hW3.but B3 ok.w1 kb4
      have hnd : sts.Nodup := hperm.nodup_iff.mpr (stds_nd sok.wd)
      have ekn : (es.map (·.1)).Nodup := by rw [hrows.ks]; exact hnd
      have gn4 : GnAt H4 gd W (rowOf es) := ⟨kvs, hg4, fun st hst => by
        obtain ⟨e, hem, rfl, c, hv, hc⟩ := row_at he4 (by rw [hrows.ks]; exact hperm.mem_iff.mpr hst)
        rw [rowOf_of ekn hem]
        exact ⟨hrows.len e hem, c, hv, hc⟩⟩
      have hγ : GLen (sh W) (rowOf es) := fun st hst => by
        obtain ⟨_, _, h⟩ := gn4
        rw [(h st hst).1, shl]
      have kvl : kvs.length = (stds (sh W)).length := by
        rw [← Paired.length he4, ← List.length_map (f := (·.1)), hrows.ks, hperm.length_eq]
      -- the game
      refine ⟨_, rfl, _, rfl, fun x dx nx ndx nxd => ?_⟩
      have s5 : Same H4 (upd (upd H4 dx (.own x)) x (.ins C dx [])) := fun c o e => by
        rw [upd_ne (ne_of_none e nx), upd_ne (ne_of_none e ndx)]
        exact e
      have hx5 : (upd (upd H4 dx (.own x)) x (.ins C dx [])) x = some (.ins C dx []) := upd_same
      generalize (upd (upd H4 dx (.own x)) x (.ins C dx [])) = H5 at s5 hx5
      have tab : TabAt K H5 gd (stds (sh W)) W.length (rowOf es) := ⟨kvs, s5 _ _ hg4, kvl, fun st hst => by
        obtain ⟨kvs', hg', h⟩ := gn4
        rw [hg4] at hg'
        cases hg'
        obtain ⟨h1, c, h2, h3⟩ := h st hst
        exact ⟨h1, .ref c, h2, .tup (SqT.of (s5 _ _ h3)) (AnyV.tup (s5 _ _ h3))⟩⟩
      refine ⟨x, d, gd, dx, W, rowOf es, rfl, hx5, (hW4.same s5).at, ok, tab, fun H6 w' l' t' vs' kvs' sx hG => ⟨rfl, ?_⟩⟩
      have s46 : Same H4 H6 := fun c o e => sx c o (ne_of_none e nx) (s5 _ _ e)
      have hG6 : IsG K C (fun a => H5 a = none ∨ a = x) H6 x (sh W) (rowOf es) := ⟨dx, w', l', t', vs', kvs', hG⟩
      have B6 := B4.same s46
      have hW6 := hW4.same s46
      have gn6 := gn4.same s46
      generalize (fun a => H5 a = none ∨ a = x) = N at hG6
      generalize rowOf es = γ at hγ gn6 hG6
      clear hG sx tab s5 hx5 gn4 he4 hg4 hrows ekn hperm kvl
      -- a row
      refine ⟨_, rfl, _, rfl, _, rfl, b, k, ns', 31, rfl, B6, (by decide), (by decide), fun H7 d1 kb7 B7 d10 d31 => ⟨(by show 5 ≤ sizeLine; decide), fun lp2 nlp2 => ?_⟩⟩
      obtain ⟨e1, rfl⟩ := Int.eq_ofNat_of_zero_le d10
      have slp2 := same_upd (o := .lst [V.int 0, V.int 1, V.int 4, V.int (e1 : Int), V.int 196]) nlp2
      have hlp2 := upd_same (H := H7) (a := lp2) (o := .lst [V.int 0, V.int 1, V.int 4, V.int (e1 : Int), V.int 196])
      have lp2b : lp2 ≠ b := abag_not B7 nlp2
      refine ⟨_, rfl, b, k, ns', 5, rfl, B7.same slp2, (by decide), (by decide), fun H8 d2 kb8 B8 d20 d25 => ?_⟩
      obtain ⟨e2, rfl⟩ := Int.eq_ofNat_of_zero_le d20
      obtain ⟨mR, hmR, mR6⟩ : ∃ mR : Nat, ([V.int 0, V.int 1, V.int 4, V.int (e1 : Int), V.int 196] : List V)[e2]? = some (.int (mR : Int)) ∧ mR ≤ 196 := by
        rcases e2 with _ | _ | _ | _ | _ | e2
        · exact ⟨0, rfl, by decide⟩
        · exact ⟨1, rfl, by decide⟩
        · exact ⟨4, rfl, by decide⟩
        · exact ⟨e1, rfl, by omega⟩
        · exact ⟨196, rfl, by decide⟩
        · omega
      have kb68 : But b H6 H8 := kb7.trans ((But.of slp2).trans kb8)
      refine ⟨lp2, _, _, _, rfl, rfl, SqL.of (kb8 _ _ hlp2 lp2b), atI_nat hmR, b, k, d, ns', W, mR, rfl, B8, hW6.but B6 ok.w1 kb68, ok, mR6, fun H9 p st cs kb89 B9 hR hlen => ?_⟩
      have kb69 := kb68.trans kb89
      have hW9 := hW6.but B6 ok.w1 kb69
      have gn9 := gn6.but B6 kb69
      have hG9 := hG6.but sok B6 kb69
      refine ⟨fun σ H' => ∃ v7 v8 v9 v10 v11 v12 v13 v14 v15 v16, But b H9 H' ∧ ABag H' b k ns' ∧ σ = [some (.ref a), some (.ref b), some (.int (i : Int)), some (.ref d), some (.ref gd), some (.ref x), some (.ref p), v7, v8, v9, v10, v11, v12, v13, v14, v15, v16], ?_, ?_⟩
      · refine ⟨_, rfl, _, rfl, _, rfl, _, rfl, b, k, d, p, ns', W, st, cs, rfl, B9, hW9, ok, hR, by omega, fun H10 p2 cs2 kb10 B10 hR2 => ⟨(by show 2 ≤ sizeLine; decide), fun T nT => ?_⟩⟩
        have sT := same_upd (o := .tup [V.ref p, V.ref p2]) nT
        have hT := upd_same (H := H10) (a := T) (o := .tup [V.ref p, V.ref p2])
        have hRa := (hR.but kb10 B9).same sT
        have hRb := hR2.same sT
        have B11 := B10.same sT
        have kb11 := kb10.trans (But.of sT)
        generalize (upd H10 T (.tup [V.ref p, V.ref p2])) = H11 at sT hT hRa hRb B11 kb11
        have hW11 := hW9.but B9 ok.w1 kb11
        have gn11 := gn9.but B9 kb11
        have hG11 := hG9.but sok B9 kb11
        refine ⟨T, rfl, ⟨_, SqT.of hT⟩, for_it (walk_tup (K := K) (a := T) (xs := [V.ref p, V.ref p2])) (fun j σ H' => ∃ v7 v8 v9 v10 v11 v12 v13 v14 v15 v16, But b H11 H' ∧ ABag H' b k ns' ∧ σ = [some (.ref a), some (.ref b), some (.int (i : Int)), some (.ref d), some (.ref gd), some (.ref x), some (.ref p), v7, v8, v9, v10, v11, v12, v13, v14, v15, v16])
          ⟨_, _, _, _, _, _, _, _, _, _, But.of (Same.refl _), B11, rfl⟩ (fun j σ H' _ ⟨_, _, _, _, _, _, _, _, _, _, kx, _, _⟩ => SqT.of (tup_but kx B11 hT)) ?_ ?_⟩
        · rintro j y σ Hz H12 hj ⟨v7, v8, v9, v10, v11, v12, v13, v14, v15, v16, kb12, B12, rfl⟩ ⟨rfl, hy⟩
          obtain ⟨p1, cs1, rfl, hR1⟩ : ∃ p1 cs1, y = V.ref p1 ∧ LRow H11 W b p1 st cs1 := by
            rcases j with _ | _ | j
            · cases hy
              exact ⟨_, _, rfl, hRa⟩
            · cases hy
              exact ⟨_, _, rfl, hRb⟩
            · exact absurd hj (by show ¬ j + 2 < 2; omega)
          have hR12 := hR1.but kb12 B11
          refine ⟨_, rfl, _, rfl, b, k, p1, ns', W, st, cs1, rfl, B12, ok, hR12, fun H13 th kb13 B13 hrow => ?_⟩
          have kb1113 := kb12.trans kb13
          have hR13 := hR1.but kb1113 B11
          refine ⟨_, rfl, _, rfl, _, rfl, d, gd, b, p1, W, γ, st, cs1, rfl, hW11.but B11 ok.w1 kb1113, ok, gn11.but B11 kb1113, hR13, fun H14 p4 f vs s14 hp4 nf hf hts => ⟨(by show 2 ≤ sizeLine; decide), fun T2 nT2 => ⟨T2, _, rfl, SqT.of upd_same, rfl, _, _, rfl, _, _, rfl, rfl, ?_⟩⟩⟩
          have sT2 := same_upd (o := .tup [th, V.ref p4]) nT2
          have s1315 := s14.trans sT2
          have hrow15 := hrow.same s1315
          have hR15 := hR13.same s1315
          have hp15 := sT2 _ _ hp4
          have hf15 := sT2 _ _ hf
          have hts15 := hts.same sT2
          have B15 := B13.same s1315
          have kb15 := kb1113.trans (But.of s1315)
          generalize (upd H14 T2 (.tup [th, V.ref p4])) = H15 at sT2 s1315 hrow15 hR15 hp15 hf15 hts15 B15 kb15
          have hG15 := hG11.but sok B11 kb15
          obtain ⟨ath, dth, rfl, hdth, sdth⟩ := hrow15.data (K := K)
          obtain ⟨a1, l1, es1, hp1, ha1, hl1, lb1, hes1⟩ := hR15.ex
          have ec1 : es1.length = cs1.length := (Paired.length hes1).symm
          have cl1 := hR15.len
          have cin : ∀ i, i ≤ cs1.length → goes (sh W) st (cs1.take i) ∈ stds (sh W) := fun i hi => goes_in sok hR15.hin hi fun k c _ => hR15.can k c
          have gin : goes (sh W) st cs1 ∈ stds (sh W) := by
            have := cin cs1.length (Nat.le_refl _)
            rwa [List.take_length] at this
          have vl : vs.length = cs1.length + 1 := by rw [← Paired.length hts15, stops_len]
          obtain ⟨cl, hcl, hclt⟩ : ∃ cl, vs[cs1.length]? = some (.ref cl) ∧ H15 cl = some (.tup ((goes (sh W) st cs1).map V.str)) := by
            have hv : vs[cs1.length]? = some (vs[cs1.length]'(by omega)) := List.getElem?_eq_getElem _
            obtain ⟨su, hsu, cc, ev, hh⟩ := paired_get hts15 hv
            rw [stops_at (Nat.le_refl _), List.take_length] at hsu
            cases hsu
            exact ⟨cc, by rw [hv, ev], hh⟩
          have hlast := atI_fin vl hcl
          refine ⟨_, rfl, ?_⟩
          first | (unfold tNil; dsimp only) | dsimp only
          refine read_sml hdth sdth (by decide) (by decide) ?_
          refine ⟨fun σ H' => ∃ v12 v13 v14 v15 v16, Same H15 H' ∧ σ = [some (.ref a), some (.ref b), some (.int (i : Int)), some (.ref d), some (.ref gd), some (.ref x), some (.ref p), some (.ref p1), some (.ref ath), some (.ref p4), some (.str dth.shown), some (.bl (ringB (sh W) (.fine st cs1))), v12, v13, v14, v15, v16], ?_, ?_⟩
          · refine ⟨_, rfl, p1, _, 1, .ref l1, rfl, rfl, SqT.of hp1, rfl, (by show 0 ≤ sizeLine; decide), fun e0 ne0 => ?_⟩
            have s16 := same_upd (o := .lst []) ne0
            refine ⟨_, _, .lst (SqL.of (s16 _ _ hl1)) (dp_tups ((chs_tups hes1).same s16)), .lst (SqL.of upd_same) .nil, tups_shaped (changes_nm (hR15.nm ok)), rfl, _, rfl, ?_⟩
            rw [eqv_empty]
            by_cases hc0 : cs1 = []
            · have rb : ringB (sh W) (.fine st cs1) = false := by
                rw [hc0]
                rfl
              rw [show (!decide ((cs1.map fun c => [c.1, c.2]).map HG.dT = [])) = false by rw [hc0]; rfl]
              exact iteF ⟨v12, v13, v14, v15, v16, s16, by rw [rb]; rfl⟩
            · have rb : ringB (sh W) (.fine st cs1) = decide (goes (sh W) st cs1 = st) := by
                show (decide (cs1 ≠ []) && decide (st = goes (sh W) st cs1)) = _
                rw [decide_eq_true hc0, Bool.true_and]
                exact decide_eq_decide.mpr eq_comm
              rw [show (!decide ((cs1.map fun c => [c.1, c.2]).map HG.dT = [])) = true by
                rw [decide_eq_false]
                · rfl
                · intro z
                  rw [List.map_eq_nil_iff, List.map_eq_nil_iff] at z
                  exact hc0 z]
              refine iteT ⟨_, rfl, p4, _, 0, .ref f, rfl, rfl, SqT.of (s16 _ _ hp15), rfl, _, rfl, f, vs, -1, .ref cl, rfl, rfl, SqL.of (s16 _ _ hf15), hlast, _, rfl, p1, _, 0, .ref a1, rfl, rfl, SqT.of (s16 _ _ hp1), rfl, _, _, dp_tup (SqT.of (s16 _ _ hclt)), dp_tup (SqT.of (s16 _ _ ha1)), dT_shaped (stds_names sok.wn gin), dT_shaped (stds_names sok.wn hR15.hin), ?_⟩
              rw [dT_eqv]
              exact ⟨v12, v13, v14, v15, v16, s16, by rw [rb]; rfl⟩
          rintro σ H16 ⟨v12, v13, v14, v15, v16, s16, rfl⟩
          have nmst : ∀ z ∈ st, isNm z = true := stds_names sok.wn hR15.hin
          have stl : st.length = W.length := by rw [stds_mem hR15.hin, shl]
          have n1 := ok.n1
          refine ⟨fun σ H' => ∃ v12 v13 v14 v15 v16, Same H15 H' ∧ σ = [some (.ref a), some (.ref b), some (.int (i : Int)), some (.ref d), some (.ref gd), some (.ref x), some (.ref p), some (.ref p1), some (.ref ath), some (.ref p4), some (.str dth.shown), some (.bl (ringB (sh W) (.fine st cs1))), v12, v13, v14, v15, v16], ?_, ?_⟩
          · refine ⟨_, rfl, _, rfl, ?_⟩
            cases hrb : ringB (sh W) (.fine st cs1) with
            | false => exact iteF ⟨v12, v13, v14, v15, v16, s16, rfl⟩
            | true =>
              have hc0 : 1 ≤ es1.length := by
                rw [ec1]
                refine Nat.pos_of_ne_zero fun z => ?_
                rw [List.length_eq_zero_iff] at z
                rw [z] at hrb
                exact absurd hrb (by show ¬ (false = true); decide)
              have el2 : es1.length ≤ 200 := by omega
              refine iteT ⟨_, rfl, p1, _, 0, .ref a1, rfl, rfl, SqT.of (s16 _ _ hp1), rfl, _, rfl, p1, _, 1, .ref l1, rfl, rfl, SqT.of (s16 _ _ hp1), rfl, _, rfl, p1, _, 1, .ref l1, rfl, rfl, SqT.of (s16 _ _ hp1), rfl, l1, es1, rfl, .inl (SqL.of (s16 _ _ hl1)), _, _, rfl, rfl, ⟨by omega, by omega⟩, _, _, rfl, rfl, ?_⟩
              have hk : (1 : Int) + 200 / (es1.length : Int) = ((1 + 200 / es1.length : Nat) : Int) := by
                rw [Int.natCast_add, Int.natCast_ediv]
                rfl
              dsimp only
              rw [hk]
              have t1 := Nat.div_mul_le_self 200 es1.length
              have t2 := Nat.lt_mul_div_succ 200 (show 0 < es1.length by omega)
              have t3 : 200 / es1.length ≤ 200 := Nat.div_le_self _ _
              have t4 : es1.length * (200 / es1.length + 1) = 200 / es1.length * es1.length + es1.length := by rw [Nat.mul_add, Nat.mul_one, Nat.mul_comm]
              have t5 : es1.length * (1 + 200 / es1.length) = 200 / es1.length * es1.length + es1.length := by rw [Nat.add_comm 1, t4]
              have t6 : 1 + 200 / es1.length ≤ 201 := by omega
              have t7 : 200 < es1.length * (1 + 200 / es1.length) := by rw [Nat.add_comm 1]; exact t2
              clear hk t4
              generalize (1 + 200 / es1.length) = kk at t5 t6 t7 ⊢
              refine ⟨l1, _, es1, rfl, rfl, s16 _ _ hl1, by omega, by omega, by rw [Int.toNat_natCast, t5]; exact Nat.le_of_lt (small1000 (by omega)), fun wl nwl => ⟨(by show 2 ≤ sizeLine; decide), fun wp nwp => ?_⟩⟩
              rw [Int.toNat_natCast] at nwp ⊢
              have swl := same_upd (o := .lst (List.replicate kk es1).flatten) nwl
              have hwl := upd_same (H := H16) (a := wl) (o := .lst (List.replicate kk es1).flatten)
              have lwl : (List.replicate kk es1).flatten.length = es1.length * kk := by
                rw [List.length_flatten, List.map_replicate, List.sum_replicate_nat, Nat.mul_comm]
              generalize (List.replicate kk es1).flatten = ys at swl hwl lwl nwp
              have swp := same_upd (o := .tup [V.ref a1, V.ref wl]) nwp
              have hwp := upd_same (H := upd H16 wl (.lst ys)) (a := wp) (o := .tup [V.ref a1, V.ref wl])
              have hwl' := swp _ _ hwl
              have s1617 := swl.trans swp
              generalize (upd (upd H16 wl (.lst ys)) wp (.tup [V.ref a1, V.ref wl])) = H17 at hwp hwl' s1617
              have s1517 := s16.trans s1617
              have hj : JRow K H17 (.ref wp) false := jr_rest (s2_tup hwp) (jn_yes (s2_tup (s1517 _ _ ha1)) nmst (by omega) (by omega)) (jm_long (s2_lst hwl') (by omega) (by omega))
              refine ⟨_, rfl, _, rfl, x, .ref wp, N, sh W, γ, .wrong, rfl, hG15.same s1517, sok, hj, fun H18 s18 => ⟨_, _, rfl, rfl, _, rfl, iteF ?_⟩⟩
              refine ⟨_, rfl, _, rfl, x, .ref wp, 2, N, sh W, γ, .wrong, rfl, by decide, hG15.same (s1517.trans s18), sok, hγ, hj.same s18, fun H19 t s19 htr => ⟨(by show 2 ≤ sizeLine; decide), fun t2 nt2 => ?_⟩⟩
              have ht2 := tried_dp (K := K) (o := .wrong) htr trivial
              have st2 := same_upd (o := .tup [V.str (Str.ofString "wrong"), V.int 1]) nt2
              refine ⟨dOut .wrong, dOut .wrong, dp_keep (fun _ _ _ => st2 _ _) ht2, dp_two upd_same (.str _) (.int _), by decide +kernel, by decide +kernel, _, rfl, ?_⟩
              rw [show (!PyData.eqv (dOut .wrong) (dOut .wrong)) = false by decide +kernel]
              exact iteF ⟨_, _, _, _, _, s1517.trans (s18.trans (s19.trans st2)), rfl⟩
          clear s16 H16
          rintro σ H16 ⟨v12, v13, v14, v15, v16, s16, rfl⟩
          have wfine : ∀ {H' : Hp}, Same H15 H' → WOut K H' (sh W) (.ref ath) (.fine st cs1) := fun s' => ⟨hrow15.same s', hR15.hin, hR15.can⟩
          have snm : ∀ y ∈ stops (sh W) st cs1, ∀ z ∈ y, isNm z = true := fun y hy => by
            unfold stops at hy
            obtain ⟨n, hn, rfl⟩ := List.mem_map.mp hy
            exact stds_names sok.wn (cin n (by have := List.mem_range.mp hn; omega))
          have tsh := told_shaped (γ := γ) snm (stds_names sok.wn gin)
          refine ⟨3, rfl, by decide, by decide, for_range (lo := 0) (n := 3) (fun m σ H' => ∃ v13 v14 v15, Same H16 H' ∧ σ = [some (.ref a), some (.ref b), some (.int (i : Int)), some (.ref d), some (.ref gd), some (.ref x), some (.ref p), some (.ref p1), some (.ref ath), some (.ref p4), some (.str dth.shown), some (.bl (ringB (sh W) (.fine st cs1))), v12, v13, v14, v15, v16]) ⟨_, _, _, Same.refl _, rfl⟩ ?_ ?_⟩
          · rintro m σ H17 hm ⟨v13, v14, v15, s17, rfl⟩
            have s1517 := s16.trans s17
            refine ⟨3, rfl, by decide, by decide, fun D nD => ?_⟩
            have sD := same_upd (o := .lst []) nD
            refine lc_it (walk_range (lo := 0) (n := 3)) (fun m H' => ∃ zs, H' D = some (.lst zs) ∧ Same H17 H' ∧ zs.length = m ∧ ∀ i v, zs[i]? = some v → ∃ t, v = .ref t ∧ TriedAt (sh W) γ H17 (del H' D) i t (.fine st cs1)) ⟨[], upd_same, sD, rfl, fun i v h => by cases h⟩ (fun _ _ _ _ => trivial) ?_ ?_
            · rintro m' y Hz H18 hm' ⟨zs, hD, s18, hzl, hzs⟩ ⟨rfl, rfl⟩
              refine ⟨rfl, _, rfl, _, rfl, _, rfl, x, .ref ath, m', N, sh W, γ, .fine st cs1, by show [V.int (0 + (m' : Int)), V.ref x, V.ref ath] = _; rw [Int.zero_add], by omega, hG15.same (s1517.trans s18), sok, hγ, wfine (s1517.trans s18), fun H19 t s19 htr => ⟨zs, s19 _ _ hD, small1000 (by omega), zs ++ [.ref t], upd_same, fun c o e => ?_, by rw [List.length_append, hzl]; rfl, fun j' v hv => ?_⟩⟩
              · rw [upd_ne (ne_of_none e nD)]
                exact s19 _ _ (s18 _ _ e)
              · rw [del_upd]
                rcases Nat.lt_or_ge j' zs.length with hlt | hge
                · rw [List.getElem?_append_left hlt] at hv
                  obtain ⟨t', e, h⟩ := hzs j' v hv
                  exact ⟨t', e, tried_same h (fun _ z => z) (del_up D s19)⟩
                · rw [List.getElem?_append_right hge] at hv
                  have hj0 : j' - zs.length = 0 := by
                    have := (List.getElem?_eq_some_iff.mp hv).1
                    have e1 : ([V.ref t] : List V).length = 1 := rfl
                    omega
                  rw [hj0] at hv
                  cases hv
                  have ej : j' = m' := by omega
                  subst ej
                  refine ⟨t, rfl, tried_same (tried_del htr (s19 _ _ hD) (by rw [hD]; exact Option.some_ne_none _)) (fun c z => ?_) (Same.refl _)⟩
                  cases e : H17 c with
                  | none => rfl
                  | some o =>
                    rw [s18 _ _ e] at z
                    cases z
            rintro H18 ⟨zs, hD, s18, hzl, hzs⟩
            obtain ⟨z0, z1, z2, rfl⟩ : ∃ z0 z1 z2, zs = [z0, z1, z2] := by
              match zs, hzl with
              | [z0, z1, z2], _ => exact ⟨z0, z1, z2, rfl⟩
            obtain ⟨t0, rfl, h0⟩ := hzs 0 _ rfl
            obtain ⟨t1, rfl, h1⟩ := hzs 1 _ rfl
            obtain ⟨t2, rfl, h2⟩ := hzs 2 _ rfl
            obtain ⟨g0, hg0, hg0'⟩ := h0.1 rfl
            obtain ⟨ll, lvs, hl1', nll, hll, hlt⟩ := h1.2.1 rfl
            have h2' := h2.2.2 rfl
            have L := del_le H18 D
            have s1518 := s1517.trans s18
            have hp18 := s1518 _ _ hp15
            have hf18 := s1518 _ _ hf15
            refine ⟨_, rfl, p4, _, 0, .ref f, rfl, rfl, SqT.of hp18, rfl, _, rfl, f, vs, -1, .ref cl, rfl, rfl, SqL.of hf18, hlast, (by show 2 ≤ sizeLine; decide), fun w0 nw0 => ?_⟩
            have sw0 := same_upd (o := .tup [V.str (Str.ofString "told"), V.ref cl]) nw0
            refine ⟨_, rfl, p4, _, 0, .ref f, rfl, rfl, SqT.of (sw0 _ _ hp18), rfl, (by show 2 ≤ sizeLine; decide), fun w1 nw1 => ?_⟩
            have sw1 := same_upd (o := .tup [V.str (Str.ofString "told"), V.ref f]) nw1
            refine ⟨_, rfl, p4, _, 1, .int _, rfl, rfl, SqT.of (sw1 _ _ (sw0 _ _ hp18)), rfl, (by show 2 ≤ sizeLine; decide), fun w2 nw2 => ⟨(by show 3 ≤ sizeLine; decide), fun wl nwl => ?_⟩⟩
            have sw2 := same_upd (o := .tup [V.str (Str.ofString "told"), V.int (sumP (sh W) γ st cs1)]) nw2
            have swl := same_upd (o := .lst [V.ref w0, V.ref w1, V.ref w2]) nwl
            have s1819 := sw0.trans (sw1.trans (sw2.trans swl))
            have hw0 := swl _ _ (sw2 _ _ (sw1 _ _ (upd_same (H := H18) (a := w0) (o := .tup [V.str (Str.ofString "told"), V.ref cl]))))
            have hw1 := swl _ _ (sw2 _ _ (upd_same (H := upd H18 w0 (.tup [V.str (Str.ofString "told"), V.ref cl])) (a := w1) (o := .tup [V.str (Str.ofString "told"), V.ref f])))
            have hw2 := swl _ _ (upd_same (H := upd (upd H18 w0 (.tup [V.str (Str.ofString "told"), V.ref cl])) w1 (.tup [V.str (Str.ofString "told"), V.ref f])) (a := w2) (o := .tup [V.str (Str.ofString "told"), V.int (sumP (sh W) γ st cs1)]))
            have hwl := upd_same (H := upd (upd (upd H18 w0 (.tup [V.str (Str.ofString "told"), V.ref cl])) w1 (.tup [V.str (Str.ofString "told"), V.ref f])) w2 (.tup [V.str (Str.ofString "told"), V.int (sumP (sh W) γ st cs1)])) (a := wl) (o := .lst [V.ref w0, V.ref w1, V.ref w2])
            generalize (upd (upd (upd (upd H18 w0 (.tup [V.str (Str.ofString "told"), V.ref cl])) w1 (.tup [V.str (Str.ofString "told"), V.ref f])) w2 (.tup [V.str (Str.ofString "told"), V.int (sumP (sh W) γ st cs1)])) wl (.lst [V.ref w0, V.ref w1, V.ref w2])) = H19 at s1819 hw0 hw1 hw2 hwl
            have s1519 := s1518.trans s1819
            have Ld := L.trans s1819
            refine ⟨_, rfl, _, rfl, toldD (sh W) γ st cs1, toldD (sh W) γ st cs1, ?_, ?_, tsh, tsh, _, rfl, ?_⟩
            · exact .lst (SqL.of (s1819 _ _ hD)) (.cons (dp_two (Ld _ _ hg0) (.str _) (dp_tup (SqT.of (Ld _ _ hg0')))) (.cons (dp_two (Ld _ _ hl1') (.str _) (.lst (SqL.of (Ld _ _ hll)) (dp_tups (hlt.same Ld)))) (.cons (dp_two (Ld _ _ h2') (.str _) (.int _)) .nil)))
            · exact .lst (SqL.of hwl) (.cons (dp_two hw0 (.str _) (dp_tup (SqT.of (s1519 _ _ hclt)))) (.cons (dp_two hw1 (.str _) (.lst (SqL.of (s1519 _ _ hf15)) (dp_tups (hts15.same s1519)))) (.cons (dp_two hw2 (.str _) (.int _)) .nil)))
            rw [SeqAt.eqv_refl _ (shaped_lay tsh)]
            refine iteF ⟨_, rfl, ?_⟩
            first | (unfold tNil; dsimp only) | dsimp only
            refine read_sml (dp_keep (fun _ _ _ => s1519 _ _) hdth) sdth (by decide) (by decide) ?_
            refine ⟨_, rfl, rfl, _, rfl, ?_⟩
            rw [show (!decide (V.str dth.shown = V.str dth.shown)) = false by rw [decide_eq_true rfl]; rfl]
            refine iteF ?_
            have hll19 := Ld _ _ hll
            have ll0 : ∀ {c : Addr} {o : HO}, H17 c = some o → c ≠ ll := fun e z => by
              rw [z, nll] at e
              cases e
            have lvl : lvs.length ≤ 201 := by
              rw [← Paired.length hlt, stops_len]
              omega
            refine ⟨_, rfl, D, _, 1, .ref t1, rfl, rfl, SqL.of (s1819 _ _ hD), rfl, t1, _, 1, .ref ll, rfl, rfl, SqT.of (Ld _ _ hl1'), rfl, .inl ⟨rfl, _, SqL.of hll19⟩, ll, lvs, _, rfl, rfl, hll19, small1000 (by omega), ?_⟩
            have s1720 : Same H17 (upd H19 ll (.lst (lvs ++ [V.non]))) := fun c o e => by
              rw [upd_ne (ll0 e)]
              exact s1819 _ _ (s18 _ _ e)
            generalize (upd H19 ll (.lst (lvs ++ [V.non]))) = H20 at s1720
            have s1520 := s1517.trans s1720
            refine ⟨_, rfl, _, rfl, x, .ref ath, N, sh W, γ, .fine st cs1, rfl, hG15.same s1520, sok, wfine s1520, fun H21 s21 => ⟨_, rfl, _, rfl, _, rfl, rfl, _, rfl, ?_⟩⟩
            rw [decide_eq_true rfl]
            exact iteF ⟨_, _, _, s17.trans (s1720.trans s21), rfl⟩
          · rintro σ H17 ⟨v13, v14, v15, s17, rfl⟩
            have s1517 := s16.trans s17
            exact ⟨_, _, _, _, _, _, _, _, _, _, kb15.trans (But.of s1517), B15.same s1517, rfl⟩
        · rintro σ H12 ⟨v7, v8, v9, v10, v11, v12, v13, v14, v15, v16, kb12, B12, rfl⟩
          exact ⟨_, _, _, _, _, _, _, _, _, _, kb11.trans kb12, B12, rfl⟩
      · rintro σ H10 ⟨v7, v8, v9, v10, v11, v12, v13, v14, v15, v16, kb10, B10, rfl⟩
        refine ⟨_, rfl, _, rfl, _, rfl, _, rfl, b, k, x, d, p, ns', W, st, cs, N, γ, rfl, B10, hG9.but sok B9 kb10, hγ, hW9.but B9 ok.w1 kb10, ok, hMW, hR.but kb10 B9, by omega, fun H11 kb11 B11 => ⟨_, rfl, iteF ?_⟩⟩
        exact ⟨_, _, _, _, _, _, _, _, _, _, _, _, _, _, _, rfl, B11⟩
    · rintro σ H2 ⟨v2, v3, v4, v5, v6, v7, v8, v9, v10, v11, v12, v13, v14, v15, v16, rfl, B2⟩
      exact q H2
end
end HG

namespace HG
open PySem PySem.Spec PyProof.Rows L2
/-! ### the facts of the text -/
abbrev VE4 : List Value := [.type "ValueError", .type "Exception", .type "BaseException", .type "object"]
/-- the class nm at C, under HE -/
structure CF (K : PySem.W.Frag) (nm : Str) (C HE : Addr) : Prop where
  ns : PySem.W.nsIn K mainGlobals nm = some (some (.ref C))
  lk : ∃ nm' q N bs sn sub ab col dd k0 k1 k2 k3 k5, K.lookup C = some (excClassObj nm' q C N bs (.ref HE :: VE4) true sn sub ab col dd k0 k1 k2 k3 k5 "ValueError.__new__")
  kC : PySem.W.keepIn K (.ref C) = true
  sa : PySem.W.findIn K (.ref C) "__setattr__" = some (some (.builtin "object.__setattr__"))
  ga : PySem.W.findIn K (.ref C) "__getattribute__" = some (some (.builtin "BaseException.__getattribute__"))
  gg : PySem.W.findIn K (.ref C) "__getattr__" = some none
  cl : PySem.W.findIn K (.ref C) "__class__" = some (some (.builtin "object.__class__"))
theorem CF.mk' {K : PySem.W.Frag} {nm nm' q : Str} {C HE N : Addr} {bs : List Value} {sn : List Str} {sub : List Value} {ab : Bool} {col : Option Bool} {dd : Option Addr} {k0 k1 k2 k3 k5 : Option Value}
    (ns : PySem.W.nsIn K mainGlobals nm = some (some (.ref C))) (lk : K.lookup C = some (excClassObj nm' q C N bs (.ref HE :: VE4) true sn sub ab col dd k0 k1 k2 k3 k5 "ValueError.__new__"))
    (kC : PySem.W.keepIn K (.ref C) = true) (sa : PySem.W.findIn K (.ref C) "__setattr__" = some (some (.builtin "object.__setattr__"))) (ga : PySem.W.findIn K (.ref C) "__getattribute__" = some (some (.builtin "BaseException.__getattribute__")))
    (gg : PySem.W.findIn K (.ref C) "__getattr__" = some none) (cl : PySem.W.findIn K (.ref C) "__class__" = some (some (.builtin "object.__class__"))) : CF K nm C HE := ⟨ns, ⟨_, _, _, _, _, _, _, _, _, _, _, _, _, _, lk⟩, kC, sa, ga, gg, cl⟩
section
variable {K : PySem.W.Frag} {nm : Str} {C D HE : Addr}
theorem CF.cls (F : CF K nm C HE) : ∃ cd, PySem.W.clsIn K C = some cd ∧ cd.mro = .ref C :: .ref HE :: VE4 ∧ cd.hasDict = true := by
  obtain ⟨nm', q, N, bs, sn, sub, ab, col, dd, k0, k1, k2, k3, k5, l⟩ := F.lk
  refine ⟨{ name := nm', bases := bs, mro := .ref C :: .ref HE :: VE4, ns := N, qualname := q, hasDict := true, slotNames := sn, subclasses := sub, abstract := ab, collection := col, hasDel := false }, ?_, rfl, rfl⟩
  unfold PySem.W.clsIn
  rw [l] <;> rfl
theorem CF.typ (F : CF K nm C HE) : PySem.W.typeIn K (.ref C) = some (.type "type") := by
  obtain ⟨nm', q, N, bs, sn, sub, ab, col, dd, k0, k1, k2, k3, k5, l⟩ := F.lk
  show (K.lookup C).map (·.cls) = _
  rw [l]
  rfl
theorem CF.mro (F : CF K nm C HE) (b : Value) : PySem.W.mroIn K C b = some ((Value.ref C :: Value.ref HE :: VE4).contains b) := by
  obtain ⟨cd, h, m, _⟩ := F.cls
  unfold PySem.W.mroIn
  rw [h]
  show (if cd.mro.isEmpty = true then none else some (cd.mro.contains b)) = _
  rw [m]
  rfl
theorem CF.xf (F : CF K nm C HE) : XfC K C where
  ga := F.ga
  gg := F.gg
  exC := by
    show PySem.W.mroIn K C (.type "BaseException") = some true
    rw [F.mro]
    exact congrArg some (by simp [VE4])
  hdC := by
    obtain ⟨cd, h, _, hd⟩ := F.cls
    unfold PySem.W.hasDictIn
    rw [h]
    exact hd
theorem CF.err (F : CF K nm C HE) : ErrC K C where
  xf := F.xf
  cl := by
    obtain ⟨cd, h, _⟩ := F.cls
    rw [h]
    rfl
  ha := F.cl
  hm := by
    rw [F.mro]
    exact congrArg some (by simp [VE4])
theorem CF.oex (F : CF K nm C HE) : OexC K C where
  cls := by
    obtain ⟨nm', q, N, bs, sn, sub, ab, col, dd, k0, k1, k2, k3, k5, l⟩ := F.lk
    exact ⟨nm', q, N, bs, _, sn, sub, ab, col, dd, k0, k1, k2, k3, k5, l, by rfl⟩
  sa := F.sa
  exC := F.xf.exC
  tyC := F.typ
  kC := F.kC
theorem CF.kit (F : CF K nm C HE) {nm2 : Str} (G : CF K nm2 D HE) (hD : D ≠ HE) : PySem.W.kitOne K (.ref C) (.ref D) = some (decide (C = D)) := by
  unfold PySem.W.kitOne
  by_cases h : C = D
  · subst h
    rw [if_pos (beq_self_eq_true _), decide_eq_true rfl]
  · rw [if_neg (by simpa using h), decide_eq_false h]
    have e2 : ((PySem.W.clsIn K D).isSome && PySem.W.typeIn K (.ref D) == some (.type "type")) = true := by
      rw [G.err.cl, G.typ]
      rfl
    show (if ((PySem.W.clsIn K D).isSome && PySem.W.typeIn K (.ref D) == some (.type "type")) = true then PySem.W.subIn K (.ref C) (.ref D) else none) = _
    rw [if_pos e2]
    show PySem.W.mroIn K C (.ref D) = _
    rw [F.mro]
    have h1 : ¬ D = C := fun z => h z.symm
    exact congrArg some (by simp [VE4, h1, hD])
theorem CF.kitH (F : CF K nm C HE) (c1 : (PySem.W.clsIn K HE).isSome = true) (t1 : PySem.W.typeIn K (.ref HE) = some (.type "type")) : PySem.W.kitOne K (.ref C) (.ref HE) = some true := by
  unfold PySem.W.kitOne
  by_cases h : C = HE
  · subst h
    rw [if_pos (beq_self_eq_true _)]
  · rw [if_neg (by simpa using h)]
    have e2 : ((PySem.W.clsIn K HE).isSome && PySem.W.typeIn K (.ref HE) == some (.type "type")) = true := by
      rw [c1, t1]
      rfl
    show (if ((PySem.W.clsIn K HE).isSome && PySem.W.typeIn K (.ref HE) == some (.type "type")) = true then PySem.W.subIn K (.ref C) (.ref HE) else none) = _
    rw [if_pos e2]
    show PySem.W.mroIn K C (.ref HE) = _
    rw [F.mro]
    exact congrArg some (by simp [VE4])
theorem CF.kitV (F : CF K nm C HE) : PySem.W.kitOne K (.ref C) (.type "ValueError") = some true := by
  unfold PySem.W.kitOne
  rw [if_neg (by simp)]
  show (if PySem.W.kitMeta "ValueError" = true then PySem.W.subIn K (.ref C) (.type "ValueError") else none) = _
  rw [if_pos (by decide +kernel)]
  show PySem.W.mroIn K C (.type "ValueError") = _
  rw [F.mro]
  exact congrArg some (by simp [VE4])
end
/-- an __init__ of such a class -/
structure IF (K : PySem.W.Frag) (f qual : Str) (st : Stmt) (C fI : Addr) (fd : FuncData) : Prop where
  iC : PySem.W.findIn K (.ref C) "__init__" = some (some (.ref fI))
  tI : PySem.W.typeIn K (.ref fI) = some (.type "function")
  no : PySem.W.findIn K (.ref C) f = some none
  F : Fun K "__init__" qual st fI fd
theorem IF.mk' {K : PySem.W.Frag} {f qual : Str} {st : Stmt} {C fI : Addr} {od an : Option Addr} {sl : Array (Option Value)} {oc kV dc pm cd ct : Value} (iC : PySem.W.findIn K (.ref C) "__init__" = some (some (.ref fI))) (tI : PySem.W.typeIn K (.ref fI) = some (.type "function"))
    (no : PySem.W.findIn K (.ref C) f = some none) (l : K.lookup fI = some ⟨oc, od, .func (PySem.W.fnOf "__init__" qual (defArgs st) (defBody st) (defScope st) .none kV dc pm an cd ct), sl⟩) (c : PySem.W.codeIn K cd qual = true) (k : PySem.W.keepIn K (.ref fI) = true) :
    IF K f qual st C fI (PySem.W.fnOf "__init__" qual (defArgs st) (defBody st) (defScope st) .none kV dc pm an cd ct) := ⟨iC, tI, no, fun_mk l c k⟩

structure DF (K : PySem.W.Frag) (x : Str) (st : Stmt) (f : Addr) (fd : FuncData) : Prop where
  ns : PySem.W.nsIn K mainGlobals x = some (some (.ref f))
  F : Fun K x x st f fd
theorem DF.mk' {K : PySem.W.Frag} {x : Str} {st : Stmt} {f : Addr} {od an : Option Addr} {sl : Array (Option Value)} {oc kV dc pm cd ct : Value} (ns : PySem.W.nsIn K mainGlobals x = some (some (.ref f)))
    (l : K.lookup f = some ⟨oc, od, .func (PySem.W.fnOf x x (defArgs st) (defBody st) (defScope st) .none kV dc pm an cd ct), sl⟩) (c : PySem.W.codeIn K cd x = true) (k : PySem.W.keepIn K (.ref f) = true) :
    DF K x st f (PySem.W.fnOf x x (defArgs st) (defBody st) (defScope st) .none kV dc pm an cd ct) := ⟨ns, fun_mk l c k⟩
structure MF (K : PySem.W.Frag) (C : Addr) (m q : Str) (st : Stmt) (f : Addr) (fd : FuncData) : Prop where
  me : Meth K C m f
  F : Fun K m q st f fd
theorem MF.mk' {K : PySem.W.Frag} {C : Addr} {m q : Str} {st : Stmt} {f : Addr} {od an : Option Addr} {sl : Array (Option Value)} {oc kV dc pm cd ct : Value} (a : PySem.W.findIn K (.ref C) m = some (some (.ref f))) (b : PySem.W.isFn K (.ref f) = true)
    (l : K.lookup f = some ⟨oc, od, .func (PySem.W.fnOf m q (defArgs st) (defBody st) (defScope st) .none kV dc pm an cd ct), sl⟩) (c : PySem.W.codeIn K cd q = true) (k : PySem.W.keepIn K (.ref f) = true) :
    MF K C m q st f (PySem.W.fnOf m q (defArgs st) (defBody st) (defScope st) .none kV dc pm an cd ct) := ⟨⟨a, b, k⟩, fun_mk l c k⟩
theorem kit_ref {K : PySem.W.Frag} {C : Addr} {T : String} (m : PySem.W.kitMeta T = true) (h : PySem.W.mroIn K C (.type T) = some false) : PySem.W.kitOne K (.ref C) (.type T) = some false := by
  unfold PySem.W.kitOne
  rw [if_neg (by simp)]
  show (if PySem.W.kitMeta T = true then _ else _) = _
  rw [if_pos m]
  exact h
theorem df_of {K : PySem.W.Frag} {h : Heap} {mg : Str → Option Value} {x : Str} {st : Stmt} {f : Addr} {fd : FuncData} (X : K.In h) (G : h.Ns mainGlobals mg) (d : DF K x st f fd) : Df K mg x st f fd := ⟨PySem.W.mg_of X G d.ns, d.F⟩
section
variable {K : PySem.W.Frag} {nm nm2 : Str} {C D HE : Addr}
theorem CF.exm (F : CF K nm C HE) (G : CF K nm2 D HE) (hD : D ≠ HE) : PySem.W.exmOne K (.ref C) (.ref D) = some (decide (C = D)) := by
  unfold PySem.W.exmOne
  rw [show (PySem.W.subIn K (.ref D) (.type "BaseException") == some true) = true by
    rw [show PySem.W.subIn K (.ref D) (.type "BaseException") = some true from G.xf.exC]
    rfl, if_pos rfl]
  have e2 : ((PySem.W.clsIn K D).isSome && PySem.W.typeIn K (.ref D) == some (.type "type")) = true := by
    rw [G.err.cl, G.typ]
    rfl
  show (if ((PySem.W.clsIn K D).isSome && PySem.W.typeIn K (.ref D) == some (.type "type")) = true then PySem.W.subIn K (.ref C) (.ref D) else none) = _
  rw [if_pos e2]
  show PySem.W.mroIn K C (.ref D) = _
  rw [F.mro]
  have h1 : (D = C) = (C = D) := propext eq_comm
  exact congrArg some (by simp [VE4, hD, h1])
theorem CF.exmH (F : CF K nm C HE) (c1 : (PySem.W.clsIn K HE).isSome = true) (t1 : PySem.W.typeIn K (.ref HE) = some (.type "type")) (e1 : PySem.W.mroIn K HE (.type "BaseException") = some true) : PySem.W.exmOne K (.ref C) (.ref HE) = some true := by
  unfold PySem.W.exmOne
  rw [show (PySem.W.subIn K (.ref HE) (.type "BaseException") == some true) = true by
    rw [show PySem.W.subIn K (.ref HE) (.type "BaseException") = some true from e1]
    rfl, if_pos rfl]
  have e2 : ((PySem.W.clsIn K HE).isSome && PySem.W.typeIn K (.ref HE) == some (.type "type")) = true := by
    rw [c1, t1]
    rfl
  show (if ((PySem.W.clsIn K HE).isSome && PySem.W.typeIn K (.ref HE) == some (.type "type")) = true then PySem.W.subIn K (.ref C) (.ref HE) else none) = _
  rw [if_pos e2]
  show PySem.W.mroIn K C (.ref HE) = _
  rw [F.mro]
  exact congrArg some (by simp [VE4])
theorem exm3 {K : PySem.W.Frag} {c a b d : Value} {x y z : Bool} (h1 : PySem.W.exmOne K c a = some x) (h2 : PySem.W.exmOne K c b = some y) (h3 : PySem.W.exmOne K c d = some z) (h : (x || (y || (z || false))) = true) : PySem.W.exmAny K c [a, b, d] = some true := by
  unfold PySem.W.exmAny
  unfold PySem.W.exmAny
  unfold PySem.W.exmAny
  unfold PySem.W.exmAny
  rw [h1, h2, h3]
  exact congrArg some h
end
theorem all_mk {l : PySem.W.OpenLaw} {w : World} {K : PySem.W.Frag} {h : Heap} {mg : Str → Option Value} {fa C HE CW CN CS iWa iNa iSa g0 g1 g2 g3 g4 g5 g6 g7 h0 h1 h2 h3 h4 h5 h6 h7 h8 h9 h10 h11 h12 h13 h14 h15 h16 h17 h18 h19 h20 h21 h22 h23 h24 h25 h26 h27 h28 h29 h30 h31 h32 h33 h34 h35 h36 h37 h38 : Addr} {iWd iNd iSd gd0 gd1 gd2 gd3 gd4 gd5 gd6 gd7 hd0 hd1 hd2 hd3 hd4 hd5 hd6 hd7 hd8 hd9 hd10 hd11 hd12 hd13 hd14 hd15 hd16 hd17 hd18 hd19 hd20 hd21 hd22 hd23 hd24 hd25 hd26 hd27 hd28 hd29 hd30 hd31 hd32 hd33 hd34 hd35 hd36 hd37 hd38 : FuncData} {t_MOST_LETTERS t_MOST_NAMES t_MOST_STANDINGS t_MOST_CHANGES : Tok} (X : K.In h) (G : h.Ns mainGlobals mg) (hfa : mg "law" = some (.ref fa))
    (nC : PySem.W.nsIn K mainGlobals "Game" = some (some (.ref C)))
    (cpg : PySem.W.plainGet K C Str.empty = true)
    (chd : PySem.W.hasDictIn K C = true)
    (cpo : PySem.W.plainOver K C = true)
    (csa : PySem.W.findIn K (.ref C) "__setattr__" = some (some (.builtin "object.__setattr__")))
    (fW : PySem.W.findIn K (.ref C) "way_lists" = some none)
    (fL : PySem.W.findIn K (.ref C) "standing_list" = some none)
    (fG : PySem.W.findIn K (.ref C) "gain_table" = some none)
    (iha : PySem.W.findIn K (.ref C) "__class__" = some (some (.builtin "object.__class__")))
    (ihn : PySem.W.specialIn K (.builtin "object.__class__") "__get__" = some (some (.builtin "getset_descriptor.__get__")))
    (iht : PySem.W.takesIn K (.builtin "object.__class__") = some true)
    (ihm : PySem.W.mroIn K C (.type "object") = some true)
    (mkm : PySem.W.makesIn K C = true)
    (mkk : PySem.W.keepIn K (.ref C) = true)
    (kt_str : PySem.W.mroIn K C (.type "str") = some false)
    (kt_int : PySem.W.mroIn K C (.type "int") = some false)
    (kt_bool : PySem.W.mroIn K C (.type "bool") = some false)
    (kt_list : PySem.W.mroIn K C (.type "list") = some false)
    (kt_tuple : PySem.W.mroIn K C (.type "tuple") = some false)
    (kt_dict : PySem.W.mroIn K C (.type "dict") = some false)
    (m0 : MF K C "__init__" "Game.__init__" s_Game___init g0 gd0)
    (m1 : MF K C "__contains__" "Game.__contains__" s_Game___contains g1 gd1)
    (m2 : MF K C "goal" "Game.goal" s_Game_goal g2 gd2)
    (m3 : MF K C "own" "Game.own" s_Game_own g3 gd3)
    (m4 : MF K C "has_chooser" "Game.has_chooser" s_Game_has_chooser g4 gd4)
    (m5 : MF K C "can_do" "Game.can_do" s_Game_can_do g5 gd5)
    (m6 : MF K C "seat" "Game.seat" s_Game_seat g6 gd6)
    (m7 : MF K C "check_standing" "Game.check_standing" s_Game_check_standing g7 gd7)
    (d0 : DF K "is_integer" s_is_integer h0 hd0)
    (d1 : DF K "is_name" s_is_name h1 hd1)
    (d2 : DF K "are_names" s_are_names h2 hd2)
    (d3 : DF K "is_shape" s_is_shape h3 hd3)
    (d4 : DF K "is_change" s_is_change h4 hd4)
    (d5 : DF K "is_row" s_is_row h5 hd5)
    (d6 : DF K "sorted_ways" s_sorted_ways h6 hd6)
    (d7 : DF K "standings_of" s_standings_of h7 hd7)
    (d8 : DF K "put" s_put h8 hd8)
    (d9 : DF K "is_one_of" s_is_one_of h9 hd9)
    (d10 : DF K "are_integers" s_are_integers h10 hd10)
    (d11 : DF K "is_table" s_is_table h11 hd11)
    (d12 : DF K "led" s_led h12 hd12)
    (d13 : DF K "walked" s_walked h13 hd13)
    (d14 : DF K "row_sum" s_row_sum h14 hd14)
    (d15 : DF K "is_ring" s_is_ring h15 hd15)
    (d16 : DF K "_law_bag" s_law_bag h16 hd16)
    (d17 : DF K "_law_take" s_law_take h17 hd17)
    (d18 : DF K "_law_one" s_law_one h18 hd18)
    (d19 : DF K "_law_mixed" s_law_mixed h19 hd19)
    (d20 : DF K "_law_names" s_law_names h20 hd20)
    (d21 : DF K "_law_sizes" s_law_sizes h21 hd21)
    (d22 : DF K "_law_product" s_law_product h22 hd22)
    (d23 : DF K "_law_shape" s_law_shape h23 hd23)
    (d24 : DF K "_law_wider" s_law_wider h24 hd24)
    (d25 : DF K "_law_standings" s_law_standings h25 hd25)
    (d26 : DF K "_law_number" s_law_number h26 hd26)
    (d27 : DF K "_law_gains" s_law_gains h27 hd27)
    (d28 : DF K "_law_moved" s_law_moved h28 hd28)
    (d29 : DF K "_law_can" s_law_can h29 hd29)
    (d30 : DF K "_law_changes" s_law_changes h30 hd30)
    (d31 : DF K "_law_row" s_law_row h31 hd31)
    (d32 : DF K "_law_back" s_law_back h32 hd32)
    (d33 : DF K "_law_loose" s_law_loose h33 hd33)
    (d34 : DF K "_law_due" s_law_due h34 hd34)
    (d35 : DF K "_law_tried" s_law_tried h35 hd35)
    (d36 : DF K "_law_near" s_law_near h36 hd36)
    (d37 : DF K "_law_refused" s_law_refused h37 hd37)
    (d38 : DF K "law" s_law h38 hd38)
    (c_MOST_LETTERS : PySem.W.nsIn K mainGlobals "MOST_LETTERS" = some (some (.int 8 t_MOST_LETTERS)))
    (c_MOST_NAMES : PySem.W.nsIn K mainGlobals "MOST_NAMES" = some (some (.int 4 t_MOST_NAMES)))
    (c_MOST_STANDINGS : PySem.W.nsIn K mainGlobals "MOST_STANDINGS" = some (some (.int 81 t_MOST_STANDINGS)))
    (c_MOST_CHANGES : PySem.W.nsIn K mainGlobals "MOST_CHANGES" = some (some (.int 200 t_MOST_CHANGES)))
    (n_isinstance : PySem.W.nsIn K mainGlobals "isinstance" = some none)
    (n_len : PySem.W.nsIn K mainGlobals "len" = some none)
    (n_all : PySem.W.nsIn K mainGlobals "all" = some none)
    (n_set : PySem.W.nsIn K mainGlobals "set" = some none)
    (n_list : PySem.W.nsIn K mainGlobals "list" = some none)
    (n_tuple : PySem.W.nsIn K mainGlobals "tuple" = some none)
    (n_dict : PySem.W.nsIn K mainGlobals "dict" = some none)
    (n_str : PySem.W.nsIn K mainGlobals "str" = some none)
    (n_int : PySem.W.nsIn K mainGlobals "int" = some none)
    (n_bool : PySem.W.nsIn K mainGlobals "bool" = some none)
    (n_sorted : PySem.W.nsIn K mainGlobals "sorted" = some none)
    (n_enumerate : PySem.W.nsIn K mainGlobals "enumerate" = some none)
    (n_abs : PySem.W.nsIn K mainGlobals "abs" = some none)
    (n_repr : PySem.W.nsIn K mainGlobals "repr" = some none)
    (n_min : PySem.W.nsIn K mainGlobals "min" = some none)
    (n_range : PySem.W.nsIn K mainGlobals "range" = some none)
    (n_sum : PySem.W.nsIn K mainGlobals "sum" = some none)
    (nHE : PySem.W.nsIn K mainGlobals "HeightError" = some (some (.ref HE)))
    (cHE : PySem.W.isClsIn K HE = true)
    (tHE : PySem.W.typeIn K (.ref HE) = some (.type "type"))
    (eHE : PySem.W.mroIn K HE (.type "BaseException") = some true)
    (cW : CF K "Wrong" CW HE)
    (iW : IF K "place" "Wrong.__init__" s_Wrong___init CW iWa iWd)
    (cN : CF K "NoStanding" CN HE)
    (iN : IF K "standing" "NoStanding.__init__" s_NoStanding___init CN iNa iNd)
    (cS : CF K "NoStep" CS HE)
    (iS : IF K "index" "NoStep.__init__" s_NoStep___init CS iSa iSd)
    (nd : ([HE, CW, CN, CS] : List Addr).Nodup)
    : ∃ fd : FuncData, (∀ (s : Shared) (u : Value), BindsTo s fd ⟨[u], []⟩ [("_law_script", u)]) ∧ ∀ base : Heap, K.In base → base.Ns mainGlobals mg → FnG l.prog w K mg base CX0 10 fa fd ["_law_script"] (spLaw K) := by
  have efa : fa = h38 := by
    have z := PySem.W.mg_of X G d38.ns
    rw [hfa] at z
    cases z
    rfl
  subst efa
  have q_isinstance := PySem.W.mg_none_of X G n_isinstance
  have q_len := PySem.W.mg_none_of X G n_len
  have q_all := PySem.W.mg_none_of X G n_all
  have q_set := PySem.W.mg_none_of X G n_set
  have q_list := PySem.W.mg_none_of X G n_list
  have q_tuple := PySem.W.mg_none_of X G n_tuple
  have q_dict := PySem.W.mg_none_of X G n_dict
  have q_str := PySem.W.mg_none_of X G n_str
  have q_int := PySem.W.mg_none_of X G n_int
  have q_bool := PySem.W.mg_none_of X G n_bool
  have q_sorted := PySem.W.mg_none_of X G n_sorted
  have q_enumerate := PySem.W.mg_none_of X G n_enumerate
  have q_abs := PySem.W.mg_none_of X G n_abs
  have q_repr := PySem.W.mg_none_of X G n_repr
  have q_min := PySem.W.mg_none_of X G n_min
  have q_range := PySem.W.mg_none_of X G n_range
  have q_sum := PySem.W.mg_none_of X G n_sum
  have b0 := d0.F.binds (ps := ["thing"]) fun _ _ _ _ _ _ us hl => match us, hl with | [_], _ => rfl
  have D0 := df_of X G d0
  have b1 := d1.F.binds (ps := ["thing"]) fun _ _ _ _ _ _ us hl => match us, hl with | [_], _ => rfl
  have D1 := df_of X G d1
  have b2 := d2.F.binds (ps := ["thing"]) fun _ _ _ _ _ _ us hl => match us, hl with | [_], _ => rfl
  have D2 := df_of X G d2
  have b3 := d3.F.binds (ps := ["thing"]) fun _ _ _ _ _ _ us hl => match us, hl with | [_], _ => rfl
  have D3 := df_of X G d3
  have b4 := d4.F.binds (ps := ["thing"]) fun _ _ _ _ _ _ us hl => match us, hl with | [_], _ => rfl
  have D4 := df_of X G d4
  have b5 := d5.F.binds (ps := ["thing"]) fun _ _ _ _ _ _ us hl => match us, hl with | [_], _ => rfl
  have D5 := df_of X G d5
  have b6 := d6.F.binds (ps := ["ways"]) fun _ _ _ _ _ _ us hl => match us, hl with | [_], _ => rfl
  have D6 := df_of X G d6
  have b7 := d7.F.binds (ps := ["way_lists"]) fun _ _ _ _ _ _ us hl => match us, hl with | [_], _ => rfl
  have D7 := df_of X G d7
  have b8 := d8.F.binds (ps := ["items", "at", "item"]) fun _ _ _ _ _ _ us hl => match us, hl with | [_, _, _], _ => rfl
  have D8 := df_of X G d8
  have b9 := d9.F.binds (ps := ["thing", "tuples"]) fun _ _ _ _ _ _ us hl => match us, hl with | [_, _], _ => rfl
  have D9 := df_of X G d9
  have b10 := d10.F.binds (ps := ["thing", "many"]) fun _ _ _ _ _ _ us hl => match us, hl with | [_, _], _ => rfl
  have D10 := df_of X G d10
  have b11 := d11.F.binds (ps := ["thing", "wanted", "many"]) fun _ _ _ _ _ _ us hl => match us, hl with | [_, _, _], _ => rfl
  have D11 := df_of X G d11
  have b12 := d12.F.binds (ps := ["game", "row"]) fun _ _ _ _ _ _ us hl => match us, hl with | [_, _], _ => rfl
  have D12 := df_of X G d12
  have b13 := d13.F.binds (ps := ["game", "row"]) fun _ _ _ _ _ _ us hl => match us, hl with | [_, _], _ => rfl
  have D13 := df_of X G d13
  have b14 := d14.F.binds (ps := ["game", "row"]) fun _ _ _ _ _ _ us hl => match us, hl with | [_, _], _ => rfl
  have D14 := df_of X G d14
  have b15 := d15.F.binds (ps := ["game", "thing"]) fun _ _ _ _ _ _ us hl => match us, hl with | [_, _], _ => rfl
  have D15 := df_of X G d15
  have b16 := d16.F.binds (ps := ["_law_script"]) fun _ _ _ _ _ _ us hl => match us, hl with | [_], _ => rfl
  have D16 := df_of X G d16
  have b17 := d17.F.binds (ps := ["_law_bag_here", "_law_many"]) fun _ _ _ _ _ _ us hl => match us, hl with | [_, _], _ => rfl
  have D17 := df_of X G d17
  have b18 := d18.F.binds (ps := ["_law_bag_here", "_law_some"]) fun _ _ _ _ _ _ us hl => match us, hl with | [_, _], _ => rfl
  have D18 := df_of X G d18
  have b19 := d19.F.binds (ps := ["_law_bag_here", "_law_things"]) fun _ _ _ _ _ _ us hl => match us, hl with | [_, _], _ => rfl
  have D19 := df_of X G d19
  have b20 := d20.F.binds (ps := ["_law_bag_here", "_law_size"]) fun _ _ _ _ _ _ us hl => match us, hl with | [_, _], _ => rfl
  have D20 := df_of X G d20
  have b21 := d21.F.binds (ps := ["_law_bag_here", "_law_most"]) fun _ _ _ _ _ _ us hl => match us, hl with | [_, _], _ => rfl
  have D21 := df_of X G d21
  have b22 := d22.F.binds (ps := ["_law_numbers"]) fun _ _ _ _ _ _ us hl => match us, hl with | [_], _ => rfl
  have D22 := df_of X G d22
  have b23 := d23.F.binds (ps := ["_law_bag_here", "_law_most"]) fun _ _ _ _ _ _ us hl => match us, hl with | [_, _], _ => rfl
  have D23 := df_of X G d23
  have b24 := d24.F.binds (ps := ["_law_some", "_law_ways"]) fun _ _ _ _ _ _ us hl => match us, hl with | [_, _], _ => rfl
  have D24 := df_of X G d24
  have b25 := d25.F.binds (ps := ["_law_ways"]) fun _ _ _ _ _ _ us hl => match us, hl with | [_], _ => rfl
  have D25 := df_of X G d25
  have b26 := d26.F.binds (ps := ["_law_bag_here", "_law_style"]) fun _ _ _ _ _ _ us hl => match us, hl with | [_, _], _ => rfl
  have D26 := df_of X G d26
  have b27 := d27.F.binds (ps := ["_law_bag_here", "_law_ways"]) fun _ _ _ _ _ _ us hl => match us, hl with | [_, _], _ => rfl
  have D27 := df_of X G d27
  have b28 := d28.F.binds (ps := ["_law_ways", "_law_standing", "_law_change"]) fun _ _ _ _ _ _ us hl => match us, hl with | [_, _, _], _ => rfl
  have D28 := df_of X G d28
  have b29 := d29.F.binds (ps := ["_law_ways", "_law_standing", "_law_change"]) fun _ _ _ _ _ _ us hl => match us, hl with | [_, _, _], _ => rfl
  have D29 := df_of X G d29
  have b30 := d30.F.binds (ps := ["_law_ways", "_law_standing"]) fun _ _ _ _ _ _ us hl => match us, hl with | [_, _], _ => rfl
  have D30 := df_of X G d30
  have b31 := d31.F.binds (ps := ["_law_bag_here", "_law_ways", "_law_many"]) fun _ _ _ _ _ _ us hl => match us, hl with | [_, _, _], _ => rfl
  have D31 := df_of X G d31
  have b32 := d32.F.binds (ps := ["_law_bag_here", "_law_ways", "_law_row_here"]) fun _ _ _ _ _ _ us hl => match us, hl with | [_, _, _], _ => rfl
  have D32 := df_of X G d32
  have b33 := d33.F.binds (ps := ["_law_bag_here", "_law_row_here"]) fun _ _ _ _ _ _ us hl => match us, hl with | [_, _], _ => rfl
  have D33 := df_of X G d33
  have b34 := d34.F.binds (ps := ["_law_ways", "_law_gains_here", "_law_row_here"]) fun _ _ _ _ _ _ us hl => match us, hl with | [_, _, _], _ => rfl
  have D34 := df_of X G d34
  have b35 := d35.F.binds (ps := ["_law_way", "_law_game", "_law_row_here"]) fun _ _ _ _ _ _ us hl => match us, hl with | [_, _, _], _ => rfl
  have D35 := df_of X G d35
  have b36 := d36.F.binds (ps := ["_law_ways", "_law_standing"]) fun _ _ _ _ _ _ us hl => match us, hl with | [_, _], _ => rfl
  have D36 := df_of X G d36
  have b37 := d37.F.binds (ps := ["_law_bag_here", "_law_game", "_law_ways", "_law_row_here"]) fun _ _ _ _ _ _ us hl => match us, hl with | [_, _, _, _], _ => rfl
  have D37 := df_of X G d37
  have b38 := d38.F.binds (ps := ["_law_script"]) fun _ _ _ _ _ _ us hl => match us, hl with | [_], _ => rfl
  have D38 := df_of X G d38
  have mb0 := m0.F.binds (ps := ["self", "ways", "gains"]) fun _ _ _ _ _ _ us hl => match us, hl with | [_, _, _], _ => rfl
  have mb1 := m1.F.binds (ps := ["self", "x"]) fun _ _ _ _ _ _ us hl => match us, hl with | [_, _], _ => rfl
  have mb2 := m2.F.binds (ps := ["self", "standing", "change"]) fun _ _ _ _ _ _ us hl => match us, hl with | [_, _, _], _ => rfl
  have mb3 := m3.F.binds (ps := ["self", "standing", "change"]) fun _ _ _ _ _ _ us hl => match us, hl with | [_, _, _], _ => rfl
  have mb4 := m4.F.binds (ps := ["self", "thing"]) fun _ _ _ _ _ _ us hl => match us, hl with | [_, _], _ => rfl
  have mb5 := m5.F.binds (ps := ["self", "standing", "thing"]) fun _ _ _ _ _ _ us hl => match us, hl with | [_, _, _], _ => rfl
  have mb6 := m6.F.binds (ps := ["self", "chooser"]) fun _ _ _ _ _ _ us hl => match us, hl with | [_, _], _ => rfl
  have mb7 := m7.F.binds (ps := ["self", "standing"]) fun _ _ _ _ _ _ us hl => match us, hl with | [_, _], _ => rfl
  have biW := iW.F.binds (ps := ["self", "place"]) fun _ _ _ _ _ _ us hl => match us, hl with | [_, _], _ => rfl
  have EW : EK K mg "Wrong" "place" CW iWa iWd := ⟨PySem.W.mg_of X G cW.ns, cW.oex, iW.no, iW.iC, iW.tI, cW.err, fun _ _ _ => ok_eWrong iW.F cW.oex iW.no, biW⟩
  have biN := iN.F.binds (ps := ["self", "standing"]) fun _ _ _ _ _ _ us hl => match us, hl with | [_, _], _ => rfl
  have EN : EK K mg "NoStanding" "standing" CN iNa iNd := ⟨PySem.W.mg_of X G cN.ns, cN.oex, iN.no, iN.iC, iN.tI, cN.err, fun _ _ _ => ok_eNoStanding iN.F cN.oex iN.no, biN⟩
  have biS := iS.F.binds (ps := ["self", "index"]) fun _ _ _ _ _ _ us hl => match us, hl with | [_, _], _ => rfl
  have ES : EK K mg "NoStep" "index" CS iSa iSd := ⟨PySem.W.mg_of X G cS.ns, cS.oex, iS.no, iS.iC, iS.tI, cS.err, fun _ _ _ => ok_eNoStep iS.F cS.oex iS.no, biS⟩
  have T : KT K mg := { m_isinstance := q_isinstance, m_len := q_len, m_all := q_all, m_set := q_set, m_list := q_list, m_tuple := q_tuple, m_dict := q_dict, m_str := q_str, m_int := q_int, m_bool := q_bool, g_letters := ⟨_, PySem.W.mg_of X G c_MOST_LETTERS⟩, g_names := ⟨_, PySem.W.mg_of X G c_MOST_NAMES⟩, g_standings := ⟨_, PySem.W.mg_of X G c_MOST_STANDINGS⟩ }
  have GDv : GD K mg h3 h2 h1 h6 h7 h11 h10 h0 h9 h8 hd3 hd2 hd1 hd6 hd7 hd11 hd10 hd0 hd9 hd8 := { T := T, m_sorted := q_sorted, shape := D3, bShape := b3, names := D2, bNames := b2, name := D1, bName := b1, sorted := D6, bSorted := b6, stds := D7, bStds := b7, table := D11, bTable := b11, aInts := D10, bInts := b10, aInt := D0, bInt := b0, one := D9, bOne := b9, put := D8, bPut := b8 }
  have GHv : GDC K mg h4 hd4 := ⟨D4, b4⟩
  have cv : GC K C := ⟨⟨cpg, chd, cpo, csa⟩, fW, fL, fG⟩
  have civ : InsOk K C := ⟨iha, ihn, iht, ihm, fun T hT => by
    simp only [List.mem_cons, List.not_mem_nil, or_false] at hT
    rcases hT with rfl | rfl | rfl | rfl | rfl | rfl <;> exact kit_ref (by decide +kernel) (by assumption)⟩
  have mkv : Mk K C g0 := ⟨mkm, m0.me.at_, m0.me.fn, mkk⟩
  have Bv : BT K mg h17 h18 hd17 hd18 := ⟨q_len, q_int, d17.F, b17, D17.g, d18.F, b18, D18.g⟩
  have Mv : MxT K mg h19 hd19 := ⟨d19.F, b19, D19.g⟩
  have Nv : NmT K mg h20 h21 h22 hd20 hd21 hd22 := ⟨d20.F, b20, D20.g, d21.F, b21, D21.g, d22.F, b22, D22.g⟩
  have GLv : GnT K mg h26 h25 h24 hd26 hd25 hd24 := ⟨q_sorted, q_min, q_range, q_tuple, q_list, q_dict, d26.F, b26, D26.g, d25.F, b25, D25.g, d24.F, b24, D24.g⟩
  have RTv : RT K mg h5 h4 hd5 hd4 := ⟨D5, b5, D4, b4, ⟨_, PySem.W.mg_of X G c_MOST_CHANGES⟩⟩
  have Tv : MvT K mg h28 h29 h30 hd28 hd29 hd30 := ⟨⟨D28, b28⟩, ⟨D29, b29⟩, ⟨D30, b30⟩⟩
  obtain ⟨nHE1, nWNS⟩ := List.nodup_cons.mp nd
  obtain ⟨nW1, nNS⟩ := List.nodup_cons.mp nWNS
  obtain ⟨nN1, _⟩ := List.nodup_cons.mp nNS
  simp only [List.mem_cons, List.not_mem_nil, or_false, not_or] at nHE1 nW1 nN1
  have hW := Ne.symm nHE1.1
  have hN := Ne.symm nHE1.2.1
  have hS := Ne.symm nHE1.2.2
  have dN {a b : Addr} (h : a ≠ b) : decide (a = b) = false := decide_eq_false h
  have dY (a : Addr) : decide (a = a) = true := decide_eq_true rfl
  have kWW := (cW.kit cW hW).trans (congrArg some (dY CW))
  have xWW := (cW.exm cW hW).trans (congrArg some (dY CW))
  have kWN := (cW.kit cN hN).trans (congrArg some (dN nW1.1))
  have xWN := (cW.exm cN hN).trans (congrArg some (dN nW1.1))
  have kWS := (cW.kit cS hS).trans (congrArg some (dN nW1.2))
  have xWS := (cW.exm cS hS).trans (congrArg some (dN nW1.2))
  have kNW := (cN.kit cW hW).trans (congrArg some (dN (Ne.symm nW1.1)))
  have xNW := (cN.exm cW hW).trans (congrArg some (dN (Ne.symm nW1.1)))
  have kNN := (cN.kit cN hN).trans (congrArg some (dY CN))
  have xNN := (cN.exm cN hN).trans (congrArg some (dY CN))
  have kNS := (cN.kit cS hS).trans (congrArg some (dN nN1))
  have xNS := (cN.exm cS hS).trans (congrArg some (dN nN1))
  have kSW := (cS.kit cW hW).trans (congrArg some (dN (Ne.symm nW1.2)))
  have xSW := (cS.exm cW hW).trans (congrArg some (dN (Ne.symm nW1.2)))
  have kSN := (cS.kit cN hN).trans (congrArg some (dN (Ne.symm nN1)))
  have xSN := (cS.exm cN hN).trans (congrArg some (dN (Ne.symm nN1)))
  have kSS := (cS.kit cS hS).trans (congrArg some (dY CS))
  have xSS := (cS.exm cS hS).trans (congrArg some (dY CS))
  have X3v : E3 K CW CN CS := ⟨exm3 xWW xWN xWS rfl, exm3 xNW xNN xNS rfl, exm3 xSW xSN xSS rfl⟩
  have Zv : TrK K mg HE CW CN CS := ⟨PySem.W.mg_of X G nHE, cW.exmH cHE tHE eHE, cN.exmH cHE tHE eHE, cS.exmH cHE tHE eHE, kWW, kWN, kWS, kNW, kNN, kNS, kSW, kSN, kSS, ⟨ihn, iht⟩⟩
  obtain ⟨oc, od, kV, doc, pm, an, cdv, ct, osl, e7, lk7, hcd7⟩ := d38.F.ex
  refine ⟨hd38, fun s v => by rw [e7]; exact .of_eq rfl, fun base _ _ => ?_⟩
  have oWk := ok_walked (P := l.prog) (w := w) (base := base) GDv RTv cv ⟨m1.me, m1.F, mb1⟩ ⟨m5.me, m5.F, mb5⟩ ⟨m4.me, m4.F, mb4⟩ ⟨m6.me, m6.F, mb6⟩ q_enumerate EW EN ES D13
  have oLed := ok_led (P := l.prog) (w := w) (base := base) ⟨D13, b13⟩ oWk D12
  have oSum := ok_row_sum (P := l.prog) (w := w) (base := base) GDv GHv cv ⟨m3.me, m3.F, mb3⟩ ⟨m2.me, m2.F, mb2⟩ ⟨m7.me, m7.F, mb7⟩ ⟨m1.me, m1.F, mb1⟩ ⟨m5.me, m5.F, mb5⟩ ⟨m4.me, m4.F, mb4⟩ ⟨m6.me, m6.F, mb6⟩ q_enumerate q_sum ⟨D13, b13⟩ oWk D14
  have oRing := ok_is_ring (P := l.prog) (w := w) (base := base) q_len EW EN ES X3v ⟨D13, b13⟩ oWk D15
  have oTried := ok_tried (P := l.prog) (w := w) (base := base) q_isinstance EW EN ES Zv ⟨D13, b13⟩ ⟨D12, b12⟩ ⟨D14, b14⟩ oWk oLed oSum D35
  have oRef := ok_refused (P := l.prog) (w := w) (base := base) cv.cl civ Bv GLv Tv q_repr ⟨D15, b15⟩ oRing ⟨D35, b35⟩ oTried ⟨D36, b36⟩ D37
  exact ok_law GDv cv mkv m0.F mb0 (PySem.W.mg_of X G nC) q_repr Bv GLv ⟨D16, b16⟩ (ok_bag d16.F q_abs) ⟨D23, b23⟩ (ok_lshape Bv Mv Nv q_enumerate d23.F) ⟨D27, b27⟩ (ok_lgains Bv GLv d27.F) ⟨D15, b15⟩ oRing ⟨D35, b35⟩ oTried ⟨D37, b37⟩ oRef ⟨D33, b33⟩ (ok_lloose q_list q_tuple Bv D33) ⟨D34, b34⟩ (ok_ldue q_sorted Tv D34) ⟨D32, b32⟩ (ok_lback q_sorted q_list q_range Bv Mv Tv D32) ⟨D31, b31⟩ (ok_lrow Bv GLv Tv D31) d38.F
end HG

open PySem PySem.W PyProof.Rows
set_option maxRecDepth 100000 in
set_option maxHeartbeats 0 in
theorem PySem.Challenge.cw_heightgames_k15_rows_walked_holds : PySem.Challenge.rw_heightgames_k15_rows_walked.Holds := by
  w_on; o_law; k_head; (case hw => w_witness2)
  k_fill
  refine HG.walkG (l := PySem.Challenge.rw_heightgames_k15_rows_walked) (n := 63) (k := 10) (x := "_law_script") (sp := HG.spLaw) rfl (by decide) rfl ⟨rfl, by decide, by decide⟩ (fun w h Y => PySem.W.kIn_of Y) ?F (fun K H a ns hl _ hS => ⟨a, ns, rfl, hS, hl, fun _ => rfl⟩)
  case F =>
    intro w mg fa h KX G hmg
    refine' HG.all_mk KX G hmg ?nC ?cpg ?chd ?cpo ?csa ?fW ?fL ?fG ?iha ?ihn ?iht ?ihm ?mkm ?mkk ?kt_str ?kt_int ?kt_bool ?kt_list ?kt_tuple ?kt_dict ?m0 ?m1 ?m2 ?m3 ?m4 ?m5 ?m6 ?m7 ?d0 ?d1 ?d2 ?d3 ?d4 ?d5 ?d6 ?d7 ?d8 ?d9 ?d10 ?d11 ?d12 ?d13 ?d14 ?d15 ?d16 ?d17 ?d18 ?d19 ?d20 ?d21 ?d22 ?d23 ?d24 ?d25 ?d26 ?d27 ?d28 ?d29 ?d30 ?d31 ?d32 ?d33 ?d34 ?d35 ?d36 ?d37 ?d38 ?c_MOST_LETTERS ?c_MOST_NAMES ?c_MOST_STANDINGS ?c_MOST_CHANGES ?n_isinstance ?n_len ?n_all ?n_set ?n_list ?n_tuple ?n_dict ?n_str ?n_int ?n_bool ?n_sorted ?n_enumerate ?n_abs ?n_repr ?n_min ?n_range ?n_sum ?nHE ?cHE ?tHE ?eHE ?cW ?iW ?cN ?iN ?cS ?iS ?nd
    (case nC => k_is)
    (case cpg => k_is)
    (case chd => k_is)
    (case cpo => k_is)
    (case csa => k_is)
    (case fW => k_is)
    (case fL => k_is)
    (case fG => k_is)
    (case iha => k_is)
    (case ihn => k_is)
    (case iht => k_is)
    (case ihm => k_is)
    (case mkm => k_is)
    (case mkk => k_is)
    (case kt_str => k_is)
    (case kt_int => k_is)
    (case kt_bool => k_is)
    (case kt_list => k_is)
    (case kt_tuple => k_is)
    (case kt_dict => k_is)
    (case m0 => (refine' HG.MF.mk' ?a ?b ?l ?c ?k; (case a => k_is); (case b => k_is); (case l => k_is); (case c => k_is); (case k => k_is)))
    (case m1 => (refine' HG.MF.mk' ?a ?b ?l ?c ?k; (case a => k_is); (case b => k_is); (case l => k_is); (case c => k_is); (case k => k_is)))
    (case m2 => (refine' HG.MF.mk' ?a ?b ?l ?c ?k; (case a => k_is); (case b => k_is); (case l => k_is); (case c => k_is); (case k => k_is)))
    (case m3 => (refine' HG.MF.mk' ?a ?b ?l ?c ?k; (case a => k_is); (case b => k_is); (case l => k_is); (case c => k_is); (case k => k_is)))
    (case m4 => (refine' HG.MF.mk' ?a ?b ?l ?c ?k; (case a => k_is); (case b => k_is); (case l => k_is); (case c => k_is); (case k => k_is)))
    (case m5 => (refine' HG.MF.mk' ?a ?b ?l ?c ?k; (case a => k_is); (case b => k_is); (case l => k_is); (case c => k_is); (case k => k_is)))
    (case m6 => (refine' HG.MF.mk' ?a ?b ?l ?c ?k; (case a => k_is); (case b => k_is); (case l => k_is); (case c => k_is); (case k => k_is)))
    (case m7 => (refine' HG.MF.mk' ?a ?b ?l ?c ?k; (case a => k_is); (case b => k_is); (case l => k_is); (case c => k_is); (case k => k_is)))
    (case d0 => (refine' HG.DF.mk' ?a ?b ?c ?d; (case a => k_is); (case b => k_is); (case c => k_is); (case d => k_is)))
    (case d1 => (refine' HG.DF.mk' ?a ?b ?c ?d; (case a => k_is); (case b => k_is); (case c => k_is); (case d => k_is)))
    (case d2 => (refine' HG.DF.mk' ?a ?b ?c ?d; (case a => k_is); (case b => k_is); (case c => k_is); (case d => k_is)))
    (case d3 => (refine' HG.DF.mk' ?a ?b ?c ?d; (case a => k_is); (case b => k_is); (case c => k_is); (case d => k_is)))
    (case d4 => (refine' HG.DF.mk' ?a ?b ?c ?d; (case a => k_is); (case b => k_is); (case c => k_is); (case d => k_is)))
    (case d5 => (refine' HG.DF.mk' ?a ?b ?c ?d; (case a => k_is); (case b => k_is); (case c => k_is); (case d => k_is)))
    (case d6 => (refine' HG.DF.mk' ?a ?b ?c ?d; (case a => k_is); (case b => k_is); (case c => k_is); (case d => k_is)))
    (case d7 => (refine' HG.DF.mk' ?a ?b ?c ?d; (case a => k_is); (case b => k_is); (case c => k_is); (case d => k_is)))
    (case d8 => (refine' HG.DF.mk' ?a ?b ?c ?d; (case a => k_is); (case b => k_is); (case c => k_is); (case d => k_is)))
    (case d9 => (refine' HG.DF.mk' ?a ?b ?c ?d; (case a => k_is); (case b => k_is); (case c => k_is); (case d => k_is)))
    (case d10 => (refine' HG.DF.mk' ?a ?b ?c ?d; (case a => k_is); (case b => k_is); (case c => k_is); (case d => k_is)))
    (case d11 => (refine' HG.DF.mk' ?a ?b ?c ?d; (case a => k_is); (case b => k_is); (case c => k_is); (case d => k_is)))
    (case d12 => (refine' HG.DF.mk' ?a ?b ?c ?d; (case a => k_is); (case b => k_is); (case c => k_is); (case d => k_is)))
    (case d13 => (refine' HG.DF.mk' ?a ?b ?c ?d; (case a => k_is); (case b => k_is); (case c => k_is); (case d => k_is)))
    (case d14 => (refine' HG.DF.mk' ?a ?b ?c ?d; (case a => k_is); (case b => k_is); (case c => k_is); (case d => k_is)))
    (case d15 => (refine' HG.DF.mk' ?a ?b ?c ?d; (case a => k_is); (case b => k_is); (case c => k_is); (case d => k_is)))
    (case d16 => (refine' HG.DF.mk' ?a ?b ?c ?d; (case a => k_is); (case b => k_is); (case c => k_is); (case d => k_is)))
    (case d17 => (refine' HG.DF.mk' ?a ?b ?c ?d; (case a => k_is); (case b => k_is); (case c => k_is); (case d => k_is)))
    (case d18 => (refine' HG.DF.mk' ?a ?b ?c ?d; (case a => k_is); (case b => k_is); (case c => k_is); (case d => k_is)))
    (case d19 => (refine' HG.DF.mk' ?a ?b ?c ?d; (case a => k_is); (case b => k_is); (case c => k_is); (case d => k_is)))
    (case d20 => (refine' HG.DF.mk' ?a ?b ?c ?d; (case a => k_is); (case b => k_is); (case c => k_is); (case d => k_is)))
    (case d21 => (refine' HG.DF.mk' ?a ?b ?c ?d; (case a => k_is); (case b => k_is); (case c => k_is); (case d => k_is)))
    (case d22 => (refine' HG.DF.mk' ?a ?b ?c ?d; (case a => k_is); (case b => k_is); (case c => k_is); (case d => k_is)))
    (case d23 => (refine' HG.DF.mk' ?a ?b ?c ?d; (case a => k_is); (case b => k_is); (case c => k_is); (case d => k_is)))
    (case d24 => (refine' HG.DF.mk' ?a ?b ?c ?d; (case a => k_is); (case b => k_is); (case c => k_is); (case d => k_is)))
    (case d25 => (refine' HG.DF.mk' ?a ?b ?c ?d; (case a => k_is); (case b => k_is); (case c => k_is); (case d => k_is)))
    (case d26 => (refine' HG.DF.mk' ?a ?b ?c ?d; (case a => k_is); (case b => k_is); (case c => k_is); (case d => k_is)))
    (case d27 => (refine' HG.DF.mk' ?a ?b ?c ?d; (case a => k_is); (case b => k_is); (case c => k_is); (case d => k_is)))
    (case d28 => (refine' HG.DF.mk' ?a ?b ?c ?d; (case a => k_is); (case b => k_is); (case c => k_is); (case d => k_is)))
    (case d29 => (refine' HG.DF.mk' ?a ?b ?c ?d; (case a => k_is); (case b => k_is); (case c => k_is); (case d => k_is)))
    (case d30 => (refine' HG.DF.mk' ?a ?b ?c ?d; (case a => k_is); (case b => k_is); (case c => k_is); (case d => k_is)))
    (case d31 => (refine' HG.DF.mk' ?a ?b ?c ?d; (case a => k_is); (case b => k_is); (case c => k_is); (case d => k_is)))
    (case d32 => (refine' HG.DF.mk' ?a ?b ?c ?d; (case a => k_is); (case b => k_is); (case c => k_is); (case d => k_is)))
    (case d33 => (refine' HG.DF.mk' ?a ?b ?c ?d; (case a => k_is); (case b => k_is); (case c => k_is); (case d => k_is)))
    (case d34 => (refine' HG.DF.mk' ?a ?b ?c ?d; (case a => k_is); (case b => k_is); (case c => k_is); (case d => k_is)))
    (case d35 => (refine' HG.DF.mk' ?a ?b ?c ?d; (case a => k_is); (case b => k_is); (case c => k_is); (case d => k_is)))
    (case d36 => (refine' HG.DF.mk' ?a ?b ?c ?d; (case a => k_is); (case b => k_is); (case c => k_is); (case d => k_is)))
    (case d37 => (refine' HG.DF.mk' ?a ?b ?c ?d; (case a => k_is); (case b => k_is); (case c => k_is); (case d => k_is)))
    (case d38 => (refine' HG.DF.mk' ?a ?b ?c ?d; (case a => k_is); (case b => k_is); (case c => k_is); (case d => k_is)))
    (case c_MOST_LETTERS => k_is)
    (case c_MOST_NAMES => k_is)
    (case c_MOST_STANDINGS => k_is)
    (case c_MOST_CHANGES => k_is)
    (case n_isinstance => k_is)
    (case n_len => k_is)
    (case n_all => k_is)
    (case n_set => k_is)
    (case n_list => k_is)
    (case n_tuple => k_is)
    (case n_dict => k_is)
    (case n_str => k_is)
    (case n_int => k_is)
    (case n_bool => k_is)
    (case n_sorted => k_is)
    (case n_enumerate => k_is)
    (case n_abs => k_is)
    (case n_repr => k_is)
    (case n_min => k_is)
    (case n_range => k_is)
    (case n_sum => k_is)
    (case nHE => k_is)
    (case cHE => k_is)
    (case tHE => k_is)
    (case eHE => k_is)
    (case cW => (refine' HG.CF.mk' ?a ?b ?c ?d ?e ?f ?g; (case a => k_is); (case b => k_is); (case c => k_is); (case d => k_is); (case e => k_is); (case f => k_is); (case g => k_is)))
    (case iW => (refine' HG.IF.mk' ?a ?b ?c ?d ?e ?f; (case a => k_is); (case b => k_is); (case c => k_is); (case d => k_is); (case e => k_is); (case f => k_is)))
    (case cN => (refine' HG.CF.mk' ?a ?b ?c ?d ?e ?f ?g; (case a => k_is); (case b => k_is); (case c => k_is); (case d => k_is); (case e => k_is); (case f => k_is); (case g => k_is)))
    (case iN => (refine' HG.IF.mk' ?a ?b ?c ?d ?e ?f; (case a => k_is); (case b => k_is); (case c => k_is); (case d => k_is); (case e => k_is); (case f => k_is)))
    (case cS => (refine' HG.CF.mk' ?a ?b ?c ?d ?e ?f ?g; (case a => k_is); (case b => k_is); (case c => k_is); (case d => k_is); (case e => k_is); (case f => k_is); (case g => k_is)))
    (case iS => (refine' HG.IF.mk' ?a ?b ?c ?d ?e ?f; (case a => k_is); (case b => k_is); (case c => k_is); (case d => k_is); (case e => k_is); (case f => k_is)))
    (case nd => decide)

