import PyProof.Rows.All
import Wide.All
import OpenK.AllK
import Wide.FinOn
import PyProof.EqAt
import PyProof.EqKinds
import KE.DataEq
import KE.KExcIs
import HandS.ForMost
import HandS.Exc
import HandS.ExcOwn
import HandS.ExcInit
import HandS.ExcValue
import HandS.IsInst
import HandS.ExcField
import HandS.Codes
import HandS.Strs
import HandS.StrMore
import HandS.TupAny
import HandS.Iter
import HandS.TupLen
import HandS.DictComp
import HandS.Conv
import HandS.Walk
import PyProof.TupleOfSeq
import HandS.More
import HandS.SlotsOwn
import OpenK.KOps
import KE.KUnpack
import HandS.OwnIter
import HandS.IterVal
import HandS.TryMany
import HandS.WordsExc
import HandS.SetFor
import KE.KTryMore
import KE.KDictKeyed
import HandS.Style
import HandS.DictTup
import KE.KDictPairs
import KE.KDictList
import KE.KDictWalk
import HandS.Finally
import HandS.TupMul
import KE.KRevSl
import HandS.Deep
import HandS.DeepEq
import KE.KEqDict
import PyProof.ReprRoads
import HandS.Ends
import PyProof.ReprLen
import KE.SortData
import HandS.Comp
import PyProof.CallFns
import HandS.TupLe
import PySem.Challenge.RW_heightgames_k20_squares_listed
set_option Elab.async false
set_option linter.all false
set_option maxRecDepth 100000
set_option maxHeartbeats 4000000
/-! rules of our own: o[i] += e of a list; == of lists of one content; errors as values -/
namespace HG
open PySem PySem.Spec PyProof.Rows L2

section
variable {X : Cx}
def rGetL (K : PySem.W.Frag) : V → V → Hp → VK → Prop := fun o i H Q => ∃ p xs k z, o = .ref p ∧ i = .int k ∧ SqL K H p xs ∧ 0 ≤ k ∧ atI xs k = some z ∧ Q z H
theorem get_list : PGet X (rGetL X.K) := by
  intro pins s σ H o i ov iv Q I ro ri h
  obtain ⟨p, xs, k, z, rfl, rfl, hq, h0, he, q⟩ := h
  cases ro
  obtain ⟨t, rfl⟩ := ri
  obtain ⟨its, r, pl, hz⟩ := I.list hq
  obtain ⟨j, h1, h2, h3, h4, h5⟩ := atI_get he
  obtain ⟨w, ew, rw'⟩ := r.get h2
  have hl := r.length
  have hn := line63
  have hj : k.toNat = j := by
    rw [seqIndex_of h0 h5] at h1
    exact Option.some.inj h1
  exact wpAny_getItem_list pl.isList h0 (by omega) (by rw [hj]; simpa using ew) ⟨z, H, I, rw', q⟩

/-- values that are equal whenever they are the same to us -/
def plainV : V → Bool
  | .flt _ => false
  | .byt _ => false
  | _ => true
theorem eq_of_rel {x : V} {u w : Value} {A : Around} {s : Shared} (hx : plainV x = true) (r : RelV x u) (r' : RelV x w) : SeqAt.EqAt A s u w true := by
  cases x with
  | non => cases r; cases r'; exact SeqAt.EqAt.same _
  | bl b => cases r; cases r'; exact SeqAt.EqAt.same _
  | int i =>
    obtain ⟨t, rfl⟩ := r
    obtain ⟨t', rfl⟩ := r'
    intro prog w E Q q
    exact wpAny_eqBool_int (by rw [beq_self_eq_true]; exact q)
  | str z =>
    obtain ⟨t, rfl⟩ := r
    obtain ⟨t', rfl⟩ := r'
    intro prog w E Q q
    exact wpAny_eqBool_str (by rw [decide_eq_true rfl]; exact q)
  | byt b => cases hx
  | flt b => cases hx
  | ref a => cases r; cases r'; exact SeqAt.EqAt.same _
  | ty n => cases r; cases r'; exact SeqAt.EqAt.same _
def rSame (K : PySem.W.Frag) (b : Bool) : R2 := fun x y H Q => ∃ p q xs, x = .ref p ∧ y = .ref q ∧ SqL K H p xs ∧ SqL K H q xs ∧ (∀ z ∈ xs, plainV z = true) ∧ Q (.bl b) H
theorem op_neSame (hu : X.A.units + 64 < cLine) : OpR X (compareOp .NotEq) (rSame X.K false) := by
  intro pins s σ H x y v u Q I rx ry h
  obtain ⟨p, q, xs, rfl, rfl, hp, hq, hpl, k⟩ := h
  cases rx
  cases ry
  obtain ⟨its, r, pl, hz⟩ := I.list hp
  obtain ⟨its', r', pl', hz'⟩ := I.list hq
  have l1 := r.length
  have l2 := r'.length
  have hsz : its.toArray.size = its'.toArray.size := by simp only [List.size_toArray]; omega
  have hk : (!(List.range its.toArray.size).all fun _ => true) = false := by simp
  have := SeqAt.RcNeAt.lists (A := X.A) (s := s) (e := fun _ => true) pl.isList pl'.isList hsz (by omega) (fun j h1 h2 => by
    have j1 : j < xs.length := by simpa [l1] using h1
    obtain ⟨w, ew, rw1⟩ := r.get (i := j) (List.getElem?_eq_getElem j1)
    obtain ⟨w', ew', rw2⟩ := r'.get (i := j) (List.getElem?_eq_getElem j1)
    have e1 : its.toArray[j] = w := by
      have := List.getElem?_eq_some_iff.mp ew
      obtain ⟨_, e⟩ := this
      simpa using e
    have e2 : its'.toArray[j] = w' := by
      have := List.getElem?_eq_some_iff.mp ew'
      obtain ⟨_, e⟩ := this
      simpa using e
    rw [e1, e2]
    exact eq_of_rel (hpl _ (List.getElem_mem j1)) rw1 rw2)
  rw [hk] at this
  exact this X.prog X.w _ _ ⟨.bl false, H, I, rfl, k⟩
end

/-! ### errors as values -/
section
variable {X : Cx} {pins : List (Addr × Obj)} {σ : L2.St} {H : Hp} {s : Shared}
/-- what reading an own error's fields, and isinstance of it, ask of its class -/
structure ErrC (K : PySem.W.Frag) (C : Addr) : Prop where
  xf : XfC K C
  cl : (PySem.W.clsIn K C).isSome = true
  ha : PySem.W.findIn K (.ref C) "__class__" = some (some (.builtin "object.__class__"))
  hm : PySem.W.mroIn K C (.type "object") = some true
structure GetC (K : PySem.W.Frag) : Prop where
  hn : PySem.W.specialIn K (.builtin "object.__class__") "__get__" = some (some (.builtin "getset_descriptor.__get__"))
  ht : PySem.W.takesIn K (.builtin "object.__class__") = some true

theorem exd_obj {P : Program} {w : World} {H : Hp} {h : Heap} {dx : Addr} {fs : List (Str × V)} (hok : HOk P w H h) (he : H dx = some (exd dx fs)) : ∃ od, h.get? dx = some od ∧ ∀ n v, fs.lookup n = some v → ∃ u : Value, PySem.W.lookIn n od = some (some u) ∧ L2.RelV v u := by
  obtain ⟨mA, hns, hr⟩ := exd_at hok he
  obtain ⟨od, ho, hl⟩ := lookIn_ns hns
  refine ⟨od, ho, fun n v l => ?_⟩
  obtain ⟨u, hu, ru⟩ := RelO.some_of (v := v) (o := mA n) (by rw [← l]; exact hr n)
  exact ⟨u, by rw [hl n, hu], ru⟩

/-- e.f, e an own error that is tracked -/
def tErrF (K : PySem.W.Frag) (f : Str) (te : TE) : TE := fun σ H Q => te σ H fun x H1 => ∃ (a C dx : Addr) (fs : List (Str × V)) (v : V), x = .ref a ∧ H1 a = some (exo a C (some dx)) ∧ H1 dx = some (exd dx fs) ∧ XfC K C ∧ PySem.W.findIn K (.ref C) f = some none ∧ fs.lookup f = some v ∧ Q v H1
theorem pe_errF {e : Expr} {te : TE} {pos : Pos} {n : Str} (he : PE X e te) (hb : attributeBase e n X.env (eval e X.env) = eval e X.env := by rfl) : PE X (.Attribute e n pos) (tErrF X.K n te) := by
  refine ⟨fun pins s σ H Q I h => ?_⟩
  refine attr_of hb (thn (he.run pins s σ H _ I h) fun u s1 hh => ?_)
  obtain ⟨x, H1, I1, rx, a, C, dx, fs, v, ex, ea, ed, T, hno, l, q⟩ := hh
  subst ex
  obtain rfl : u = Value.ref a := rx
  obtain ⟨t1, ho⟩ := exo_at I1.hok ea
  obtain ⟨od, hod, hl⟩ := exd_obj I1.hok ed
  obtain ⟨u, hu, ru⟩ := hl n v l
  have J : PySem.W.InstAt s1.heap a { cls := .ref C, dict := some dx, data := .fields #[.ref t1, .none, .none, .none, .bool false, .none] } C (some od) := ⟨ho, rfl, rfl, hod⟩
  exact HandSPX.exc_get I1.kIn J T.ga T.gg T.exC (PySem.W.findObj_own T.hdC hno rfl (by rw [hu])) (handed_of ru) ⟨v, H1, I1.tok _, ru, q⟩

/-- isinstance(e, c), e an own error that is tracked -/
def rIsErr (K : PySem.W.Frag) : List V → Hp → VK → Prop := fun xs H Q => ∃ (a C : Addr) (d : Option Addr) (c : V) (cv : Value) (b : Bool), xs = [.ref a, c] ∧ ClsV c cv ∧ H a = some (exo a C d) ∧ (∀ dx, d = some dx → ∃ fs, H dx = some (exd dx fs)) ∧ ErrC K C ∧ GetC K ∧ PySem.W.kitOne K (.ref C) cv = some b ∧ Q (.bl b) H
theorem call_isErr : CallR X (.builtin "isinstance") (rIsErr X.K) := by
  intro pins s σ H xs us Q I r h
  obtain ⟨a, C, d, c, cv, b, rfl, k, ea, hd, T, G, e, q⟩ := h
  obtain ⟨u1, u2, rfl, r1, r2⟩ := vals2 r
  have e2 := k.eq r2
  subst e2
  obtain rfl : u1 = Value.ref a := r1
  obtain ⟨t1, ho⟩ := exo_at I.hok ea
  have J : ∃ od, PySem.W.InstAt s.heap a { cls := .ref C, dict := d, data := .fields #[.ref t1, .none, .none, .none, .bool false, .none] } C od := by
    cases d with
    | none => exact ⟨none, ho, rfl, rfl, trivial⟩
    | some dx =>
      obtain ⟨fs, ed⟩ := hd dx rfl
      obtain ⟨od, hod, _⟩ := exd_obj I.hok ed
      exact ⟨some od, ho, rfl, rfl, hod⟩
  obtain ⟨od, J⟩ := J
  exact PySem.W.kia_one (PySem.W.kitx_exc T.cl T.xf.ga T.xf.gg T.xf.exC T.ha G.hn G.ht T.hm) I.kIn J e (fun z => nomatch z) fun tk => ⟨.bl b, H, I.tok tk, rfl, q⟩

/-- X(), an own error without own __init__ -/
theorem pe_err0 {C : Addr} {bmB : List Value} {B newId initId : String} {x : Str} {p pos : Pos} (F : ExcBaseFacts B newId initId bmB) (q : PySem.W.excIn X.K C bmB newId = true) (gC : X.mg x = some (.ref C)) (kC : PySem.W.keepIn X.K (.ref C) = true) (hg : Gl X x)
    (hdb : (x == ("__debug__" : Str)) = false := by decide) :
    PE X (.Call (.Name x p) [] [] pos) (fun σ H Q => ∀ a, H a = none → Q (.ref a) (upd H a (exo a C none))) := by
  refine ⟨fun pins s σ H Q I h => ?_⟩
  refine wpAny_Call_Name_kw (ld_glob I hg gC ?_ hdb)
  refine PySem.W.callWith_K0 I.kIn kC ?_
  obtain ⟨bm, N, nm, qn, bs, hdct, sn, sub, ab, col, dd, k0, k1, k2, k3, k5, mN, hC, hN, hni, T⟩ := exc_obj I.kIn q
  refine wpAny_call_exc_subT F T hC hN hni (fun h' a hm => ?_) (by show 0 ≤ sizeLine; omega)
  have hn : H a = none := I.hok.gone hm.new
  obtain ⟨t, ht, _, _⟩ := hm.there
  exact ⟨.ref a, upd H a (exo a C none), I.laidN hm.keeps hm.new hn (exo_ok ht), rfl, h a hn⟩

/-- X(e, ..), an own error with its own __init__, as a value -/
def tErrN (C : Addr) (sp : Sp) (ta : TA) : TE := fun σ H Q => ta σ H fun vs H1 => vs.length ≤ 1000 ∧ ∀ a, H1 a = none → sp (.ref a :: vs) (upd H1 a (exo a C none)) (fun v H2 => v = .non ∧ Q (.ref a) H2) (fun _ _ _ => False)
theorem pe_errN {CX : CXT} {x : Str} {C fI : Addr} {k : Nat} {fd : FuncData} {ps : List Str} {sp : Sp} {e : Expr} {es : List Expr} {ta : TA} {p pos : Pos} (T : OexC X.K C) (iC : PySem.W.findIn X.K (.ref C) "__init__" = some (some (.ref fI))) (tI : PySem.W.typeIn X.K (.ref fI) = some (.type "function"))
    (F1 : FnOk X.prog X.w X.K X.mg X.base CX k fI fd ps sp) (hr : Room (k + 1) X.A) (hb : Binds X.K fd ps []) (hx : Passes CX X (fun _ _ _ => False)) (hm : X.mg x = some (.ref C)) (hg : Gl X x) (ha : PA X (e :: es) ta)
    (hdb : (x == ("__debug__" : Str)) = false := by decide) (he : starEach (e :: es) X.env = (false, eval e X.env) :: starEach es X.env := by rfl) (hpl : (backTo pos (starEach es X.env)).any (·.1) = false := by rfl) :
    PE X (.Call (.Name x p) (e :: es) [] pos) (tErrN C sp ta) := by
  refine ⟨fun pins s σ H Q I h => ?_⟩
  obtain ⟨nm, q, N, bs, bm, sn, sub, ab, col, dd, k0, k1, k2, k3, k5, hC, hbm⟩ := T.cls
  refine wpAny_Call_Name_kw (ld_glob I hg hm ?_ hdb)
  refine PySem.W.callWith_K (h₀ := X.base) I.ok.mod.kin T.kC (thn (ha.run pos pins s σ H _ I h) fun us s1 ⟨vs, H1, I1, r1, hz, q1⟩ => ⟨I1.kIn, ?_⟩) he hpl
  show wpAny _ _ (call (.ref C) us) _ _ _
  obtain ⟨hp, g, dr, tk, os⟩ := s1
  have hsz : hp.objs.size ≤ hp.objs.size + 1 := Nat.le_succ _
  have hn : H1 (hp.objs.size + 1) = none := I1.hok.fresh hsz
  have hq := q1 (hp.objs.size + 1) hn
  have kk : ∀ b o, hp.get? b = some o → ((hp.push (PySem.W.kdv_tup us)).push (PySem.HandSPX.excO C hp.objs.size)).get? b = some o := fun b o e => Heap.get?_push_of_some _ (Heap.get?_push_of_some _ e)
  have hget : ((hp.push (PySem.W.kdv_tup us)).push (PySem.HandSPX.excO C hp.objs.size)).get? (hp.objs.size + 1) = some (PySem.HandSPX.excO C hp.objs.size) := by heap_get
  have I2 : Inv X pins σ (upd H1 (hp.objs.size + 1) (exo (hp.objs.size + 1) C none)) ⟨(hp.push (PySem.W.kdv_tup us)).push (PySem.HandSPX.excO C hp.objs.size), g, dr, tk, os⟩ :=
    I1.laid (t' := tk) (a := hp.objs.size + 1) (o := exo (hp.objs.size + 1) C none) (h' := (hp.push (PySem.W.kdv_tup us)).push (PySem.HandSPX.excO C hp.objs.size)) kk hsz (exo_ok hget)
  have r2 : Vals (V.ref (hp.objs.size + 1) :: vs) (Value.ref (hp.objs.size + 1) :: us) := .cons rfl r1
  have hl : (Value.ref (hp.objs.size + 1) :: us).length = ps.length := by
    have e := r2.length
    rw [F1.len _ _ _ _ hq] at e
    exact e.symm
  have hus : us.length ≤ sizeLine := by
    rw [← Paired.length r1, sizeLine_eq]
    omega
  have hB := hb _ (Value.ref (hp.objs.size + 1) :: us) I2.kIn (by simpa using hl)
  rw [List.append_nil] at hB
  refine wpAny_call (PySem.HandSPX.call_own F.excBase_ValueError (fun Y => PySem.HandSPX.refsVE_contains Y bm hbm) (I1.kIn _ _ hC) (PySem.W.looks_findIn I1.kIn iC) (fun self => PySem.W.bind_fn I1.kIn self tI) hus
    (codeAny_mono (F1.run _ X.stack _ _ ⟨Value.ref (hp.objs.size + 1) :: us, []⟩ (Value.ref (hp.objs.size + 1) :: us) _ _ (fun _ _ _ => False) (hr.make C us []) (I2.env0.make C us []) hB r2 hq) fun r s' hq' => ?_))
  cases r with
  | error er => exact hx pins σ _ _ er s' I2 hq'
  | ok fl =>
    cases fl with
    | ret u =>
      obtain ⟨v, H2, os2, bare2, un2, hok2, rv, ev, q2⟩ := hq'
      subst ev
      exact ⟨rv, .ref (hp.objs.size + 1), H2, I2.call' (ch := []) os2 un2 hok2 bare2 (fun b z => absurd z (by simp)), rfl, q2⟩
    | next => exact False.elim hq'
    | brk => exact False.elim hq'
    | cont => exact False.elim hq'
end
end HG

/-! more rules of our own: a set of distinct texts, lists or tuples walked alike, tuples put together -/
namespace HG
open PySem PySem.Spec PyProof.Rows L2

/-! ### set(xs) of distinct texts -/
section
variable {prog : Program} {w : World} {A : Around} {R : Result → Shared → Prop} {I : Addr} {fp wr : List Addr} {G : Array GenState → Array GenState → Prop} {n : Nat} {P : Nat → Value → Prop} {St : Nat → Shared → Prop}
theorem take_more {xs : List Str} {i : Nat} (hi : i < xs.length) (k : Str) : ((xs.take i).any (· == k) || decide (k = xs.getD i Str.empty)) = (xs.take (i + 1)).any (· == k) := by
  have e : xs.getD i Str.empty = xs[i] := by simp [List.getD, List.getElem?_eq_getElem hi]
  rw [List.take_add_one, List.getElem?_eq_getElem hi, e]
  simp only [List.any_append, Option.toList, List.any_cons, List.any_nil, Bool.or_false]
  congr 1
  rw [Bool.eq_iff_iff, decide_eq_true_iff, beq_iff_eq]
  exact eq_comm
theorem take_no {xs : List Str} (hN : xs.Nodup) {i : Nat} (hi : i < xs.length) : (xs.take i).any (· == xs.getD i Str.empty) = false := by
  have e : xs.getD i Str.empty = xs[i] := by simp [List.getD, List.getElem?_eq_getElem hi]
  rw [e, List.any_eq_false]
  intro y hy he
  have hy2 : y = xs[i] := by simpa using he
  obtain ⟨j, hj, ej⟩ := List.getElem_of_mem hy
  rw [List.length_take] at hj
  rw [List.getElem_take] at ej
  have := (List.getElem_inj hN).mp (ej.trans hy2)
  omega
theorem fill_texts (W : WalksS prog w A.in1 I fp wr G n P St) (S : Addr) (hSf : S ∉ fp) (xs : List Str) (hN : xs.Nodup) (hz : xs.length = n) (hb : n + 1 < scanBound)
    (hval : ∀ i v, P i v → ∃ t, v = .str (xs.getD i Str.empty) t) :
    ∀ (m i : Nat) (s : Shared), i + m = n → St i s → s.heap.SetOf (PySem.strKind prog w) S (fun k => (xs.take i).any (· == k)) i →
      (∀ s', Moved (S :: wr) G s s' → s'.heap.SetOf (PySem.strKind prog w) S (fun k => (xs.take n).any (· == k)) n → R (.ok (.ret .none)) s') →
      codeAny (model prog w) A (.builtin "set.update.loop" ⟨[.ref S, .ref I], []⟩) R s := by
  have hSw : S ∉ wr := fun h => hSf (W.sub _ h)
  have hsub : ∀ b ∈ wr, b ∈ S :: wr := fun b hb => List.mem_cons_of_mem _ hb
  intro m
  induction m with
  | zero =>
    intro i s him hst hS hR
    obtain rfl : i = n := him
    refine codeAny_builtin PyProof.Rows.F.entry_set_update_loop ?_
    rw [Around.under_plainId PyProof.Rows.F.plain_set_update_loop _]
    refine wpAny_bind (W.done s _ _ hst fun s' hm => ?_)
    obtain ⟨o, es, ep, t, ho, q⟩ := hS
    exact wpAny_pure (hR s' (hm.mono hsub) ⟨o, es, ep, t, hm.heap S _ hSw ho, q⟩)
  | succ m ih =>
    intro i s him hst hS hR
    have hlt : i < n := by omega
    have hix : i < xs.length := by omega
    refine codeAny_builtin PyProof.Rows.F.entry_set_update_loop ?_
    rw [Around.under_plainId PyProof.Rows.F.plain_set_update_loop _]
    refine wpAny_bind (W.item i s _ _ hlt hst fun v s' hP hst' hm => ?_)
    obtain ⟨t, rfl⟩ := hval i v hP
    have hS' : s'.heap.SetOf (PySem.strKind prog w) S (fun k => (xs.take i).any (· == k)) i := by
      obtain ⟨o, es, ep, tb, ho, q⟩ := hS
      exact ⟨o, es, ep, tb, hm.heap S _ hSw ho, q⟩
    refine wpAny_bind (wpAny_holding ?_)
    unfold setAdd
    refine wpAny_holding (wpAny_bind ((PySem.strKind prog w).pyHash (k := xs.getD i Str.empty) (strKind_is _ _ _ _) ?_))
    refine wpAny_setAddHashed_of (knd := PySem.strKind prog w) (s := { s' with toks := s'.toks + 1 }) (strKind_is _ _ _ _) rfl hS' (by omega) fun h' hsb hS2 => ?_
    have hSi : h'.SetOf (PySem.strKind prog w) S (fun k => (xs.take (i + 1)).any (· == k)) (i + 1) := SetOf_congr hS2 (fun k => take_more hix k) (by rw [take_no hN hix]; rfl)
    refine wpAny_pure ⟨plainId_quiet PyProof.Rows.F.plain_set_update_loop _, ih (i + 1) _ (by omega) (W.frame _ s' _ _ hst' (Nat.le_succ _) fun b hb o e => ?_) hSi fun s'' hm'' hS'' => ?_⟩
    · rw [hsb.2 b (fun h : b = S => hSf (by rw [← h]; exact hb))]
      exact e
    · refine hR s'' (Moved.trans W.gtrans ((hm.mono hsub).then_heap (Nat.le_succ _) fun b o hb e => ?_) hm'') hS''
      rw [hsb.2 b (fun h : b = S => hb (by rw [h]; exact List.mem_cons_self))]
      exact e
end
section
variable {prog : Program} {w : World} {A : Around} {E : Value → Shared → Prop} {s : Shared}
abbrev emptySet (u : Bool) : Obj := { cls := .type "set", dict := none, data := .set #[] 0 (.fresh 0 0 u) }

set_option maxHeartbeats 6000000 in
theorem set_of_list {l : Addr} {items : Array Value} {xs : List Str} {Q : Value → Shared → Prop} (hh : A.handled = none) (hl : s.heap.IsList l items) (hi : PyProof.Rows.StrsAre items.toList xs) (hN : xs.Nodup) (hn : xs.length + 1 < scanBound)
    (q : ∀ (h' : Heap) (tk : Nat), h'.SetOf (PySem.strKind prog w) s.heap.objs.size (fun k => (xs.take xs.length).any (· == k)) xs.length → (∀ b o, b < s.heap.objs.size → s.heap.get? b = some o → h'.get? b = some o) → Q (.ref s.heap.objs.size) { s with heap := h', toks := tk }) :
    wpAny (model prog w) A (call (.type "set") [.ref l]) Q E s := by
  have hz : xs.length = items.size := by rw [← StrsAre.len_eq hi, Array.length_toList]
  obtain ⟨c0, tl0, hmro⟩ := PySem.F.called_set.mro
  have hmade := PySem.F.called_set.made
  have hsub := PySem.F.called_set.sub
  have h1 := PySem.F.called_set.notType
  have h2 := PySem.F.called_set.canCreate
  have hct := PySem.F.typeCall_set_1 (.ref l)
  refine wpAny_call (codeAny_of_tree ?_)
  show wpAny _ _ (callAny (.type "set") _) _ _ _
  refine wpAny_pure ⟨Code.quiet_builtin _ (by decide +kernel), codeAny_builtin PySem.F.entry_type_call ?_⟩
  rw [Around.under_plain (weight_type_call_type "set" [.ref l] []) rfl]
  repeat (any_goals (first | assumption | wp_step))
  refine codeAny_mono (code_set_new_1 (.ref l) (E := E) (Q₁ := fun obj s₁ => ∃ u : Bool, obj = .ref s.heap.objs.size ∧ s₁ = { s with heap := s.heap.push (emptySet u) }) fun u => ⟨u, rfl, rfl⟩) fun r s₁ hr => ?_
  cases r with
  | error e => exact hr
  | ok fl =>
    cases fl with
    | next => exact hr.elim
    | brk => exact hr.elim
    | cont => exact hr.elim
    | ret obj =>
      obtain ⟨u, rfl, rfl⟩ := hr
      have hS : (s.heap.push (emptySet u)).get? s.heap.objs.size = some (emptySet u) := Heap.get?_push_size _ rfl
      have hT : Shared.TypeIs { s with heap := s.heap.push (emptySet u) } (.ref s.heap.objs.size) "set" := ⟨_, hS, rfl⟩
      have hli := PySem.F.called_set.init.lookup
      have hbi := PySem.F.called_set.init.bind (.ref s.heap.objs.size)
      repeat (any_goals (first | assumption | wp_step))
      refine codeAny_mono (codeAny_call_builtin (R := wants (fun r s₂ => r = .none ∧ ∃ h' tk, s₂ = { s with heap := h', toks := tk } ∧ h'.SetOf (PySem.strKind prog w) s.heap.objs.size (fun k => (xs.take xs.length).any (· == k)) xs.length ∧
          (∀ b o, b < s.heap.objs.size → s.heap.get? b = some o → h'.get? b = some o)) E) PySem.F.called_set.init.plain PySem.F.entry_set_init (check_set_init_1 hT ?_)) fun r₂ s₂ hr₂ => ?_
      · obtain ⟨⟨oc, odd, oda, osl⟩, hol, hcl, nl, hdl⟩ := hl
        simp only at hcl hdl
        subst hcl hdl
        have hol' := Heap.get?_push_of_some (emptySet u) hol
        have z1 := PySem.F.sub_list_set
        have z2 := PySem.F.sub_list_frozenset
        have z3 : (Value.type "list" == Value.type "dict") = false := by decide
        have hl1 : (s.heap.push (emptySet u)).IsList l items := ⟨_, hol', rfl, nl, rfl⟩
        unfold Builtin.«set.__init__» noKeywords Builtin.Frozenset.updateFrom
        generalize hPI : pyIter = PI
        wp_walk
        subst hPI
        refine wpAny_pyIter_list hl1 (wpAny_bind (wpAny_runValue ?_))
        have hlS : l < s.heap.objs.size := Heap.lt_size hol
        have z4 : A.in1.in1.in1.handled = none := by simp [hh]
        have zs : (s.heap.push (emptySet u)).objs.size = s.heap.objs.size + 1 := Heap.size_push _ _
        have hneI : l ≠ (s.heap.push (emptySet u)).objs.size := by rw [zs]; exact Nat.ne_of_lt (Nat.lt_succ_of_lt hlS)
        have hSf : s.heap.objs.size ∉ [(s.heap.push (emptySet u)).objs.size, l] := by
          rw [zs]
          simp only [List.mem_cons, List.not_mem_nil, or_false, not_or]
          exact ⟨Nat.ne_of_lt (Nat.lt_succ_self _), Nat.ne_of_gt hlS⟩
        refine fill_texts ((Walks.list z4 _ l hneI items).toS) s.heap.objs.size hSf xs hN hz (by omega) (fun i v hv => SS.strs_at hi i v (by rw [Array.getElem?_toList]; exact hv)) items.size 0 _ (by omega)
          ⟨⟨_, Heap.get?_push_size _ rfl, rfl, rfl⟩, (hl1.push _)⟩ ?hS0 ?hR
        case hS0 => exact PyProof.Rows.SetOf_congr ((PyProof.Rows.setObjOf_fresh (knd := PySem.strKind prog w) u).setOf (Heap.get?_push_of_some _ hS) (by unfold scanBound; omega)) (fun _ => rfl) rfl
        case hR =>
          intro s' hm hS'
          obtain ⟨h', g', d', tk', os'⟩ := s'
          have eg : g' = s.gens := hm.gens
          have ed : d' = s.drawn := hm.drawn
          have eo : os' = s.os := hm.os
          subst eg ed eo
          rw [← hz] at hS'
          refine wpAny_pure (wpAny_pure ⟨rfl, h', tk', rfl, hS', fun b o hb e => ?_⟩)
          refine hm.heap b o ?_ (Heap.get?_push_of_some _ (Heap.get?_push_of_some _ e))
          rw [zs]
          simp only [List.mem_cons, List.not_mem_nil, or_false, not_or]
          exact ⟨Nat.ne_of_lt hb, Nat.ne_of_lt (Nat.lt_succ_of_lt hb)⟩
      · cases r₂ with
        | error e => exact hr₂
        | ok fl₂ =>
          cases fl₂ with
          | next => exact hr₂.elim
          | brk => exact hr₂.elim
          | cont => exact hr₂.elim
          | ret r =>
            obtain ⟨rfl, h', tk, rfl, hS', hk'⟩ := hr₂
            repeat (any_goals (first | assumption | wp_step))
            exact q _ _ hS' hk'

set_option maxHeartbeats 6000000 in
theorem set_of_tuple {l : Addr} {items : Array Value} {xs : List Str} {Q : Value → Shared → Prop} (hh : A.handled = none) (hl : s.heap.IsTuple l items) (hi : PyProof.Rows.StrsAre items.toList xs) (hN : xs.Nodup) (hn : xs.length + 1 < scanBound)
    (q : ∀ (h' : Heap) (tk : Nat), h'.SetOf (PySem.strKind prog w) s.heap.objs.size (fun k => (xs.take xs.length).any (· == k)) xs.length → (∀ b o, b < s.heap.objs.size → s.heap.get? b = some o → h'.get? b = some o) → Q (.ref s.heap.objs.size) { s with heap := h', toks := tk }) :
    wpAny (model prog w) A (call (.type "set") [.ref l]) Q E s := by
  have hz : xs.length = items.size := by rw [← StrsAre.len_eq hi, Array.length_toList]
  obtain ⟨c0, tl0, hmro⟩ := PySem.F.called_set.mro
  have hmade := PySem.F.called_set.made
  have hsub := PySem.F.called_set.sub
  have h1 := PySem.F.called_set.notType
  have h2 := PySem.F.called_set.canCreate
  have hct := PySem.F.typeCall_set_1 (.ref l)
  refine wpAny_call (codeAny_of_tree ?_)
  show wpAny _ _ (callAny (.type "set") _) _ _ _
  refine wpAny_pure ⟨Code.quiet_builtin _ (by decide +kernel), codeAny_builtin PySem.F.entry_type_call ?_⟩
  rw [Around.under_plain (weight_type_call_type "set" [.ref l] []) rfl]
  repeat (any_goals (first | assumption | wp_step))
  refine codeAny_mono (code_set_new_1 (.ref l) (E := E) (Q₁ := fun obj s₁ => ∃ u : Bool, obj = .ref s.heap.objs.size ∧ s₁ = { s with heap := s.heap.push (emptySet u) }) fun u => ⟨u, rfl, rfl⟩) fun r s₁ hr => ?_
  cases r with
  | error e => exact hr
  | ok fl =>
    cases fl with
    | next => exact hr.elim
    | brk => exact hr.elim
    | cont => exact hr.elim
    | ret obj =>
      obtain ⟨u, rfl, rfl⟩ := hr
      have hS : (s.heap.push (emptySet u)).get? s.heap.objs.size = some (emptySet u) := Heap.get?_push_size _ rfl
      have hT : Shared.TypeIs { s with heap := s.heap.push (emptySet u) } (.ref s.heap.objs.size) "set" := ⟨_, hS, rfl⟩
      have hli := PySem.F.called_set.init.lookup
      have hbi := PySem.F.called_set.init.bind (.ref s.heap.objs.size)
      repeat (any_goals (first | assumption | wp_step))
      refine codeAny_mono (codeAny_call_builtin (R := wants (fun r s₂ => r = .none ∧ ∃ h' tk, s₂ = { s with heap := h', toks := tk } ∧ h'.SetOf (PySem.strKind prog w) s.heap.objs.size (fun k => (xs.take xs.length).any (· == k)) xs.length ∧
          (∀ b o, b < s.heap.objs.size → s.heap.get? b = some o → h'.get? b = some o)) E) PySem.F.called_set.init.plain PySem.F.entry_set_init (check_set_init_1 hT ?_)) fun r₂ s₂ hr₂ => ?_
      · obtain ⟨⟨oc, odd, oda, osl⟩, hol, hcl, nl, hdl⟩ := hl
        simp only at hcl hdl
        subst hcl hdl
        have hol' := Heap.get?_push_of_some (emptySet u) hol
        have z1 := PySem.F.sub_tuple_set
        have z2 := PySem.F.sub_tuple_frozenset
        have z3 : (Value.type "tuple" == Value.type "dict") = false := by decide
        have hl1 : (s.heap.push (emptySet u)).IsTuple l items := ⟨_, hol', rfl, nl, rfl⟩
        unfold Builtin.«set.__init__» noKeywords Builtin.Frozenset.updateFrom
        generalize hPI : pyIter = PI
        wp_walk
        subst hPI
        refine wpAny_pyIter_tuple hl1 (wpAny_bind (wpAny_runValue ?_))
        have hlS : l < s.heap.objs.size := Heap.lt_size hol
        have z4 : A.in1.in1.in1.handled = none := by simp [hh]
        have zs : (s.heap.push (emptySet u)).objs.size = s.heap.objs.size + 1 := Heap.size_push _ _
        have hneI : l ≠ (s.heap.push (emptySet u)).objs.size := by rw [zs]; exact Nat.ne_of_lt (Nat.lt_succ_of_lt hlS)
        have hSf : s.heap.objs.size ∉ [(s.heap.push (emptySet u)).objs.size, l] := by
          rw [zs]
          simp only [List.mem_cons, List.not_mem_nil, or_false, not_or]
          exact ⟨Nat.ne_of_lt (Nat.lt_succ_self _), Nat.ne_of_gt hlS⟩
        refine fill_texts ((Walks.tuple z4 _ l hneI items).toS) s.heap.objs.size hSf xs hN hz (by omega) (fun i v hv => SS.strs_at hi i v (by rw [Array.getElem?_toList]; exact hv)) items.size 0 _ (by omega)
          ⟨⟨_, Heap.get?_push_size _ rfl, rfl, rfl⟩, (hl1.push _)⟩ ?hS0 ?hR
        case hS0 => exact PyProof.Rows.SetOf_congr ((PyProof.Rows.setObjOf_fresh (knd := PySem.strKind prog w) u).setOf (Heap.get?_push_of_some _ hS) (by unfold scanBound; omega)) (fun _ => rfl) rfl
        case hR =>
          intro s' hm hS'
          obtain ⟨h', g', d', tk', os'⟩ := s'
          have eg : g' = s.gens := hm.gens
          have ed : d' = s.drawn := hm.drawn
          have eo : os' = s.os := hm.os
          subst eg ed eo
          rw [← hz] at hS'
          refine wpAny_pure (wpAny_pure ⟨rfl, h', tk', rfl, hS', fun b o hb e => ?_⟩)
          refine hm.heap b o ?_ (Heap.get?_push_of_some _ (Heap.get?_push_of_some _ e))
          rw [zs]
          simp only [List.mem_cons, List.not_mem_nil, or_false, not_or]
          exact ⟨Nat.ne_of_lt hb, Nat.ne_of_lt (Nat.lt_succ_of_lt hb)⟩
      · cases r₂ with
        | error e => exact hr₂
        | ok fl₂ =>
          cases fl₂ with
          | next => exact hr₂.elim
          | brk => exact hr₂.elim
          | cont => exact hr₂.elim
          | ret r =>
            obtain ⟨rfl, h', tk, rfl, hS', hk'⟩ := hr₂
            repeat (any_goals (first | assumption | wp_step))
            exact q _ _ hS' hk'

end
section
variable {X : Cx}
/-- len(set(xs)), xs a list or tuple of distinct texts -/
def tLenTexts (K : PySem.W.Frag) (ta : TE) : TE := fun σ H Q => ta σ H fun x H1 => ∃ (l : Addr) (xs : List Str), x = .ref l ∧ (SqL K H1 l (xs.map V.str) ∨ SqT K H1 l (xs.map V.str)) ∧ xs.Nodup ∧ xs.length ≤ 1000 ∧ Q (.int xs.length) H1
theorem pe_lenTexts {a : Expr} {ta : TE} {p p2 q pos : Pos} (hc : X.calm = true) (hg : Gl X "len") (hm : X.mg "len" = none) (hg2 : Gl X "set") (hm2 : X.mg "set" = none) (ha : PE X a ta)
    (na : starEach [a] X.env = (false, eval a X.env) :: starEach [] X.env := by rfl) : PE X (.Call (.Name "len" p) [.Call (.Name "set" p2) [a] [] q] [] pos) (tLenTexts X.K ta) := by
  refine ⟨fun pins s σ H Q I h => Call_ (ld_blt I hg hm boot_len (PyProof.Rows.callWith_builtin1 (PyProof.Rows.args_cons ?_ rfl) rfl rfl))⟩
  refine Call_ (ld_blt I hg2 hm2 boot_set (PyProof.Rows.callWith_type1 (PyProof.Rows.args_cons (thn (ha.run pins s σ H _ I h) fun v s1 ⟨x, H1, I1, r1, q1⟩ => PyProof.Rows.args_nil ?_) na) na rfl))
  obtain ⟨l, xs, rfl, hq, hN, hz, q1⟩ := q1
  cases r1
  have hb : xs.length + 1 < scanBound := by unfold scanBound; omega
  have fin : ∀ (h' : Heap) (tk : Nat), h'.SetOf (PySem.strKind X.prog X.w) s1.heap.objs.size (fun k => (xs.take xs.length).any (· == k)) xs.length → (∀ b o, b < s1.heap.objs.size → s1.heap.get? b = some o → h'.get? b = some o) →
      wpAny (model X.prog X.w) X.A (spliced (backTo pos (starEach [] X.env))) (fun vs s₂ => wpAny (model X.prog X.w) X.A (call (.builtin "len") (Value.ref s1.heap.objs.size :: vs)) (EP X pins σ Q) X.xe s₂) X.xe { s1 with heap := h', toks := tk } := fun h' tk hS hk => by
    obtain ⟨o, es, ep, t, ho, hex, hd, _, _, _, hf, hn⟩ := hS
    have I2 : Inv X pins σ H1 { s1 with heap := h', toks := tk } := I1.kept fun b o e => hk b o (Heap.lt_size e) e
    exact PyProof.Rows.args_nil (call_len_set ho hex hd hf (by rw [hn] <;> omega) ⟨.int xs.length, H1, I2.tok _, ⟨_, by rw [hn]⟩, q1⟩)
  rcases hq with hq | hq
  · obtain ⟨its, r, pl, _⟩ := I1.list hq
    exact set_of_list (I1.ok.hd hc) pl.isList (by simpa using strsAre_of r) hN hb fin
  · obtain ⟨its, r, pl, _⟩ := I1.tuple hq
    exact set_of_tuple (I1.ok.hd hc) pl (by simpa using strsAre_of r) hN hb fin
end
end HG

namespace HG
open PySem PySem.Spec PyProof.Rows L2
/-! ### the text -/
def topS (i : Nat) : Stmt := PySem.Challenge.pw_heightgames_k20_squares_listed.main.body.getD i (.Pass ⟨0, 0, 0, 0⟩)
abbrev s_wall : Stmt := topS 0
abbrev s_Wrong___init : Stmt := inClass (topS 3) 0
abbrev s_NoChooser___init : Stmt := inClass (topS 4) 0
abbrev s_NoStanding___init : Stmt := inClass (topS 5) 0
abbrev s_NoSquare___init : Stmt := inClass (topS 6) 0
abbrev s_NoRing___init : Stmt := inClass (topS 7) 0
abbrev s_is_integer : Stmt := topS 12
abbrev s_is_name : Stmt := topS 13
abbrev s_are_names : Stmt := topS 14
abbrev s_is_shape : Stmt := topS 15
abbrev s_is_change : Stmt := topS 16
abbrev s_sorted_ways : Stmt := topS 18
abbrev s_standings_of : Stmt := topS 19
abbrev s_put : Stmt := topS 20
abbrev s_is_one_of : Stmt := topS 21
abbrev s_are_integers : Stmt := topS 22
abbrev s_is_table : Stmt := topS 23
abbrev s_squares : Stmt := topS 25
abbrev s_squares_at : Stmt := topS 26
abbrev s_is_square : Stmt := topS 27
abbrev s_is_upward : Stmt := topS 28
abbrev s_ring_of : Stmt := topS 29
abbrev s_sums : Stmt := topS 30
abbrev s_Game___init : Stmt := inClass (topS 32) 0
abbrev s_Game___eq : Stmt := inClass (topS 32) 1
abbrev s_Game___len : Stmt := inClass (topS 32) 2
abbrev s_Game___contains : Stmt := inClass (topS 32) 3
abbrev s_Game___iter : Stmt := inClass (topS 32) 4
abbrev s_Game_choosers : Stmt := inClass (topS 32) 5
abbrev s_Game_ways : Stmt := inClass (topS 32) 6
abbrev s_Game_shape : Stmt := inClass (topS 32) 7
abbrev s_Game_standings : Stmt := inClass (topS 32) 8
abbrev s_Game_gain : Stmt := inClass (topS 32) 9
abbrev s_Game_gains : Stmt := inClass (topS 32) 10
abbrev s_Game_goal : Stmt := inClass (topS 32) 11
abbrev s_Game_own : Stmt := inClass (topS 32) 12
abbrev s_Game_changes : Stmt := inClass (topS 32) 13
abbrev s_Game_with_gains : Stmt := inClass (topS 32) 14
abbrev s_Game_plus : Stmt := inClass (topS 32) 15
abbrev s_Game_times : Stmt := inClass (topS 32) 16
abbrev s_Game_with_extra : Stmt := inClass (topS 32) 17
abbrev s_Game_kept : Stmt := inClass (topS 32) 18
abbrev s_Game_has_chooser : Stmt := inClass (topS 32) 19
abbrev s_Game_has_line : Stmt := inClass (topS 32) 20
abbrev s_Game_can_do : Stmt := inClass (topS 32) 21
abbrev s_Game_can_keep : Stmt := inClass (topS 32) 22
abbrev s_Game_seat : Stmt := inClass (topS 32) 23
abbrev s_Game_check_chooser : Stmt := inClass (topS 32) 24
abbrev s_Game_check_standing : Stmt := inClass (topS 32) 25
abbrev s_law_bag : Stmt := topS 34
abbrev s_law_take : Stmt := topS 35
abbrev s_law_one : Stmt := topS 36
abbrev s_law_mixed : Stmt := topS 37
abbrev s_law_names : Stmt := topS 38
abbrev s_law_sizes : Stmt := topS 39
abbrev s_law_product : Stmt := topS 40
abbrev s_law_shape : Stmt := topS 41
abbrev s_law_wider : Stmt := topS 42
abbrev s_law_standings : Stmt := topS 43
abbrev s_law_number : Stmt := topS 44
abbrev s_law_gains : Stmt := topS 45
abbrev s_law_squares : Stmt := topS 46
abbrev s_law_corners : Stmt := topS 47
abbrev s_law_sums : Stmt := topS 48
abbrev s_law_tried : Stmt := topS 49
abbrev s_law_bad : Stmt := topS 50
abbrev s_law : Stmt := topS 51
end HG

namespace HG
open PySem PySem.Spec PyProof.Rows L2
open C8 (pss_cut tCut)
/-! ### values of any kind, as isinstance sees them -/
inductive Tg | non | bl | int | str | lst | tup | dct | ins
  deriving DecidableEq
def Tg.isa : Tg → String → Bool
  | .bl, T => T == "bool" || T == "int"
  | .int, T => T == "int"
  | .str, T => T == "str"
  | .lst, T => T == "list"
  | .tup, T => T == "tuple"
  | .dct, T => T == "dict"
  | _, _ => false
abbrev six : List String := ["str", "int", "bool", "list", "tuple", "dict"]
structure AnyV (K : PySem.W.Frag) (H : Hp) (x : V) (t : Tg) : Prop where
  ty : ∃ ty, TyX K H x ty ∧ ∀ T ∈ six, PySem.W.kitOne K ty (.type T) = some (t.isa T)
  st : t = .str → ∃ z, x = .str z ∧ z.length ≤ sizeLine
  ns : t ≠ .str → ∀ z, x ≠ .str z
theorem six_of {K : PySem.W.Frag} {ty : Value} {t : Tg} (h1 : PySem.W.kitOne K ty (.type "str") = some (t.isa "str")) (h2 : PySem.W.kitOne K ty (.type "int") = some (t.isa "int")) (h3 : PySem.W.kitOne K ty (.type "bool") = some (t.isa "bool"))
    (h4 : PySem.W.kitOne K ty (.type "list") = some (t.isa "list")) (h5 : PySem.W.kitOne K ty (.type "tuple") = some (t.isa "tuple")) (h6 : PySem.W.kitOne K ty (.type "dict") = some (t.isa "dict")) : ∀ T ∈ six, PySem.W.kitOne K ty (.type T) = some (t.isa T) := by
  intro T hT
  simp only [List.mem_cons, List.not_mem_nil, or_false] at hT
  rcases hT with rfl | rfl | rfl | rfl | rfl | rfl <;> assumption
theorem six_ty {K : PySem.W.Frag} {a : String} {t : Tg} (h : (six.all fun T => decide (kitB a T = some (t.isa T))) = true) : ∀ T ∈ six, PySem.W.kitOne K (.type a) (.type T) = some (t.isa T) := by
  intro T hT
  exact kit_ty (of_decide_eq_true (List.all_eq_true.mp h T hT))
section
variable {K : PySem.W.Frag} {H : Hp}
theorem AnyV.non : AnyV K H .non .non := ⟨⟨_, .base .non, six_ty (by decide +kernel)⟩, (fun z => nomatch z), (fun _ z e => nomatch e)⟩
theorem AnyV.bl (b : Bool) : AnyV K H (.bl b) .bl := ⟨⟨_, .base (.bl b), six_ty (by decide +kernel)⟩, (fun z => nomatch z), (fun _ z e => nomatch e)⟩
theorem AnyV.int (i : Int) : AnyV K H (.int i) .int := ⟨⟨_, .base (.int i), six_ty (by decide +kernel)⟩, (fun z => nomatch z), (fun _ z e => nomatch e)⟩
theorem AnyV.str (z : Str) (h : z.length ≤ sizeLine) : AnyV K H (.str z) .str := ⟨⟨_, .base (.str z), six_ty (by decide +kernel)⟩, fun _ => ⟨z, rfl, h⟩, fun n => (n rfl).elim⟩
theorem AnyV.lst {a : Addr} {xs : List V} (h : H a = some (.lst xs)) : AnyV K H (.ref a) .lst := ⟨⟨_, .base (.lst h), six_ty (by decide +kernel)⟩, (fun z => nomatch z), (fun _ z e => nomatch e)⟩
theorem AnyV.tup {a : Addr} {xs : List V} (h : H a = some (.tup xs)) : AnyV K H (.ref a) .tup := ⟨⟨_, .base (.tup h), six_ty (by decide +kernel)⟩, (fun z => nomatch z), (fun _ z e => nomatch e)⟩
theorem AnyV.dK {a : Addr} {xs : List (Key × V)} (h : H a = some (.dK xs)) : AnyV K H (.ref a) .dct := ⟨⟨_, .base (.dK h), six_ty (by decide +kernel)⟩, (fun z => nomatch z), (fun _ z e => nomatch e)⟩
theorem AnyV.dT {a : Addr} {xs : List (List Key × V)} (h : H a = some (.dT xs)) : AnyV K H (.ref a) .dct := ⟨⟨_, .base (.dT h), six_ty (by decide +kernel)⟩, (fun z => nomatch z), (fun _ z e => nomatch e)⟩
theorem AnyV.same {H' : Hp} {x : V} {t : Tg} (h : AnyV K H x t) (s : Same H H') : AnyV K H' x t := by
  obtain ⟨⟨ty, hty, q⟩, h1, h2⟩ := h
  refine ⟨⟨ty, ?_, q⟩, h1, h2⟩
  cases hty with
  | base b =>
    refine .base ?_
    cases b with
    | non => exact .non
    | bl z => exact .bl z
    | int z => exact .int z
    | str z => exact .str z
    | flt z => exact .flt z
    | lst e => exact .lst (s _ _ e)
    | frz e => exact .frz (s _ _ e)
    | tup e => exact .tup (s _ _ e)
    | dK e => exact .dK (s _ _ e)
    | dT e => exact .dT (s _ _ e)
    | ins e c a n t m => exact .ins (s _ _ e) c a n t m
  | byt b => exact .byt b
  | set e => exact .set (s _ _ e)
  | kList e c => exact .kList e c
  | kTuple e c => exact .kTuple e c
  | kDict e c => exact .kDict e c
  | fTuple e => exact .fTuple (s _ _ e)
  | fDict e => exact .fDict (s _ _ e)
end
/-- a list or a tuple, of these -/
inductive SeqV (K : PySem.W.Frag) (H : Hp) : V → List V → Prop
  | lst {a : Addr} {xs : List V} (h : SqL K H a xs) (t : AnyV K H (.ref a) .lst) : SeqV K H (.ref a) xs
  | tup {a : Addr} {xs : List V} (h : SqT K H a xs) (t : AnyV K H (.ref a) .tup) : SeqV K H (.ref a) xs
theorem same_sqt {K : PySem.W.Frag} {H H' : Hp} {a : Addr} {xs : List V} (e : Same H H') (h : SqT K H a xs) : SqT K H' a xs := by
  rcases h with (h | ⟨o, h⟩) | h
  · exact .inl (.inl (e _ _ h))
  · exact .inl (.inr ⟨o, e _ _ h⟩)
  · exact .inr h
theorem SeqV.same {K : PySem.W.Frag} {H H' : Hp} {x : V} {xs : List V} (h : SeqV K H x xs) (s : Same H H') : SeqV K H' x xs := by
  cases h with
  | lst h t => exact .lst (s.seq h) (t.same s)
  | tup h t => exact .tup (same_sqt s h) (t.same s)
/-- isinstance(x, (list, tuple)) -/
theorem kit_lt {K : PySem.W.Frag} {ty : Value} {t : Tg} (q : ∀ T ∈ six, PySem.W.kitOne K ty (.type T) = some (t.isa T)) : PySem.W.kitAny K ty [.type "list", .type "tuple"] = some (t.isa "list" || t.isa "tuple") := by
  have h1 := q "list" (by decide)
  have h2 := q "tuple" (by decide)
  unfold PySem.W.kitAny
  rw [h1]
  cases e : t.isa "list" with
  | true => rfl
  | false =>
    show PySem.W.kitAny K ty [.type "tuple"] = _
    unfold PySem.W.kitAny
    rw [h2]
    cases e2 : t.isa "tuple" <;> rfl
theorem kit_tl {K : PySem.W.Frag} {ty : Value} {t : Tg} (q : ∀ T ∈ six, PySem.W.kitOne K ty (.type T) = some (t.isa T)) : PySem.W.kitAny K ty [.type "tuple", .type "list"] = some (t.isa "tuple" || t.isa "list") := by
  have h1 := q "list" (by decide)
  have h2 := q "tuple" (by decide)
  unfold PySem.W.kitAny
  rw [h2]
  cases e : t.isa "tuple" with
  | true => rfl
  | false =>
    show PySem.W.kitAny K ty [.type "list"] = _
    unfold PySem.W.kitAny
    rw [h1]
    cases e2 : t.isa "list" <;> rfl
theorem pi_or {X : Cx} {tg iter : Expr} {w1 w2 : TI} (h1 : PI X tg iter w1) (h2 : PI X tg iter w2) : PI X tg iter (fun σ H R => w1 σ H R ∨ w2 σ H R) :=
  ⟨fun pins s σ H R I h => h.elim (fun q => h1.run pins s σ H R I q) (fun q => h2.run pins s σ H R I q)⟩
/-! ### kinds -/
def isNm (z : Str) : Bool := decide (z.length ≤ 8) && (Txt.isascii z && (Txt.isalpha z && Txt.islower z))
def nameV : V → Bool
  | .str z => isNm z
  | _ => false
theorem nameV_no {x : V} (h : ∀ z, x ≠ .str z) : nameV x = false := by
  cases x <;> first | rfl | exact absurd rfl (h _)
section
variable {X : Cx}
/-- isinstance(x, T), T one of the six; isinstance(x, (list, tuple)) -/
def rIsi6 (K : PySem.W.Frag) : List V → Hp → VK → Prop := fun xs H Q => ∃ (x : V) (t : Tg) (n : String), xs = [x, .ty n] ∧ AnyV K H x t ∧ n ∈ six ∧ Q (.bl (t.isa n)) H
theorem call_isi6 : CallR X (.builtin "isinstance") (rIsi6 X.K) := by
  intro pins s σ H xs us Q I r h
  obtain ⟨x, t, n, rfl, ⟨⟨ty, hty, k⟩, _, _⟩, hn, q⟩ := h
  exact call_isi pins s σ H _ us Q I r ⟨x, .ty n, ty, _, _, rfl, .ty n, hty, k n hn, q⟩
def rIsiLT (K : PySem.W.Frag) : List V → Hp → VK → Prop := fun xs H Q => ∃ (x : V) (t : Tg) (p : Addr) (a b : String), xs = [x, .ref p] ∧ H p = some (.tup [.ty a, .ty b]) ∧ (a = "list" ∧ b = "tuple" ∨ a = "tuple" ∧ b = "list") ∧ AnyV K H x t ∧ Q (.bl (t.isa "list" || t.isa "tuple")) H
theorem call_isiLT : CallR X (.builtin "isinstance") (rIsiLT X.K) := by
  intro pins s σ H xs us Q I r h
  obtain ⟨x, t, p, a, b, rfl, hp, hab, ⟨⟨ty, hty, k⟩, _, _⟩, q⟩ := h
  rcases hab with ⟨rfl, rfl⟩ | ⟨rfl, rfl⟩
  · exact call_isiT pins s σ H _ us Q I r ⟨x, p, _, ty, _, _, rfl, hp, .cons (.ty _) (.cons (.ty _) .nil), hty, kit_lt k, q⟩
  · rw [Bool.or_comm] at q
    exact call_isiT pins s σ H _ us Q I r ⟨x, p, _, ty, _, _, rfl, hp, .cons (.ty _) (.cons (.ty _) .nil), hty, kit_tl k, q⟩
end
def spIsName (K : PySem.W.Frag) : Sp := fun vs H Q _ => ∃ x t, vs = [x] ∧ AnyV K H x t ∧ Q (.bl (nameV x)) H
structure KT (K : PySem.W.Frag) (mg : Str → Option Value) : Prop where
  m_isinstance : mg "isinstance" = none
  m_len : mg "len" = none
  m_all : mg "all" = none
  m_set : mg "set" = none
  m_list : mg "list" = none
  m_tuple : mg "tuple" = none
  m_dict : mg "dict" = none
  m_str : mg "str" = none
  m_int : mg "int" = none
  m_bool : mg "bool" = none
  g_letters : ∃ t, mg "MOST_LETTERS" = some (.int 8 t)
  g_names : ∃ t, mg "MOST_NAMES" = some (.int 4 t)
  g_standings : ∃ t, mg "MOST_STANDINGS" = some (.int 81 t)
structure Df (K : PySem.W.Frag) (mg : Str → Option Value) (x : Str) (st : Stmt) (f : Addr) (fd : FuncData) : Prop where
  g : mg x = some (.ref f)
  F : Fun K x x st f fd
section
variable {P : Program} {w : World} {K : PySem.W.Frag} {mg : Str → Option Value} {base : Heap}
theorem ok_is_name {f : Addr} {fd : FuncData} (D : Df K mg "is_name" s_is_name f fd) (T : KT K mg) : FnOk P w K mg base CX0 1 f fd ["thing"] (spIsName K) := by
  have S : FnScope ["thing"] ["thing"] (defScope s_is_name) := ⟨rfl, rfl, rfl, by decide +kernel, rfl, by decide +kernel, by decide +kernel⟩
  refine D.F.ok S (fun vs H Q E h => ?_) (fun cdv A outer s H vs Q E hr h => ?_)
  · obtain ⟨x, t, rfl, _⟩ := h
    rfl
  · obtain ⟨x, t, rfl, hx, q⟩ := h
    obtain ⟨tk, gL⟩ := T.g_letters
    refine ⟨_, pss_cons (ps_if (PW.pt (pw_or (pt_not (pt_val (pe_callB call_isi6 (by rfl) T.m_isinstance (by decide +kernel) (pa_cons (pv 0) (pa_cons (pe_bltn (v := .ty "str") (by rfl) T.m_str (by decide +kernel) rfl) pa_nil)))))
        (pw_or1 (pt_cmpR op_gt (pe_callB call_len_str (by rfl) T.m_len PySem.boot_len (pa_cons (pv 0) pa_nil)) (pe_glob (v := .int 8) (by rfl) gL ⟨_, rfl⟩) (nomark _))))) (pss_one (ps_ret pe_bl)) pss_nil)
      (pss_one (ps_ret (pe_and (pe_m0 PySem.F.slot_str_isascii PySem.F.type_str_isascii mt_isascii (pv 0)) (pe_and (pe_m0 PySem.F.slot_str_isalpha PySem.F.type_str_isalpha mt_isalpha (pv 0)) (pe_one (pe_m0 PySem.F.slot_str_islower PySem.F.type_str_islower mt_islower (pv 0))))))), ?_⟩
    refine ⟨_, rfl, x, t, _, rfl, hx, by decide, _, rfl, ?_⟩
    by_cases ht : t = .str
    · subst ht
      obtain ⟨z, rfl, hz⟩ := hx.st rfl
      refine iteF ⟨_, rfl, z, rfl, hz, _, _, rfl, rfl, _, rfl, ite2 (fun h8 => ?_) (fun h8 => ?_)⟩
      · have h8' := of_decide_eq_true h8
        have e : nameV (.str z) = false := by
          show isNm z = false
          unfold isNm
          rw [decide_eq_false (by omega)]
          rfl
        rw [e] at q
        exact q
      · have h8' : ¬ (8 : Int) < z.length := fun z => h8 (decide_eq_true z)
        have e : nameV (.str z) = (Txt.isascii z && (Txt.isalpha z && Txt.islower z)) := by
          show isNm z = _
          unfold isNm
          rw [decide_eq_true (by omega)]
          rfl
        rw [e] at q
        refine ⟨_, rfl, ⟨_, rfl⟩, z, rfl, rfl, trivial, _, rfl, ?_⟩
        cases e1 : Txt.isascii z with
        | false =>
          rw [e1] at q
          exact q
        | true =>
          rw [e1] at q
          refine ⟨_, rfl, ⟨_, rfl⟩, z, rfl, rfl, trivial, _, rfl, ?_⟩
          cases e2 : Txt.isalpha z with
          | false =>
            rw [e2] at q
            exact q
          | true =>
            rw [e2] at q
            exact ⟨_, rfl, ⟨_, rfl⟩, z, rfl, rfl, trivial, q⟩
    · have hb : t.isa "str" = false := by cases t <;> first | rfl | exact absurd rfl ht
      rw [hb]
      refine iteT ?_
      rw [nameV_no (hx.ns ht)] at q
      exact q
end
end HG

namespace HG
open PySem PySem.Spec PyProof.Rows L2
open C8 (pss_cut tCut)
theorem same_upd {H : Hp} {p : Addr} {o : HO} (h : H p = none) : Same H (upd H p o) := fun b x e => by
  rw [upd_ne (ne_of_none e h)]
  exact e
def namesV (xs : List V) : Bool := (decide (1 ≤ xs.length) && decide (xs.length ≤ 4)) && xs.all nameV
def spAreNames (K : PySem.W.Frag) : Sp := fun vs H Q _ => ∃ x, vs = [x] ∧
  ((∃ xs, SeqV K H x xs ∧ (1 ≤ xs.length → xs.length ≤ 4 → ∀ y ∈ xs, ∃ t, AnyV K H y t) ∧ ∀ H', Same H H' → Q (.bl (namesV xs)) H') ∨
   (∃ t, AnyV K H x t ∧ t ≠ .lst ∧ t ≠ .tup ∧ ∀ H', Same H H' → Q (.bl false) H'))
section
variable {P : Program} {w : World} {K : PySem.W.Frag} {mg : Str → Option Value} {base : Heap}
theorem SeqV.any {H : Hp} {x : V} {xs : List V} (h : SeqV K H x xs) : ∃ t, AnyV K H x t ∧ (t.isa "list" || t.isa "tuple") = true := by
  cases h with
  | lst h t => exact ⟨_, t, rfl⟩
  | tup h t => exact ⟨_, t, rfl⟩
theorem SeqV.len {H : Hp} {x : V} {xs : List V} (h : SeqV K H x xs) : ∃ p, x = .ref p ∧ (SqL K H p xs ∨ SqT K H p xs) := by
  cases h with
  | lst h t => exact ⟨_, rfl, .inl h⟩
  | tup h t => exact ⟨_, rfl, .inr h⟩
theorem ok_are_names {f fN : Addr} {fd fdN : FuncData} (D : Df K mg "are_names" s_are_names f fd) (N : Df K mg "is_name" s_is_name fN fdN) (bN : Binds K fdN ["thing"] []) (T : KT K mg) : FnOk P w K mg base CX0 2 f fd ["thing"] (spAreNames K) := by
  have S : FnScope ["thing", "item"] ["thing"] (defScope s_are_names) := ⟨rfl, rfl, rfl, by decide +kernel, rfl, by decide +kernel, by decide +kernel⟩
  refine D.F.ok S (fun vs H Q E h => ?_) (fun cdv A outer s H vs Q E hr h => ?_)
  · obtain ⟨x, rfl, _⟩ := h
    rfl
  · obtain ⟨x, rfl, q⟩ := h
    have nd := S.nd
    obtain ⟨tk, gN⟩ := T.g_names
    refine ⟨_, pss_cons (ps_if (PW.pt (pw_or (pt_not (pt_val (pe_callB call_isiLT (by rfl) T.m_isinstance (by decide +kernel) (pa_cons (pv 0) (pa_cons (pe_tup (pa_cons (pe_bltn (v := .ty "list") (by rfl) T.m_list (by decide +kernel) rfl) (pa_cons (pe_bltn (v := .ty "tuple") (by rfl) T.m_tuple (by decide +kernel) rfl) pa_nil))) pa_nil)))))
        (pw_or1 (pt_not (pt_chain op_le op_le pe_int (pe_callB call_len_seq (by rfl) T.m_len PySem.boot_len (pa_cons (pv 0) pa_nil)) (pe_glob (v := .int 4) (by rfl) gN ⟨_, rfl⟩)))))) (pss_one (ps_ret pe_bl)) pss_nil)
      (pss_one (ps_ret (pe_callB (cr_all rfl) (by rfl) T.m_all (by decide +kernel) (pa_cons (pe_lc (own := [("item", 1)]) (g := gName 1) (tt := tYes) rfl nd (pi_or (pi_list (pv 0)) (pi_tup (pv 0))) (blkOk_by (N := ["thing", "item"]) (sc := defScope s_are_names) (by decide +kernel)) (fun _ _ _ _ _ => pg_name (i := 1) nd rfl (Or.inl rfl)) (fun _ _ _ _ _ => pts_nil)
        (fun _ _ _ _ _ => pe_call (ok_is_name N T) hr (by rfl) N.g N.F.kp bN .nil pass0 (pa_cons (pv 1) pa_nil))) pa_nil)))), ?_⟩
    rcases q with ⟨xs, hx, ha, q⟩ | ⟨t, ht, n1, n2, q⟩
    · obtain ⟨t, ht, hb⟩ := hx.any
      obtain ⟨p, rfl, hl⟩ := hx.len
      refine ⟨_, rfl, (by show 2 ≤ sizeLine; decide), fun pt npt => ?_⟩
      have st := same_upd (o := .tup [.ty "list", .ty "tuple"]) npt
      refine ⟨_, t, pt, _, _, rfl, upd_same, .inl ⟨rfl, rfl⟩, ht.same st, _, rfl, ?_⟩
      rw [hb]
      have hl' : SqL K (upd H pt (.tup [.ty "list", .ty "tuple"])) p xs ∨ SqT K (upd H pt (.tup [.ty "list", .ty "tuple"])) p xs := hl.imp st.seq (same_sqt st)
      refine iteF ⟨_, rfl, p, xs, rfl, hl', _, _, rfl, rfl, _, rfl, ?_⟩
      refine ite2 (fun h1 => ?_) (fun h1 => ?_)
      · have h1' := of_decide_eq_true h1
        refine ⟨_, _, rfl, rfl, _, rfl, ite2 (fun h2 => ?_) (fun h2 => ?_)⟩
        · have z : ¬ (xs.length : Int) ≤ 4 := by simpa using h2
          have e : namesV xs = false := by
            unfold namesV
            rw [decide_eq_false (show ¬ xs.length ≤ 4 by omega)]
            simp
          rw [e] at q
          exact q _ st
        · have z : (xs.length : Int) ≤ 4 := by simpa using h2
          have e : namesV xs = (xs.map nameV).all id := by
            unfold namesV
            rw [decide_eq_true (show xs.length ≤ 4 by omega), decide_eq_true (show 1 ≤ xs.length by omega), List.all_map]
            rfl
          rw [e] at q
          have hx' := hx.same st
          have ha' := fun y hy => let ⟨t, h⟩ := ha (by omega) (by omega) y hy; (⟨t, h.same st⟩ : ∃ t, AnyV K (upd H pt (.tup [.ty "list", .ty "tuple"])) y t)
          cases hx' with
          | lst hs _ =>
            refine .inl ⟨_, rfl, p, rfl, ⟨_, hs⟩, fun D hD => ?_⟩
            refine lc_list (K := K) (a := p) (xs := xs) (fun i H' => H' D = some (.lst (((xs.take i).map nameV).map V.bl)) ∧ Same (upd H pt (.tup [.ty "list", .ty "tuple"])) H') ⟨upd_same, same_upd hD⟩ (fun i H' _ ⟨_, sm⟩ => sm.seq hs) ?_ ?_
            · rintro i y H' hi ⟨hz, sm⟩
              obtain ⟨hlt, ey⟩ := List.getElem?_eq_some_iff.mp hi
              obtain ⟨t', hy⟩ := ha' y (ey ▸ List.getElem_mem hlt)
              refine ⟨rfl, _, rfl, y, t', rfl, hy.same sm, _, hz, small1000 (by rw [List.length_map, List.length_map, List.length_take]; omega), ?_, fun b o e => ?_⟩
              · rw [upd_same, List.take_add_one, hi, List.map_append, List.map_append]
                rfl
              · rw [upd_ne (ne_of_none e hD)]
                exact sm _ _ e
            · rintro H' ⟨hz, sm⟩
              rw [List.take_length] at hz
              exact ⟨D, _, rfl, SqL.of hz, q _ (st.trans sm)⟩
          | tup hs _ =>
            refine .inr ⟨_, rfl, p, rfl, ⟨_, hs⟩, fun D hD => ?_⟩
            refine lc_tup (K := K) (a := p) (xs := xs) (fun i H' => H' D = some (.lst (((xs.take i).map nameV).map V.bl)) ∧ Same (upd H pt (.tup [.ty "list", .ty "tuple"])) H') ⟨upd_same, same_upd hD⟩ (fun i H' _ ⟨_, sm⟩ => same_sqt sm hs) ?_ ?_
            · rintro i y H' hi ⟨hz, sm⟩
              obtain ⟨hlt, ey⟩ := List.getElem?_eq_some_iff.mp hi
              obtain ⟨t', hy⟩ := ha' y (ey ▸ List.getElem_mem hlt)
              refine ⟨rfl, _, rfl, y, t', rfl, hy.same sm, _, hz, small1000 (by rw [List.length_map, List.length_map, List.length_take]; omega), ?_, fun b o e => ?_⟩
              · rw [upd_same, List.take_add_one, hi, List.map_append, List.map_append]
                rfl
              · rw [upd_ne (ne_of_none e hD)]
                exact sm _ _ e
            · rintro H' ⟨hz, sm⟩
              rw [List.take_length] at hz
              exact ⟨D, _, rfl, SqL.of hz, q _ (st.trans sm)⟩
      · have z : ¬ 1 ≤ (xs.length : Int) := fun z => h1 (decide_eq_true z)
        have e : namesV xs = false := by
          unfold namesV
          rw [decide_eq_false (show ¬ 1 ≤ xs.length by omega)]
          rfl
        rw [e] at q
        exact ⟨_, rfl, iteT (q _ st)⟩
    · have hb : (t.isa "list" || t.isa "tuple") = false := by cases t <;> first | rfl | exact absurd rfl n1 | exact absurd rfl n2
      refine ⟨_, rfl, (by show 2 ≤ sizeLine; decide), fun pt npt => ?_⟩
      have st := same_upd (o := .tup [.ty "list", .ty "tuple"]) npt
      refine ⟨_, t, pt, _, _, rfl, upd_same, .inl ⟨rfl, rfl⟩, ht.same st, _, rfl, ?_⟩
      rw [hb]
      exact iteT (q _ st)
/-! ### integers -/
def intV : V → Bool
  | .int _ => true
  | _ => false
def spIsInt (K : PySem.W.Frag) : Sp := fun vs H Q _ => ∃ x t, vs = [x] ∧ AnyV K H x t ∧ Q (.bl (t.isa "int" && !t.isa "bool")) H
theorem ok_is_integer {f : Addr} {fd : FuncData} (D : Df K mg "is_integer" s_is_integer f fd) (T : KT K mg) : FnOk P w K mg base CX0 1 f fd ["thing"] (spIsInt K) := by
  have S : FnScope ["thing"] ["thing"] (defScope s_is_integer) := ⟨rfl, rfl, rfl, by decide +kernel, rfl, by decide +kernel, by decide +kernel⟩
  refine D.F.ok S (fun vs H Q E h => ?_) (fun cdv A outer s H vs Q E hr h => ?_)
  · obtain ⟨x, t, rfl, _⟩ := h
    rfl
  · obtain ⟨x, t, rfl, hx, q⟩ := h
    refine ⟨_, pss_one (ps_ret (pe_and (pe_callB call_isi6 (by rfl) T.m_isinstance (by decide +kernel) (pa_cons (pv 0) (pa_cons (pe_bltn (v := .ty "int") (by rfl) T.m_int (by decide +kernel) rfl) pa_nil)))
      (pe_one (pe_not (pe_callB call_isi6 (by rfl) T.m_isinstance (by decide +kernel) (pa_cons (pv 0) (pa_cons (pe_bltn (v := .ty "bool") (by rfl) T.m_bool (by decide +kernel) rfl) pa_nil))))))), ?_⟩
    refine ⟨_, rfl, x, t, _, rfl, hx, by decide, _, rfl, ?_⟩
    cases e : t.isa "int" with
    | false =>
      rw [e] at q
      exact q
    | true =>
      rw [e] at q
      exact ⟨_, rfl, x, t, _, rfl, hx, by decide, _, rfl, q⟩
end
end HG

namespace HG
open PySem PySem.Spec PyProof.Rows L2
open C8 (pss_cut tCut)
/-! ### tuples, by what stands behind -/
section
variable {X : Cx}
def rCatB : R2 := fun x y H Q => ∃ a b xs ys, x = .ref a ∧ y = .ref b ∧ H a = some (.tup xs) ∧ H b = some (.tup ys) ∧ xs.length + ys.length ≤ 1000 ∧ ∀ H' p, Same H H' → H' p = some (.tup (xs ++ ys)) → Q (.ref p) H'
theorem op_catB : OpR X (binaryOp .Add) rCatB := by
  intro pins s σ H x y v u Q I rx ry h
  obtain ⟨a, b, xs, ys, rfl, rfl, ha, hb, hz, q⟩ := h
  refine op_catA pins s σ H _ _ v u Q I rx ry ⟨a, b, xs, ys, rfl, rfl, SqT.of ha, SqT.of hb, Nat.le_of_lt (small1000 hz), fun e => ?_, fun _ e => ?_, fun _ _ p hp => ?_⟩
  · subst e
    exact q H b (Same.refl H) hb
  · subst e
    rw [List.append_nil] at q
    exact q H a (Same.refl H) ha
  · exact q _ p (same_upd hp) upd_same
def rSlB : V → Option Int → Option Int → Hp → VK → Prop := fun x lo hi H Q => ∃ a xs, x = .ref a ∧ H a = some (.tup xs) ∧ ∀ H' p, Same H H' → H' p = some (.tup (cutV xs lo hi)) → Q (.ref p) H'
theorem sl_tupB : SlR X rSlB := by
  intro pins s σ H x v vl vu lo hi sl Q I rx hs pl pu h
  obtain ⟨a, xs, rfl, ha, q⟩ := h
  refine sl_tupA pins s σ H _ v vl vu lo hi sl Q I rx hs pl pu ⟨a, xs, rfl, SqT.of ha, fun ⟨e1, e2⟩ => ?_, fun _ p hp => q _ p (same_upd hp) upd_same⟩
  refine q H a (Same.refl H) ?_
  unfold cutV
  rw [e1, e2, List.drop_zero, Nat.sub_zero, List.take_length]
  exact ha
theorem cut_to (xs : List V) (j : Nat) : cutV xs none (some (j : Int)) = xs.take j := by
  unfold cutV
  rw [show HT.sIx xs.length 0 none = 0 from rfl, HT.sIx_nat, List.drop_zero, Nat.sub_zero]
  by_cases h : j ≤ xs.length
  · rw [Nat.min_eq_left h]
  · rw [Nat.min_eq_right (by omega), List.take_of_length_le (Nat.le_refl _), List.take_of_length_le (by omega)]
theorem cut_from (xs : List V) (j : Nat) : cutV xs (some (j : Int)) none = xs.drop j := by
  unfold cutV
  rw [show HT.sIx xs.length xs.length none = xs.length from rfl, HT.sIx_nat]
  by_cases h : j ≤ xs.length
  · rw [Nat.min_eq_left h, List.take_of_length_le (by rw [List.length_drop]; omega)]
  · rw [Nat.min_eq_right (by omega), Nat.sub_self, List.take_zero, List.drop_eq_nil_of_le (by omega)]
end
def spPut : Sp := fun vs H Q _ => ∃ (p : Addr) (j : Nat) (x : V) (xs : List V), vs = [.ref p, .int (j : Int), x] ∧ H p = some (.tup xs) ∧ j < xs.length ∧ xs.length ≤ 100 ∧ ∀ H' q, Same H H' → H' q = some (.tup (xs.set j x)) → Q (.ref q) H'
def spAreInts (K : PySem.W.Frag) : Sp := fun vs H Q _ => ∃ x n, vs = [x, .int n] ∧
  ((∃ xs, SeqV K H x xs ∧ xs.length < sizeLine ∧ (∀ y ∈ xs, ∃ t, AnyV K H y t ∧ (t.isa "int" && !t.isa "bool") = intV y) ∧ ∀ H', Same H H' → Q (.bl (decide ((xs.length : Int) = n) && xs.all intV)) H') ∨
   (∃ t, AnyV K H x t ∧ t ≠ .lst ∧ t ≠ .tup ∧ ∀ H', Same H H' → Q (.bl false) H'))
/-- a tuple of names as a key -/
abbrev kS (st : List Str) : List Key := st.map Sum.inr
theorem kS_v (st : List Str) : (kS st).map kV = st.map V.str := by
  unfold kS
  rw [List.map_map]
  rfl
section
variable {P : Program} {w : World} {K : PySem.W.Frag} {mg : Str → Option Value} {base : Heap}
theorem ok_put {f : Addr} {fd : FuncData} (D : Df K mg "put" s_put f fd) : FnOk P w K mg base CX0 1 f fd ["items", "at", "item"] spPut := by
  have S : FnScope ["items", "at", "item"] ["items", "at", "item"] (defScope s_put) := ⟨rfl, rfl, rfl, by decide +kernel, rfl, by decide +kernel, by decide +kernel⟩
  refine D.F.ok S (fun vs H Q E h => ?_) (fun cdv A outer s H vs Q E hr h => ?_)
  · obtain ⟨p, j, x, xs, rfl, _⟩ := h
    rfl
  · obtain ⟨p, j, x, xs, rfl, hp, hj, hz, q⟩ := h
    refine ⟨_, pss_one (ps_ret (pe_op op_catB (pe_op op_catB (pe_slice sl_tupB (pv 0) po_none (po_some (pv 1))) (pe_tup (pa_cons (pv 2) pa_nil))) (pe_slice sl_tupB (pv 0) (po_some (pe_op op_add (pv 1) pe_int)) po_none))), ?_⟩
    refine ⟨_, rfl, .int j, rfl, (j : Int), rfl, p, xs, rfl, hp, fun H1 p1 s1 h1 => ?_⟩
    refine ⟨_, rfl, (by show 1 ≤ sizeLine; decide), fun p2 n2 => ?_⟩
    have s2 := same_upd (o := .tup [x]) n2
    rw [cut_to] at h1
    refine ⟨p1, p2, _, _, rfl, rfl, s2 _ _ h1, upd_same, (by rw [List.length_take]; show min j xs.length + 1 ≤ 1000; omega), fun H3 p3 s3 h3 => ?_⟩
    have hp3 := s3 _ _ (s2 _ _ (s1 _ _ hp))
    refine ⟨_, rfl, _, rfl, _, _, rfl, rfl, ((j + 1 : Nat) : Int), rfl, p, xs, rfl, hp3, fun H4 p4 s4 h4 => ?_⟩
    rw [cut_from] at h4
    refine ⟨p3, p4, _, _, rfl, rfl, s4 _ _ h3, h4, (by rw [List.length_append, List.length_take, List.length_drop]; show min j xs.length + 1 + (xs.length - (j + 1)) ≤ 1000; omega), fun H5 p5 s5 h5 => ?_⟩
    refine q H5 p5 (s1.trans (s2.trans (s3.trans (s4.trans s5)))) ?_
    rw [h5, List.set_eq_take_append_cons_drop, if_pos hj, List.append_assoc]
    rfl
theorem ok_are_integers {f fN : Addr} {fd fdN : FuncData} (D : Df K mg "are_integers" s_are_integers f fd) (N : Df K mg "is_integer" s_is_integer fN fdN) (bN : Binds K fdN ["thing"] []) (T : KT K mg) : FnOk P w K mg base CX0 2 f fd ["thing", "many"] (spAreInts K) := by
  have S : FnScope ["thing", "many", "item"] ["thing", "many"] (defScope s_are_integers) := ⟨rfl, rfl, rfl, by decide +kernel, rfl, by decide +kernel, by decide +kernel⟩
  refine D.F.ok S (fun vs H Q E h => ?_) (fun cdv A outer s H vs Q E hr h => ?_)
  · obtain ⟨x, n, rfl, _⟩ := h
    rfl
  · obtain ⟨x, n, rfl, q⟩ := h
    have nd := S.nd
    refine ⟨_, pss_cons (ps_if (PW.pt (pw_or (pt_not (pt_val (pe_callB call_isiLT (by rfl) T.m_isinstance (by decide +kernel) (pa_cons (pv 0) (pa_cons (pe_tup (pa_cons (pe_bltn (v := .ty "list") (by rfl) T.m_list (by decide +kernel) rfl) (pa_cons (pe_bltn (v := .ty "tuple") (by rfl) T.m_tuple (by decide +kernel) rfl) pa_nil))) pa_nil)))))
        (pw_or1 (pt_cmpR op_ne (pe_callB call_len_seq (by rfl) T.m_len PySem.boot_len (pa_cons (pv 0) pa_nil)) (pv 1) (nomark _))))) (pss_one (ps_ret pe_bl)) pss_nil)
      (pss_one (ps_ret (pe_callB (cr_all rfl) (by rfl) T.m_all (by decide +kernel) (pa_cons (pe_lc (own := [("item", 2)]) (g := gName 2) (tt := tYes) rfl nd (pi_or (pi_list (pv 0)) (pi_tup (pv 0))) (blkOk_by (N := ["thing", "many", "item"]) (sc := defScope s_are_integers) (by decide +kernel)) (fun _ _ _ _ _ => pg_name (i := 2) nd rfl (Or.inl rfl)) (fun _ _ _ _ _ => pts_nil)
        (fun _ _ _ _ _ => pe_call (ok_is_integer N T) (hr.mono (by decide)) (by rfl) N.g N.F.kp bN .nil pass0 (pa_cons (pv 2) pa_nil))) pa_nil)))), ?_⟩
    rcases q with ⟨xs, hx, hsz, ha, q⟩ | ⟨t, ht, n1, n2, q⟩
    · obtain ⟨t, ht, hb⟩ := hx.any
      obtain ⟨p, rfl, hl⟩ := hx.len
      refine ⟨_, rfl, (by show 2 ≤ sizeLine; decide), fun pt npt => ?_⟩
      have st := same_upd (o := .tup [.ty "list", .ty "tuple"]) npt
      refine ⟨_, t, pt, _, _, rfl, upd_same, .inl ⟨rfl, rfl⟩, ht.same st, _, rfl, ?_⟩
      rw [hb]
      have hl' : SqL K (upd H pt (.tup [.ty "list", .ty "tuple"])) p xs ∨ SqT K (upd H pt (.tup [.ty "list", .ty "tuple"])) p xs := hl.imp st.seq (same_sqt st)
      refine iteF ⟨_, rfl, p, xs, rfl, hl', _, rfl, rfl, _, rfl, ?_⟩
      by_cases hn : (xs.length : Int) = n
      · have e0 : (!decide (V.int (xs.length : Int) = V.int n)) = false := by rw [decide_eq_true (by rw [hn])]; rfl
        rw [e0]
        refine iteF ?_
        have e : (decide ((xs.length : Int) = n) && xs.all intV) = (xs.map intV).all id := by
          rw [decide_eq_true hn, List.all_map]
          rfl
        rw [e] at q
        have hx' := hx.same st
        have ha' := fun y hy => let ⟨t, h, e⟩ := ha y hy; (⟨t, h.same st, e⟩ : ∃ t, AnyV K (upd H pt (.tup [.ty "list", .ty "tuple"])) y t ∧ (t.isa "int" && !t.isa "bool") = intV y)
        cases hx' with
        | lst hs _ =>
          refine .inl ⟨_, rfl, p, rfl, ⟨_, hs⟩, fun D hD => ?_⟩
          refine lc_list (K := K) (a := p) (xs := xs) (fun i H' => H' D = some (.lst (((xs.take i).map intV).map V.bl)) ∧ Same (upd H pt (.tup [.ty "list", .ty "tuple"])) H') ⟨upd_same, same_upd hD⟩ (fun i H' _ ⟨_, sm⟩ => sm.seq hs) ?_ ?_
          · rintro i y H' hi ⟨hz, sm⟩
            obtain ⟨hlt, ey⟩ := List.getElem?_eq_some_iff.mp hi
            obtain ⟨t', hy, ei⟩ := ha' y (ey ▸ List.getElem_mem hlt)
            refine ⟨rfl, _, rfl, y, t', rfl, hy.same sm, _, hz, ?_, ?_, fun b o e => ?_⟩
            · rw [List.length_map, List.length_map, List.length_take]
              exact Nat.lt_of_le_of_lt (Nat.min_le_right _ _) hsz
            · rw [upd_same, List.take_add_one, hi, List.map_append, List.map_append, ei]
              rfl
            · rw [upd_ne (ne_of_none e hD)]
              exact sm _ _ e
          · rintro H' ⟨hz, sm⟩
            rw [List.take_length] at hz
            exact ⟨D, _, rfl, SqL.of hz, q _ (st.trans sm)⟩
        | tup hs _ =>
          refine .inr ⟨_, rfl, p, rfl, ⟨_, hs⟩, fun D hD => ?_⟩
          refine lc_tup (K := K) (a := p) (xs := xs) (fun i H' => H' D = some (.lst (((xs.take i).map intV).map V.bl)) ∧ Same (upd H pt (.tup [.ty "list", .ty "tuple"])) H') ⟨upd_same, same_upd hD⟩ (fun i H' _ ⟨_, sm⟩ => same_sqt sm hs) ?_ ?_
          · rintro i y H' hi ⟨hz, sm⟩
            obtain ⟨hlt, ey⟩ := List.getElem?_eq_some_iff.mp hi
            obtain ⟨t', hy, ei⟩ := ha' y (ey ▸ List.getElem_mem hlt)
            refine ⟨rfl, _, rfl, y, t', rfl, hy.same sm, _, hz, ?_, ?_, fun b o e => ?_⟩
            · rw [List.length_map, List.length_map, List.length_take]
              exact Nat.lt_of_le_of_lt (Nat.min_le_right _ _) hsz
            · rw [upd_same, List.take_add_one, hi, List.map_append, List.map_append, ei]
              rfl
            · rw [upd_ne (ne_of_none e hD)]
              exact sm _ _ e
          · rintro H' ⟨hz, sm⟩
            rw [List.take_length] at hz
            exact ⟨D, _, rfl, SqL.of hz, q _ (st.trans sm)⟩
      · have e0 : (!decide (V.int (xs.length : Int) = V.int n)) = true := by rw [decide_eq_false (fun z => hn (V.int.inj z))]; rfl
        rw [e0]
        rw [decide_eq_false hn] at q
        exact iteT (q _ st)
    · have hb : (t.isa "list" || t.isa "tuple") = false := by cases t <;> first | rfl | exact absurd rfl n1 | exact absurd rfl n2
      refine ⟨_, rfl, (by show 2 ≤ sizeLine; decide), fun pt npt => ?_⟩
      have st := same_upd (o := .tup [.ty "list", .ty "tuple"]) npt
      refine ⟨_, t, pt, _, _, rfl, upd_same, .inl ⟨rfl, rfl⟩, ht.same st, _, rfl, ?_⟩
      rw [hb]
      exact iteT (q _ st)
end
end HG

namespace HG
open PySem PySem.Spec PyProof.Rows L2
open C8 (pss_cut tCut)
/-! ### shapes as dicts -/
abbrev Way := Str × List Str
def WayAt (H : Hp) (v : V) (ws : List Str) : Prop := ∃ a, v = .ref a ∧ (H a = some (.lst (ws.map V.str)) ∨ H a = some (.tup (ws.map V.str)))
def KvW (H : Hp) (q : Way) (kv : Key × V) : Prop := kv.1 = Sum.inr q.1 ∧ WayAt H kv.2 q.2
def ShAt (H : Hp) (d : Addr) (W : List Way) : Prop := ∃ kvs, H d = some (.dK kvs) ∧ Paired (KvW H) W kvs
def wprod (W : List Way) : Int := W.foldl (fun m q => m * (q.2.length : Int)) 1
structure WOk (W : List Way) : Prop where
  nd : (W.map (·.1)).Nodup
  n1 : 1 ≤ W.length
  n4 : W.length ≤ 4
  nm : ∀ q ∈ W, isNm q.1 = true
  wd : ∀ q ∈ W, q.2.Nodup
  w1 : ∀ q ∈ W, 1 ≤ q.2.length
  w4 : ∀ q ∈ W, q.2.length ≤ 4
  wn : ∀ q ∈ W, ∀ z ∈ q.2, isNm z = true
  most : wprod W ≤ 81
theorem WayAt.same {H H' : Hp} {v : V} {ws : List Str} (h : WayAt H v ws) (s : Same H H') : WayAt H' v ws := by
  obtain ⟨a, e, h⟩ := h
  exact ⟨a, e, h.imp (s _ _) (s _ _)⟩
theorem paired_imp {α β : Type} {F G : α → β → Prop} {l : List α} {m : List β} (h : Paired F l m) (f : ∀ a b, F a b → G a b) : Paired G l m := Paired.mapP h f
theorem ShAt.same {H H' : Hp} {d : Addr} {W : List Way} (h : ShAt H d W) (s : Same H H') : ShAt H' d W := by
  obtain ⟨kvs, e, p⟩ := h
  exact ⟨kvs, s _ _ e, paired_imp p fun a b q => ⟨q.1, q.2.same s⟩⟩
theorem paired_keys {H : Hp} : ∀ {W : List Way} {kvs : List (Key × V)}, Paired (KvW H) W kvs → kvs.map (fun kv => kV kv.1) = (W.map (·.1)).map V.str
  | _, _, .nil => rfl
  | _, _, .cons r t => by
    rw [List.map_cons, List.map_cons, List.map_cons, paired_keys t, r.1]
    rfl
theorem paired_get {α β : Type} {F : α → β → Prop} : ∀ {l : List α} {m : List β} {i : Nat} {b : β}, Paired F l m → m[i]? = some b → ∃ a, l[i]? = some a ∧ F a b
  | _, _, _, _, .nil, e => by simp at e
  | _, _, 0, b, .cons r _, e => by
    simp at e
    subst e
    exact ⟨_, rfl, r⟩
  | _, _, i + 1, b, .cons _ t, e => by
    obtain ⟨a, h1, h2⟩ := paired_get (i := i) t (by simpa using e)
    exact ⟨a, by simpa using h1, h2⟩
theorem nm_any {K : PySem.W.Frag} {H : Hp} {z : Str} (h : isNm z = true) : AnyV K H (.str z) .str := by
  refine .str z ?_
  unfold isNm at h
  have h1 := of_decide_eq_true (Bool.and_eq_true_iff.mp h).1
  exact Nat.le_of_lt (small1000 (by omega))
theorem names_any {K : PySem.W.Frag} {H : Hp} {xs : List Str} (h : ∀ z ∈ xs, isNm z = true) : ∀ y ∈ xs.map V.str, ∃ t, AnyV K H y t := by
  intro y hy
  obtain ⟨z, hz, rfl⟩ := List.mem_map.mp hy
  exact ⟨_, nm_any (h z hz)⟩
theorem names_all {xs : List Str} (h : ∀ z ∈ xs, isNm z = true) : (xs.map V.str).all nameV = true := by
  rw [List.all_eq_true]
  intro y hy
  obtain ⟨z, hz, rfl⟩ := List.mem_map.mp hy
  exact h z hz
theorem namesV_yes {xs : List Str} (h : ∀ z ∈ xs, isNm z = true) (h1 : 1 ≤ xs.length) (h4 : xs.length ≤ 4) : namesV (xs.map V.str) = true := by
  unfold namesV
  rw [names_all h, List.length_map, decide_eq_true h1, decide_eq_true h4]
  rfl
theorem WayAt.seq {K : PySem.W.Frag} {H : Hp} {v : V} {ws : List Str} (h : WayAt H v ws) : SeqV K H v (ws.map V.str) := by
  obtain ⟨a, rfl, h | h⟩ := h
  · exact .lst (SqL.of h) (.lst h)
  · exact .tup (SqT.of h) (.tup h)
theorem WayAt.sq {K : PySem.W.Frag} {H : Hp} {v : V} {ws : List Str} (h : WayAt H v ws) : ∃ a, v = .ref a ∧ (SqL K H a (ws.map V.str) ∨ SqT K H a (ws.map V.str)) := by
  obtain ⟨a, rfl, h | h⟩ := h
  · exact ⟨a, rfl, .inl (SqL.of h)⟩
  · exact ⟨a, rfl, .inr (SqT.of h)⟩
/-- the dict is locked: what else was there stands -/
theorem WayAt.lock {H : Hp} {v : V} {ws : List Str} {d : Addr} {kvs : List (Key × V)} {o : HO} (h : WayAt H v ws) (hd : H d = some (.dK kvs)) : WayAt (upd H d o) v ws := by
  obtain ⟨a, e, h⟩ := h
  refine ⟨a, e, h.imp (fun h => ?_) (fun h => ?_)⟩
  · rw [upd_ne (ne_of h hd (by intro z; cases z))]
    exact h
  · rw [upd_ne (ne_of h hd (by intro z; cases z))]
    exact h
theorem unlock {H H' : Hp} {d : Addr} {u o : HO} (hd : H d = some u) (s : Same (upd H d o) H') : Same H (upd H' d u) := fun b x e => by
  by_cases hb : b = d
  · subst hb
    rw [upd_same]
    exact hd.symm.trans e
  · rw [upd_ne hb]
    exact s b x (by rw [upd_ne hb]; exact e)
theorem wprod_more {W : List Way} {i : Nat} {q : Way} (h : W[i]? = some q) : wprod (W.take (i + 1)) = wprod (W.take i) * (q.2.length : Int) := by
  unfold wprod
  rw [List.take_add_one, h, List.foldl_append]
  rfl
def spIsShape : Sp := fun vs H Q _ => ∃ d W, vs = [.ref d] ∧ ShAt H d W ∧ WOk W ∧ ∀ H', Same H H' → Q (.bl true) H'
section
variable {P : Program} {w : World} {K : PySem.W.Frag} {mg : Str → Option Value} {base : Heap}
theorem ok_is_shape {f fA fN : Addr} {fd fdA fdN : FuncData} (D : Df K mg "is_shape" s_is_shape f fd) (A : Df K mg "are_names" s_are_names fA fdA) (bA : Binds K fdA ["thing"] []) (N : Df K mg "is_name" s_is_name fN fdN) (bN : Binds K fdN ["thing"] []) (T : KT K mg) :
    FnOk P w K mg base CX0 3 f fd ["thing"] spIsShape := by
  have S : FnScope ["thing", "many", "ways"] ["thing"] (defScope s_is_shape) := ⟨rfl, rfl, rfl, by decide +kernel, rfl, by decide +kernel, by decide +kernel⟩
  refine D.F.ok S (fun vs H Q E h => ?_) (fun cdv Ar outer s H vs Q E hr h => ?_)
  · obtain ⟨d, W, rfl, _⟩ := h
    rfl
  · obtain ⟨d, W, rfl, ⟨kvs, hd, hp⟩, ok, q⟩ := h
    have nd := S.nd
    obtain ⟨tk, gS⟩ := T.g_standings
    have G := ok_are_names (P := P) (w := w) (base := base) A N bN T
    refine ⟨_, pss_cons (ps_if (PW.pt (pw_or (pt_not (pt_val (pe_callB call_isi6 (by rfl) T.m_isinstance (by decide +kernel) (pa_cons (pv 0) (pa_cons (pe_bltn (v := .ty "dict") (by rfl) T.m_dict (by decide +kernel) rfl) pa_nil)))))
        (pw_or1 (pt_not (pt_val (pe_call G hr (by rfl) A.g A.F.kp bA .nil pass0 (pa_cons (pe_callTy (call_listD rfl) (by rfl) T.m_list (by decide +kernel) (pa_cons (pv 0) pa_nil)) pa_nil))))))) (pss_one (ps_ret pe_bl)) pss_nil)
      (pss_cons (ps_set (i := 1) nd rfl (Or.inl rfl) pe_int)
      (pss_cons (ps_lock (ps_for PassesOwn.never rfl (pi_values (pv 0)) (pg_name (i := 2) nd rfl (Or.inl rfl))
        (pss_cons (ps_if (PW.pt (pw_or (pt_not (pt_val (pe_call G hr (by rfl) A.g A.F.kp bA .nil pass0 (pa_cons (pv 2) pa_nil))))
            (pw_or1 (pt_cmpR op_lt (pe_lenTexts rfl (by rfl) T.m_len (by rfl) T.m_set (pv 2)) (pe_callB call_len_seq (by rfl) T.m_len PySem.boot_len (pa_cons (pv 2) pa_nil)) (nomark _))))) (pss_one (ps_ret pe_bl)) pss_nil)
        (pss_one (ps_set (i := 1) nd rfl (Or.inl rfl) (pe_op op_mul (pv 1) (pe_callB call_len_seq (by rfl) T.m_len PySem.boot_len (pa_cons (pv 2) pa_nil))))))))
      (pss_one (ps_ret (pe_cmpR op_le (pv 1) (pe_glob (v := .int 81) (by rfl) gS ⟨_, rfl⟩) (nomark _)))))), ?_⟩
    refine ⟨_, rfl, _, _, _, rfl, AnyV.dK hd, by decide, _, rfl, iteF ?_⟩
    refine ⟨_, rfl, d, kvs, rfl, .inl hd, fun p np => ?_⟩
    rw [paired_keys hp]
    have s1 := same_upd (o := .lst ((W.map (·.1)).map V.str)) np
    have hnm : ∀ z ∈ W.map (·.1), isNm z = true := fun z hz => by
      obtain ⟨q, hq, rfl⟩ := List.mem_map.mp hz
      exact ok.nm q hq
    refine ⟨.ref p, rfl, .inl ⟨_, .lst (SqL.of upd_same) (.lst upd_same), fun _ _ => names_any hnm, fun H1 s2 => ?_⟩⟩
    rw [namesV_yes hnm (by rw [List.length_map]; exact ok.n1) (by rw [List.length_map]; exact ok.n4)]
    refine ⟨_, rfl, iteF ?_⟩
    have hd1 := s2 _ _ (s1 _ _ hd)
    have hp1 := paired_imp hp fun a b (q : KvW H a b) => (⟨q.1, q.2.same (s1.trans s2)⟩ : KvW H1 a b)
    have hlen : W.length = kvs.length := Paired.length hp
    refine ⟨d, .dK kvs, hd1, trivial, fun od => ?_⟩
    refine ⟨_, rfl, d, od, kvs, rfl, upd_same, for_it walk_values (fun i σ H' => ∃ v2, σ = [some (.ref d), some (.int (wprod (W.take i))), v2] ∧ Same (upd H1 d (.frz od (.dK kvs))) H') ⟨none, rfl, Same.refl _⟩ (fun i σ H' _ ⟨_, _, sm⟩ => sm _ _ upd_same) ?_ ?_⟩
    · rintro i x σ H' H'' hi ⟨v2, rfl, sm⟩ ⟨rfl, k, hk⟩
      obtain ⟨qw, hq, _, hx⟩ := paired_get hp1 hk
      have hm : qw ∈ W := List.mem_of_getElem? hq
      have hx' : WayAt H'' x qw.2 := (hx.lock hd1).same sm
      refine ⟨_, rfl, x, rfl, .inl ⟨_, hx'.seq, fun _ _ => names_any (ok.wn qw hm), fun H3 s3 => ?_⟩⟩
      rw [namesV_yes (ok.wn qw hm) (ok.w1 qw hm) (ok.w4 qw hm)]
      refine ⟨_, rfl, iteF ?_⟩
      obtain ⟨a, rfl, ha⟩ := (hx'.same s3).sq (K := K)
      have l4 := ok.w4 qw hm
      refine ⟨_, rfl, a, qw.2, rfl, ha, ok.wd qw hm, by omega, _, rfl, a, _, rfl, ha, _, _, rfl, rfl, _, rfl, ?_⟩
      rw [List.length_map]
      refine ite2 (fun z => absurd (of_decide_eq_true z) (Int.lt_irrefl _)) (fun _ => ?_)
      refine ⟨_, rfl, _, rfl, a, _, rfl, ha, _, _, rfl, rfl, .inr ⟨by omega, by rw [List.length_map]; omega⟩, ?_⟩
      rw [List.length_map]
      exact ⟨_, by rw [wprod_more hq]; rfl, sm.trans s3⟩
    · rintro σ H' ⟨v2, rfl, sm⟩
      refine ⟨sm _ _ upd_same, ?_⟩
      rw [← hlen, List.take_length]
      refine ⟨_, rfl, _, _, rfl, rfl, ?_⟩
      have e : decide (wprod W ≤ 81) = true := decide_eq_true ok.most
      have q1 := q _ (s1.trans (s2.trans (unlock hd1 sm)))
      rw [← e] at q1
      exact q1
end
end HG

namespace HG
open PySem PySem.Spec PyProof.Rows L2
/-! ### texts in order -/
abbrev leS (a b : Str) : Prop := a.cps.toList ≤ b.cps.toList
theorem ext_cps {a b : Str} (h : a.cps.toList = b.cps.toList) : a = b := by
  cases a
  cases b
  simp only [Array.toList_inj] at h
  rw [h]
theorem rising_pw : ∀ (l : List Str) (p : Str), risingS p l = true → (∀ x ∈ l, leS p x) ∧ l.Pairwise leS
  | [], _, _ => ⟨(fun _ h => nomatch h), List.Pairwise.nil⟩
  | x :: r, p, h => by
    have h' : (!ltCps x.cps.toList p.cps.toList && risingS x r) = true := h
    obtain ⟨h1, h2⟩ := Bool.and_eq_true_iff.mp h'
    have hp : leS p x := by
      rw [ltCps_eq] at h1
      have : ¬ x.cps.toList < p.cps.toList := by simpa using h1
      exact List.not_lt.mp this
    obtain ⟨a, b⟩ := rising_pw r x h2
    refine ⟨fun y hy => ?_, .cons a b⟩
    rcases List.mem_cons.mp hy with rfl | hy
    · exact hp
    · exact List.le_trans hp (a y hy)
theorem sorted_pw {l : List Str} (h : sortedS l = true) : l.Pairwise leS := by
  cases l with
  | nil => exact .nil
  | cons x r =>
    obtain ⟨a, b⟩ := rising_pw r x h
    exact .cons a b
def srt (l : List Str) : List Str := l.mergeSort fun a b => decide (leS a b)
theorem srt_perm (l : List Str) : (srt l).Perm l := List.mergeSort_perm _ _
theorem srt_pw (l : List Str) : (srt l).Pairwise leS := by
  have := List.pairwise_mergeSort (le := fun a b : Str => decide (leS a b)) (fun a b c h1 h2 => decide_eq_true (List.le_trans (of_decide_eq_true h1) (of_decide_eq_true h2)))
    (fun a b => by
      rcases List.le_total a.cps.toList b.cps.toList with h | h
      · simp [leS, h]
      · simp [leS, h]) l
  exact this.imp fun h => of_decide_eq_true h
theorem srt_uniq {l ys : List Str} (hp : ys.Perm l) (hs : sortedS ys = true) : ys = srt l :=
  List.Perm.eq_of_pairwise (le := leS) (fun a b _ _ h1 h2 => ext_cps (List.le_antisymm h1 h2)) (sorted_pw hs) (srt_pw l) (hp.trans (srt_perm l).symm)
theorem srt_len (l : List Str) : (srt l).length = l.length := (srt_perm l).length_eq
theorem srt_mem {l : List Str} {z : Str} : z ∈ srt l ↔ z ∈ l := (srt_perm l).mem_iff
theorem srt_nd {l : List Str} (h : l.Nodup) : (srt l).Nodup := (srt_perm l).nodup_iff.mpr h
theorem srt_of_perm {l m : List Str} (h : l.Perm m) : srt l = srt m :=
  List.Perm.eq_of_pairwise (le := leS) (fun a b _ _ h1 h2 => ext_cps (List.le_antisymm h1 h2)) (srt_pw l) (srt_pw m) ((srt_perm l).trans (h.trans (srt_perm m).symm))
end HG

namespace HG
open PySem PySem.Spec PyProof.Rows L2
open C8 (pss_cut tCut)
section
variable {X : Cx}
/-- sorted of a tuple of texts -/
theorem sort_tup : CallR X (.builtin "sorted") (fun vs H Q => ∃ (a : Addr) (xs : List Str), vs = [V.ref a] ∧ SqT X.K H a (xs.map V.str) ∧ xs.length < 64 ∧ ∀ (ys : List Str) (p : Addr), ys.Perm xs → sortedS ys = true → H p = none → Q (.ref p) (upd H p (.lst (ys.map V.str)))) := by
  intro pins s σ H vs us Q I r h
  obtain ⟨a, xs, rfl, hs, h64, q⟩ := h
  obtain ⟨its, rv, hl, _⟩ := I.tuple hs
  rw [Vals.ref1 r]
  have hS : StrsAre its xs := strsAre_of rv
  have hlen : its.length = xs.length := hS.len_eq
  obtain ⟨o, ho, hc, n, hd⟩ := id hl
  refine Calls.call_function_entry PyProof.Rows.kind_sorted PyProof.Rows.plain_sorted PyProof.Rows.entry_sorted (PyProof.Rows.args_sorted1 _) ?_
  unfold Builtin.«sorted»
  refine wpAny_bind (m := checkCount "sorted" 1 1 _) (wpAny_pure ?_)
  refine wpAny_bind (wpAny_collect_seq a (T := "tuple") (.inr rfl) ho hc hd (fun h' hk => ?_) (by rw [List.size_toArray, hlen, sizeLine_eq]; omega))
  have I1 : Inv X pins σ H { s with heap := h' } := I.kept (t' := s.toks) hk
  refine wpAny_bind (wpAny_newList ?_ (by rw [hlen, sizeLine_eq]; omega))
  have hoL : (h'.push (seqObj "list" its.toArray 0)).get? h'.objs.size = some (seqObj "list" its.toArray 0) := Heap.get?_push_size _ rfl
  show wpAny _ _ _ _ _ { s with heap := h'.push (seqObj "list" its.toArray 0) }
  refine wpAny_bind (wpAny_holding (wpAny_call_entry PyProof.Rows.slot_list_sort ⟨_, hoL, rfl⟩ PyProof.Rows.entry_list_sort
    (list_sort_treeK strKind_oneLt (s := { s with heap := h'.push (seqObj "list" its.toArray 0) }) hoL hS.keysOf (fun v₁ v₂ rest e => keyKind_strs (by rw [← e]; exact hS)) (by rw [hlen]; exact h64) fun st' hp hs => ⟨_, rfl, ?_⟩)
    (PyProof.Rows.args_list_sort _)))
  obtain ⟨ys, g1, g2, g3⟩ := sorted_out_str hS hp hs
  obtain ⟨e', he'⟩ := PyProof.Rows.sortedHeap_at (vs := its) (out := (arrOf st').map (·.2)) hoL
  have hle : (ys.map V.str).length ≤ sizeLine := by
    rw [List.length_map, g2.length_eq, sizeLine_eq]
    omega
  refine wpAny_pure ⟨_, rfl, .ref h'.objs.size, upd H h'.objs.size (.lst (ys.map V.str)), I1.laid (t' := s.toks) (fun b u e => ?_) (Nat.le_refl _)
    (show ObjOk X.prog X.w _ _ _ (.lst (ys.map V.str)) from ⟨hle, ((arrOf st').map (·.2)).toList, e', vals_of_strs g1, by rw [Array.toArray_toList]; exact he'⟩), rfl, q ys _ g2 g3 (I1.hok.fresh (Nat.le_refl _))⟩
  have hb : b < h'.objs.size := Heap.lt_size e
  rw [PyProof.Rows.sortedHeap_old (Nat.ne_of_lt hb) (by rw [size_push']; exact Nat.lt_succ_of_lt hb)]
  exact Heap.get?_push_of_some _ e
def rSrt (K : PySem.W.Frag) : List V → Hp → VK → Prop := fun vs H Q => ∃ (a : Addr) (xs : List Str), vs = [.ref a] ∧ (SqL K H a (xs.map V.str) ∨ SqT K H a (xs.map V.str)) ∧ xs.length < 64 ∧ ∀ p, H p = none → Q (.ref p) (upd H p (.lst ((srt xs).map V.str)))
theorem call_srt : CallR X (.builtin "sorted") (rSrt X.K) := by
  intro pins s σ H vs us Q I r h
  obtain ⟨a, xs, rfl, hs | hs, h64, q⟩ := h
  · exact cr_sortedS pins s σ H _ us Q I r ⟨a, xs, rfl, hs, h64, fun ys p h1 h2 h3 => by rw [srt_uniq h1 h2]; exact q p h3⟩
  · exact sort_tup pins s σ H _ us Q I r ⟨a, xs, rfl, hs, h64, fun ys p h1 h2 h3 => by rw [srt_uniq h1 h2]; exact q p h3⟩
/-- sorted(d), the keys texts -/
def rSrtD : List V → Hp → VK → Prop := fun vs H Q => ∃ (a : Addr) (kvs : List (Key × V)) (ks : List Str), vs = [.ref a] ∧ H a = some (.dK kvs) ∧ kvs.map (·.1) = ks.map Sum.inr ∧ ks.length < 64 ∧ ∀ p, H p = none → Q (.ref p) (upd H p (.lst ((srt ks).map V.str)))
theorem call_srtD (hc : X.calm = true) : CallR X (.builtin "sorted") rSrtD := by
  intro pins s σ H vs us Q I r h
  obtain ⟨a, kvs, ks, rfl, hd, hk, h64, q⟩ := h
  exact call_sortedD hc pins s σ H _ us Q I r ⟨a, kvs, ks, rfl, .inl hd, hk, h64, fun ys p h1 h2 h3 => by rw [srt_uniq h1 h2]; exact q p h3⟩
end
/-! ### a shape's ways, sorted -/
def lookW (W : List Way) (k : Str) : List Str := ((W.find? fun q => decide (q.1 = k)).map (·.2)).getD []
def sh (W : List Way) : List Way := (srt (W.map (·.1))).map fun k => (k, srt (lookW W k))
theorem lookW_of {W : List Way} (hN : (W.map (·.1)).Nodup) {q : Way} (hq : q ∈ W) : lookW W q.1 = q.2 := by
  unfold lookW
  induction W with
  | nil => cases hq
  | cons a r ih =>
    rw [List.map_cons, List.nodup_cons] at hN
    rw [List.find?_cons]
    rcases List.mem_cons.mp hq with rfl | hq
    · rw [decide_eq_true rfl]
      rfl
    · have hne : ¬ a.1 = q.1 := fun e => hN.1 (List.mem_map.mpr ⟨q, hq, e.symm⟩)
      rw [decide_eq_false hne]
      exact ih hN.2 hq
theorem keysK {H : Hp} : ∀ {W : List Way} {kvs : List (Key × V)}, Paired (KvW H) W kvs → kvs.map (·.1) = (W.map (·.1)).map Sum.inr
  | _, _, .nil => rfl
  | _, _, .cons r t => by
    rw [List.map_cons, List.map_cons, List.map_cons, keysK t, r.1]
theorem valV_of {H : Hp} : ∀ {W : List Way} {kvs : List (Key × V)} {q : Way}, Paired (KvW H) W kvs → (W.map (·.1)).Nodup → q ∈ W → ∃ v, valV kvs (Sum.inr q.1) = some v ∧ WayAt H v q.2
  | _, _, _, .nil, _, h => nomatch h
  | a :: W, kv :: kvs, q, .cons r t, hN, h => by
    rw [List.map_cons, List.nodup_cons] at hN
    rcases List.mem_cons.mp h with rfl | h
    · exact ⟨kv.2, valV_pos r.1, r.2⟩
    · obtain ⟨v, h1, h2⟩ := valV_of t hN.2 h
      refine ⟨v, ?_, h2⟩
      rw [valV_neg (fun e => ?_)]
      · exact h1
      · have e2 : a.1 = q.1 := Sum.inr.inj (r.1.symm.trans e)
        exact hN.1 (List.mem_map.mpr ⟨q, h, e2.symm⟩)
theorem putK_new {κ : Type} [DecidableEq κ] {kvs : List (κ × V)} {k : κ} {v : V} (h : k ∉ kvs.map (·.1)) : putK kvs k v = kvs ++ [(k, v)] := by
  unfold putK
  rw [if_neg]
  intro z
  obtain ⟨x, hx, e⟩ := List.any_eq_true.mp z
  exact h (List.mem_map.mpr ⟨x, hx, of_decide_eq_true e⟩)
/-- lists alone, new where N says so -/
def KvL (N : Addr → Prop) (H : Hp) (q : Way) (kv : Key × V) : Prop := kv.1 = Sum.inr q.1 ∧ ∃ a, kv.2 = .ref a ∧ N a ∧ H a = some (.lst (q.2.map V.str))
def ShL (N : Addr → Prop) (H : Hp) (d : Addr) (S : List Way) : Prop := ∃ kvs, H d = some (.dK kvs) ∧ Paired (KvL N H) S kvs
theorem KvL.same {N : Addr → Prop} {H H' : Hp} {q : Way} {kv : Key × V} (h : KvL N H q kv) (s : Same H H') : KvL N H' q kv := by
  obtain ⟨e, a, ev, n, h⟩ := h
  exact ⟨e, a, ev, n, s _ _ h⟩
theorem KvL.at {N : Addr → Prop} {H : Hp} {q : Way} {kv : Key × V} (h : KvL N H q kv) : KvW H q kv := by
  obtain ⟨e, a, ev, n, h⟩ := h
  exact ⟨e, a, ev, .inl h⟩
theorem ShL.at {N : Addr → Prop} {H : Hp} {d : Addr} {S : List Way} (h : ShL N H d S) : ShAt H d S := by
  obtain ⟨kvs, e, p⟩ := h
  exact ⟨kvs, e, paired_imp p fun _ _ q => q.at⟩
theorem ShL.same {N : Addr → Prop} {H H' : Hp} {d : Addr} {S : List Way} (h : ShL N H d S) (s : Same H H') : ShL N H' d S := by
  obtain ⟨kvs, e, p⟩ := h
  exact ⟨kvs, s _ _ e, paired_imp p fun _ _ q => q.same s⟩
theorem paired_append {α β : Type} {F : α → β → Prop} : ∀ {l : List α} {m : List β} {l' : List α} {m' : List β}, Paired F l m → Paired F l' m' → Paired F (l ++ l') (m ++ m')
  | _, _, _, _, .nil, h => h
  | _, _, _, _, .cons r t, h => .cons r (paired_append t h)
theorem keysL {N : Addr → Prop} {H : Hp} {S : List Way} {kvs : List (Key × V)} (h : Paired (KvL N H) S kvs) : kvs.map (·.1) = (S.map (·.1)).map Sum.inr := keysK (paired_imp h fun _ _ q => q.at)
def spSorted : Sp := fun vs H Q _ => ∃ d W, vs = [.ref d] ∧ ShAt H d W ∧ (W.map (·.1)).Nodup ∧ W.length < 64 ∧ (∀ q ∈ W, q.2.length < 64) ∧ ∀ H' p, Same H H' → H p = none → ShL (fun a => H a = none) H' p (sh W) → Q (.ref p) H'
section
variable {P : Program} {w : World} {K : PySem.W.Frag} {mg : Str → Option Value} {base : Heap}
theorem ok_sorted_ways {f : Addr} {fd : FuncData} (D : Df K mg "sorted_ways" s_sorted_ways f fd) (ms : mg "sorted" = none) : FnOk P w K mg base CX0 1 f fd ["ways"] spSorted := by
  have S : FnScope ["ways", "chooser"] ["ways"] (defScope s_sorted_ways) := ⟨rfl, rfl, rfl, by decide +kernel, rfl, by decide +kernel, by decide +kernel⟩
  refine D.F.ok S (fun vs H Q E h => ?_) (fun cdv Ar outer s H vs Q E hr h => ?_)
  · obtain ⟨d, W, rfl, _⟩ := h
    rfl
  · obtain ⟨d, W, rfl, ⟨kvs, hd, hp⟩, hN, h64, hw, q⟩ := h
    have nd := S.nd
    have hu := hu_of hr
    refine ⟨_, pss_one (ps_ret (pe_dc (own := [("chooser", 1)]) (g := gName 1) (tt := tYes) rfl nd (pi_list (pe_callB (call_srtD rfl) (by rfl) ms (by decide +kernel) (pa_cons (pv 0) pa_nil))) (blkOk_by (N := ["ways", "chooser"]) (sc := defScope s_sorted_ways) (by decide +kernel)) (fun _ _ _ _ _ => pg_name (i := 1) nd rfl (Or.inl rfl)) (fun _ _ _ _ _ => pts_nil)
      (fun _ _ _ _ _ => pv 1) (fun _ _ _ _ _ => pe_callB (id := "sorted") (r := rSrt K) call_srt (by rfl) ms (by decide +kernel) (pa_cons (pe_dget hu (pv 0) (pv 1) (fun _ _ => rfl)) pa_nil)))), ?_⟩
    refine ⟨_, rfl, d, kvs, W.map (·.1), rfl, hd, keysK hp, (by rw [List.length_map]; exact h64), fun p np => ?_⟩
    have s1 := same_upd (o := .lst ((srt (W.map (·.1))).map V.str)) np
    refine ⟨p, rfl, ⟨_, SqL.of upd_same⟩, fun D nD => ?_⟩
    refine ⟨fun i m H' => m = (sh W).length - i ∧ i ≤ (sh W).length ∧ (∃ ks, H' D = some (.dK ks) ∧ Paired (KvL (fun a => H a = none) H') ((sh W).take i) ks) ∧ Same (upd H p (.lst ((srt (W.map (·.1))).map V.str))) H', ⟨_, rfl, Nat.zero_le _, ⟨[], upd_same, .nil⟩, same_upd nD⟩, ?_⟩
    rintro i m H1 ⟨rfl, hi, ⟨ks, hD, hks⟩, sm⟩
    have sl : (sh W).length = (srt (W.map (·.1))).length := List.length_map ..
    by_cases hlt : i < (sh W).length
    · have hlt2 : i < (srt (W.map (·.1))).length := by omega
      have hx : ((srt (W.map (·.1))).map V.str)[i]? = some (.str (srt (W.map (·.1)))[i]) := by rw [List.getElem?_map, List.getElem?_eq_getElem hlt2]; rfl
      refine .inr ⟨⟨_, _, SqL.of (sm _ _ upd_same), hx⟩, fun H' => (∃ ks, H' D = some (.dK ks) ∧ Paired (KvL (fun a => H a = none) H') ((sh W).take (i + 1)) ks) ∧ Same (upd H p (.lst ((srt (W.map (·.1))).map V.str))) H', fun H' hN' => ⟨_, Nat.sub_lt_sub_left hlt (Nat.lt_succ_self i), rfl, hlt, hN'⟩, fun x H' y => ?_⟩
      obtain ⟨rfl, y⟩ := y
      have ex : x = .str (srt (W.map (·.1)))[i] := Option.some.inj ((y _ (SqL.of (sm _ _ upd_same))).symm.trans hx)
      subst ex
      obtain ⟨qw, hqw, ek⟩ := List.mem_map.mp (srt_mem.mp (List.getElem_mem hlt2))
      have e0 : (sh W)[i]? = some (qw.1, srt qw.2) := by
        unfold sh
        rw [List.getElem?_map, List.getElem?_eq_getElem hlt2, ← ek]
        show some (qw.1, srt (lookW W qw.1)) = _
        rw [lookW_of hN hqw]
      have hd1 := sm _ _ (s1 _ _ hd)
      have hp1 := paired_imp hp fun a b (q : KvW H a b) => (⟨q.1, q.2.same (s1.trans sm)⟩ : KvW H' a b)
      obtain ⟨v, hv, hw1⟩ := valV_of hp1 hN hqw
      obtain ⟨a, rfl, ha⟩ := hw1.sq (K := K)
      have hg : DGet H' d (.str (srt (W.map (·.1)))[i]) (some (.ref a)) := by
        rw [← ek, ← hv]
        exact DGet.k (k := Sum.inr qw.1) hd1
      refine ⟨rfl, _, rfl, _, rfl, _, rfl, d, _, rfl, hg, a, qw.2, rfl, ha, hw qw hqw, fun a2 n2 => ?_⟩
      have s2 := same_upd (o := .lst ((srt qw.2).map V.str)) n2
      have hD2 := s2 _ _ hD
      have hks2 := paired_imp hks fun a b (q : KvL (fun a => H a = none) H' a b) => q.same s2
      have hlk : ks.length = i := by
        rw [← Paired.length hks, List.length_take]
        omega
      have hnew : Sum.inr qw.1 ∉ ks.map (·.1) := by
        rw [keysL hks]
        intro z
        obtain ⟨y, hy, e⟩ := List.mem_map.mp z
        have ey : y = qw.1 := Sum.inr.inj e
        rw [List.map_take, show (sh W).map (·.1) = srt (W.map (·.1)) by unfold sh; rw [List.map_map]; exact List.map_id _] at hy
        obtain ⟨j, hj, ej⟩ := List.getElem_of_mem hy
        rw [List.length_take] at hj
        rw [List.getElem_take] at ej
        have := (List.getElem_inj (srt_nd hN)).mp (ej.trans (ey.trans ek))
        omega
      refine ⟨ks, Sum.inr qw.1, (by rw [← ek]; rfl), hD2, small1000 (by rw [hlk]; have := srt_len (W.map (·.1)); rw [List.length_map] at this; omega), ⟨_, upd_same, ?_⟩, fun b o e => ?_⟩
      · rw [putK_new hnew, List.take_add_one, e0]
        have up : ∀ (a : Way) (b : Key × V), KvL (fun a => H a = none) (upd H' a2 (.lst ((srt qw.2).map V.str))) a b → KvL (fun a => H a = none) (upd (upd H' a2 (.lst ((srt qw.2).map V.str))) D (.dK (ks ++ [(Sum.inr qw.1, .ref a2)]))) a b := fun a b ⟨e, c, ev, n, h⟩ => ⟨e, c, ev, n, by
          rw [upd_ne (ne_of h hD2 (by intro z; cases z))]
          exact h⟩
        refine paired_append (paired_imp hks2 up) (.cons (up _ _ ⟨rfl, a2, rfl, (s1.trans sm).free n2, upd_same⟩) .nil)
      · rw [upd_ne (ne_of_none e nD)]
        exact s2 _ _ (sm _ _ e)
    · have ei : i = (sh W).length := by omega
      subst ei
      refine .inl ⟨⟨_, SqL.of (sm _ _ upd_same), by rw [List.length_map, sl]; exact Nat.le_refl _⟩, q H1 D (s1.trans sm) (s1.free nD) ⟨ks, hD, by rw [List.take_length] at hks; exact hks⟩⟩
end
end HG

namespace HG
open PySem PySem.Spec PyProof.Rows L2
open C8 (pss_cut tCut)
/-- one clause of a comprehension, by its own walk -/
theorem walk_run {J : It} {n : Nat} {G : Hp → Prop} {Y : Nat → Hp → V → Hp → Prop} (w : Walk J n G Y) {H0 : Hp} {Qd : Hp → Prop} {B : V → Hp → (Hp → Prop) → Prop} (Pv : Nat → Hp → Prop) (h0 : Pv 0 H0) (hG : ∀ i H, i ≤ n → Pv i H → G H)
    (hs : ∀ i x H H', i < n → Pv i H → Y i H x H' → B x H' (Pv (i + 1))) (hd : ∀ H, Pv n H → Qd H) :
    ∃ W : Nat → Nat → Hp → Prop, (∃ m, W 0 m H0) ∧ ∀ i m H, W i m H →
      (J.stop i H ∧ Qd H) ∨ (J.go i H ∧ ∃ Nx : Hp → Prop, (∀ H', Nx H' → ∃ m', m' < m ∧ W (i + 1) m' H') ∧ ∀ x H', J.yld i H x H' → B x H' Nx) := by
  refine ⟨fun i m H => m = n - i ∧ i ≤ n ∧ Pv i H, ⟨n, by simp, Nat.zero_le _, h0⟩, ?_⟩
  rintro i m H ⟨rfl, hi, p⟩
  have q := hG i H hi p
  by_cases hlt : i < n
  · refine .inr ⟨w.goes i H hlt q, Pv (i + 1), fun H' p' => ⟨n - (i + 1), by omega, rfl, hlt, p'⟩, fun x H' y => hs i x H H' hlt p (w.yields i H x H' hlt q y)⟩
  · have e : i = n := by omega
    subst e
    exact .inl ⟨w.stops H q, hd H p⟩
/-- tuples of texts -/
def TupsAt (H : Hp) (sts : List (List Str)) (vs : List V) : Prop := Paired (fun st v => ∃ a, v = .ref a ∧ H a = some (.tup (st.map V.str))) sts vs
theorem TupsAt.same {H H' : Hp} {sts : List (List Str)} {vs : List V} (h : TupsAt H sts vs) (s : Same H H') : TupsAt H' sts vs := paired_imp h fun _ _ ⟨a, e, h⟩ => ⟨a, e, s _ _ h⟩
/-- a list changed: tuples stand -/
theorem TupsAt.upd {H : Hp} {sts : List (List Str)} {vs : List V} {D : Addr} {xs : List V} {o : HO} (h : TupsAt H sts vs) (hD : H D = some (.lst xs)) : TupsAt (upd H D o) sts vs := paired_imp h fun _ _ ⟨a, e, h⟩ => ⟨a, e, by
  rw [upd_ne (ne_of h hD (by intro z; cases z))]
  exact h⟩
def mul1 (sts : List (List Str)) (ws : List Str) : List (List Str) := sts.flatMap fun st => ws.map fun w => st ++ [w]
def stds (S : List Way) : List (List Str) := S.foldl (fun sts q => mul1 sts q.2) [[]]
theorem mul1_len (sts : List (List Str)) (ws : List Str) : (mul1 sts ws).length = sts.length * ws.length := by
  unfold mul1
  induction sts with
  | nil => simp
  | cons a r ih => rw [List.flatMap_cons, List.length_append, ih, List.length_map, List.length_cons, Nat.succ_mul, Nat.add_comm]
theorem mul1_more {sts : List (List Str)} {ws : List Str} {i : Nat} {st : List Str} (h : sts[i]? = some st) : mul1 (sts.take (i + 1)) ws = mul1 (sts.take i) ws ++ ws.map fun w => st ++ [w] := by
  unfold mul1
  rw [List.take_add_one, h, List.flatMap_append]
  simp
theorem stds_more {S : List Way} {i : Nat} {q : Way} (h : S[i]? = some q) : stds (S.take (i + 1)) = mul1 (stds (S.take i)) q.2 := by
  unfold stds
  rw [List.take_add_one, h, List.foldl_append]
  rfl
theorem stds_mem {S : List Way} {st : List Str} (h : st ∈ stds S) : st.length = S.length := by
  have key : ∀ (S : List Way) (sts : List (List Str)) (n : Nat), (∀ x ∈ sts, x.length = n) → ∀ x ∈ S.foldl (fun sts q => mul1 sts q.2) sts, x.length = n + S.length := by
    intro S
    induction S with
    | nil => exact fun sts n h x hx => h x hx
    | cons q r ih =>
      intro sts n h x hx
      have := ih (mul1 sts q.2) (n + 1) (fun y hy => by
        obtain ⟨z, hz, hy⟩ := List.mem_flatMap.mp hy
        obtain ⟨w, _, rfl⟩ := List.mem_map.mp hy
        rw [List.length_append, h z hz]
        rfl) x hx
      rw [this, List.length_cons]
      omega
  have := key S [[]] 0 (fun x hx => by rw [List.mem_singleton.mp hx]; rfl) st h
  omega
def spStds : Sp := fun vs H Q _ => ∃ d S N, vs = [.ref d] ∧ ShL N H d S ∧ (∀ i, i ≤ S.length → (stds (S.take i)).length ≤ 256) ∧ (∀ q ∈ S, q.2.length ≤ 4) ∧ S.length ≤ 4 ∧
  ∀ H' p vs, Same H H' → H p = none → H' p = some (.lst vs) → TupsAt H' (stds S) vs → Q (.ref p) H'
section
variable {P : Program} {w : World} {K : PySem.W.Frag} {mg : Str → Option Value} {base : Heap}
/-- (x,) behind a tuple, by what stands behind: new where not empty -/
theorem mul1_bound {sts : List (List Str)} {ws : List Str} {i j : Nat} (hi : i < sts.length) (hj : j < ws.length) : (mul1 (sts.take i) ws).length + j < sts.length * ws.length := by
  rw [mul1_len, List.length_take, Nat.min_eq_left (Nat.le_of_lt hi)]
  calc i * ws.length + j < i * ws.length + ws.length := by omega
    _ = (i + 1) * ws.length := by rw [Nat.succ_mul]
    _ ≤ sts.length * ws.length := Nat.mul_le_mul_right _ hi
theorem ok_standings_of {f : Addr} {fd : FuncData} (D : Df K mg "standings_of" s_standings_of f fd) : FnOk P w K mg base CX0 1 f fd ["way_lists"] spStds := by
  have S : FnScope ["way_lists", "standings", "ways", "standing", "way"] ["way_lists"] (defScope s_standings_of) := ⟨rfl, rfl, rfl, by decide +kernel, rfl, by decide +kernel, by decide +kernel⟩
  refine D.F.ok S (fun vs H Q E h => ?_) (fun cdv Ar outer s H vs Q E hr h => ?_)
  · obtain ⟨d, W, N, rfl, _⟩ := h
    rfl
  · obtain ⟨d, W, N, rfl, ⟨kvs, hd, hp⟩, hB, h4, hl4, q⟩ := h
    have nd := S.nd
    refine ⟨_, pss_cons (ps_set (i := 1) nd rfl (Or.inl rfl) (pe_lst (pa_cons (pe_tup pa_nil) pa_nil)))
      (pss_cons (ps_lock (ps_for PassesOwn.never rfl (pi_values (pv 0)) (pg_name (i := 2) nd rfl (Or.inr rfl))
        (pss_one (ps_setLc2 (i := 1) (own := [("standing", 3), ("way", 4)]) (vs1 := [4]) (g := gName 3) (g1 := gName 4) (tt := tYes) (tt1 := tYes) (wi1 := iList K (tVar 2)) rfl nd rfl rfl (sw_true rfl rfl rfl (by decide +kernel)) (pi_list (pv 1)) (blkOk_by (N := ["way_lists", "standings", "ways", "standing", "way"]) (sc := defScope s_standings_of) (by decide +kernel)) (by decide)
          (fun _ _ _ _ _ => pg_name (i := 3) nd rfl (Or.inl rfl)) (fun _ _ _ _ _ => pts_nil) (fun _ _ _ _ _ => pi_list (pv 2)) (fun _ _ _ _ _ => pg_name (i := 4) nd rfl (Or.inl rfl)) (fun _ _ _ _ _ => pts_nil)
          (fun _ _ _ _ _ => pe_op op_catB (pv 3) (pe_tup (pa_cons (pv 4) pa_nil)))))))
      (pss_one (ps_ret (pv 1)))), ?_⟩
    refine ⟨(by show 0 ≤ sizeLine; decide), fun p0 n0 => ?_⟩
    have s0 := same_upd (o := .tup []) n0
    refine ⟨(by show 1 ≤ sizeLine; decide), fun p1 n1 => ?_⟩
    have s1 := same_upd (o := .lst [V.ref p0]) n1
    have s01 := s0.trans s1
    have hd1 := s01 _ _ hd
    have hp1 := paired_imp hp fun a b (q : KvL N H a b) => q.same s01
    have hlen : W.length = kvs.length := Paired.length hp
    refine ⟨d, .dK kvs, hd1, trivial, fun od => ?_⟩
    generalize hHL : upd (upd (upd H p0 (.tup [])) p1 (.lst [V.ref p0])) d (.frz od (.dK kvs)) = HL
    have hL1 : HL p1 = some (.lst [V.ref p0]) := by
      subst hHL
      rw [upd_ne (fun z => by subst z; rw [upd_same] at hd1; cases hd1)]
      exact upd_same
    have hLs : ∀ {v : V} {a : Addr} {xs : List V}, v = .ref a → (upd (upd H p0 (.tup [])) p1 (.lst [V.ref p0])) a = some (.lst xs) → HL a = some (.lst xs) := fun {v a xs} _ e => by
      subst hHL
      rw [upd_ne (ne_of e hd1 (by intro z; cases z))]
      exact e
    refine ⟨_, rfl, d, od, kvs, rfl, (by subst hHL; exact upd_same), for_it walk_values (fun i σ H' => ∃ p vs v2 v3 v4, σ = [some (.ref d), some (.ref p), v2, v3, v4] ∧ H p = none ∧ H' p = some (.lst vs) ∧ TupsAt H' (stds (W.take i)) vs ∧ Same HL H') ⟨p1, [.ref p0], none, none, none, rfl, s0.free n1, hL1, .cons ⟨p0, rfl, (by
      subst hHL
      rw [upd_ne (ne_of (s1 _ _ upd_same) hd1 (by intro z; cases z))]
      exact s1 _ _ upd_same)⟩ .nil, Same.refl _⟩ (fun i σ H' _ ⟨_, _, _, _, _, _, _, _, _, sm⟩ => sm _ _ (by subst hHL; exact upd_same)) ?_ ?_⟩
    · rintro i x σ H' H'' hi ⟨pp, vs, v2, v3, v4, rfl, np, hvs, ht, sm⟩ ⟨rfl, k, hk⟩
      obtain ⟨qw, hq, ek, a, rfl, na, ha⟩ := paired_get hp1 hk
      have hm : qw ∈ W := List.mem_of_getElem? hq
      have ha' : H'' a = some (.lst (qw.2.map V.str)) := sm _ _ (hLs rfl ha)
      have hsl : (stds (W.take i)).length = vs.length := Paired.length ht
      have hb : (stds (W.take (i + 1))).length ≤ 256 := hB (i + 1) (by omega)
      rw [stds_more hq, mul1_len] at hb
      refine ⟨_, rfl, pp, rfl, ⟨_, SqL.of hvs⟩, fun D hD => ?_⟩
      have sD := same_upd (o := .lst []) hD
      refine walk_run (walk_list (K := K) (a := pp) (xs := vs)) (fun j H3 => ∃ ws, H3 D = some (.lst ws) ∧ TupsAt H3 (mul1 ((stds (W.take i)).take j) qw.2) ws ∧ Same H'' H3) ⟨[], upd_same, .nil, sD⟩ (fun j H3 _ ⟨_, _, _, s3⟩ => SqL.of (s3 _ _ hvs)) ?_ ?_
      · rintro j x H3 H3' hj ⟨ws, hD3, ht3, s3⟩ ⟨rfl, hx⟩
        obtain ⟨st, hst, c, rfl, hc⟩ := paired_get ht hx
        have hc3 := s3 _ _ hc
        refine ⟨rfl, _, rfl, a, rfl, ⟨_, SqL.of (s3 _ _ ha')⟩, walk_run (walk_list (K := K) (a := a) (xs := qw.2.map V.str)) (fun k H4 => ∃ ws, H4 D = some (.lst ws) ∧ TupsAt H4 (mul1 ((stds (W.take i)).take j) qw.2 ++ (qw.2.take k).map fun w => st ++ [w]) ws ∧ Same H'' H4) ⟨ws, hD3, by simpa using ht3, s3⟩ (fun k H4 _ ⟨_, _, _, s4⟩ => SqL.of (s4 _ _ ha')) ?_ ?_⟩
        · rintro k x H4 H4' hk4 ⟨ws4, hD4, ht4, s4⟩ ⟨rfl, hx4⟩
          rw [List.length_map] at hk4
          have ex : x = .str (qw.2[k]) := by
            rw [List.getElem?_map, List.getElem?_eq_getElem hk4] at hx4
            exact (Option.some.inj hx4).symm
          subst ex
          have hstl : st.length ≤ 100 := by
            rw [stds_mem (List.mem_of_getElem? hst), List.length_take]
            omega
          refine ⟨rfl, _, rfl, _, rfl, (by show 1 ≤ sizeLine; decide), fun p5 n5 => ?_⟩
          have s5 := same_upd (o := .tup [V.str (qw.2[k])]) n5
          refine ⟨c, p5, _, _, rfl, rfl, s5 _ _ (s4 _ _ hc), upd_same, (by rw [List.length_map]; show st.length + 1 ≤ 1000; omega), fun H6 p6 s6 h6 => ?_⟩
          have hD6 := s6 _ _ (s5 _ _ hD4)
          have ht6 := (ht4.same (s5.trans s6)).upd (o := .lst (ws4 ++ [.ref p6])) hD6
          refine ⟨ws4, hD6, small1000 ?_, _, upd_same, ?_, fun b o e => ?_⟩
          · rw [← Paired.length ht4, List.length_append, List.length_map, List.length_take, Nat.min_eq_left (Nat.le_of_lt hk4)]
            have := mul1_bound (sts := stds (W.take i)) (ws := qw.2) (by omega : j < _) hk4
            omega
          · rw [List.take_add_one, List.getElem?_eq_getElem hk4, List.map_append, ← List.append_assoc]
            refine paired_append ht6 (.cons ⟨p6, rfl, ?_⟩ .nil)
            rw [upd_ne (ne_of h6 hD6 (by intro z; cases z)), h6, List.map_append]
            rfl
          · rw [upd_ne (ne_of_none e hD)]
            exact s6 _ _ (s5 _ _ (s4 _ _ e))
        · rintro H4 ⟨ws4, hD4, ht4, s4⟩
          rw [List.length_map, List.take_length] at ht4
          exact ⟨ws4, hD4, by rw [mul1_more hst]; exact ht4, s4⟩
      · rintro H3 ⟨ws, hD3, ht3, s3⟩
        rw [← hsl, List.take_length] at ht3
        refine ⟨D, ws, _, _, _, rfl, ?_, hD3, by rw [stds_more hq]; exact ht3, sm.trans s3⟩
        have hd' : H'' d = some (.frz od (.dK kvs)) := sm _ _ (by subst hHL; exact upd_same)
        subst hHL
        exact (s01.trans (unlock hd1 sm)).free (by rw [upd_ne (fun z => by rw [z, hd'] at hD; cases hD)]; exact hD)
    · rintro σ H' ⟨p, vs, v2, v3, v4, rfl, np, hvs, ht, sm⟩
      refine ⟨sm _ _ (by subst hHL; exact upd_same), ?_⟩
      rw [← hlen, List.take_length] at ht
      refine ⟨_, rfl, q _ p vs ?_ np ?_ ?_⟩
      · subst hHL
        exact s01.trans (unlock hd1 sm)
      · rw [upd_ne (fun z => by rw [z] at np; rw [hd] at np; cases np)]
        exact hvs
      · refine paired_imp ht fun _ _ ⟨a, e, h⟩ => ⟨a, e, ?_⟩
        rw [upd_ne (ne_of h (sm _ _ (by subst hHL; exact upd_same)) (by intro z; cases z))]
        exact h
end
end HG

namespace HG
open PySem PySem.Spec PyProof.Rows L2
open C8 (pss_cut tCut)
/-- whether a value is a key, as a tuple of texts -/
def textsV : List V → Option (List Key)
  | [] => some []
  | .str z :: r => (textsV r).map (Sum.inr z :: ·)
  | _ :: _ => none
theorem textsV_names : ∀ {xs : List V}, xs.all nameV = true → ∃ st : List Str, xs = st.map V.str ∧ (∀ z ∈ st, isNm z = true)
  | [], _ => ⟨[], rfl, fun _ h => nomatch h⟩
  | x :: r, h => by
    rw [List.all_cons, Bool.and_eq_true] at h
    obtain ⟨st, e, hn⟩ := textsV_names h.2
    cases x with
    | str z => exact ⟨z :: st, by rw [e]; rfl, fun y hy => by
        rcases List.mem_cons.mp hy with rfl | hy
        · exact h.1
        · exact hn y hy⟩
    | _ => exact absurd h.1 (by intro z; cases z)
/-- whether x is a key of kvs, all texts -/
def oneOf (kvs : List (List Key × V)) (xs : List V) : Bool := xs.all nameV && kvs.any fun kv => decide (kv.1.map kV = xs)
theorem kV_inj : ∀ {a b : Key}, kV a = kV b → a = b
  | .inl a, .inl b, h => by rw [V.int.inj h]
  | .inr a, .inr b, h => by rw [V.str.inj h]
  | .inl _, .inr _, h => nomatch h
  | .inr _, .inl _, h => nomatch h
theorem kVs_inj : ∀ {a b : List Key}, a.map kV = b.map kV → a = b
  | [], [], _ => rfl
  | _ :: _, _ :: _, h => by
    rw [List.map_cons, List.map_cons, List.cons.injEq] at h
    rw [kV_inj h.1, kVs_inj h.2]
  | [], _ :: _, h => nomatch h
  | _ :: _, [], h => nomatch h
theorem oneOf_key (kvs : List (List Key × V)) (st : List Str) (h : ∀ z ∈ st, isNm z = true) : oneOf kvs (st.map V.str) = (valV kvs (kS st)).isSome := by
  unfold oneOf
  rw [names_all h, ← valV_any, Bool.true_and, ← kS_v]
  congr 1
  funext kv
  by_cases e : kv.1 = kS st
  · rw [e, decide_eq_true rfl, decide_eq_true rfl]
  · rw [decide_eq_false e, decide_eq_false fun z => e (kVs_inj z)]
def spOneOf (K : PySem.W.Frag) : Sp := fun vs H Q _ => ∃ x d kvs, vs = [x, .ref d] ∧ H d = some (.dT kvs) ∧
  ((∃ a xs, x = .ref a ∧ H a = some (.tup xs) ∧ xs.length ≤ 10000 ∧ (∀ y ∈ xs, ∃ t, AnyV K H y t) ∧ ∀ H', Same H H' → Q (.bl (oneOf kvs xs)) H') ∨ (∃ t, AnyV K H x t ∧ t ≠ .tup ∧ Q (.bl false) H))
def CellOk (K : PySem.W.Frag) (H : Hp) (o : Option V) (n : Int) (b : Bool) : Prop := (o = none ∧ b = false) ∨ ∃ v, o = some v ∧
  ((∃ xs, SeqV K H v xs ∧ xs.length < sizeLine ∧ (∀ y ∈ xs, ∃ t, AnyV K H y t ∧ (t.isa "int" && !t.isa "bool") = intV y) ∧ b = (decide ((xs.length : Int) = n) && xs.all intV)) ∨ (∃ t, AnyV K H v t ∧ t ≠ .lst ∧ t ≠ .tup ∧ b = false))
theorem CellOk.same {K : PySem.W.Frag} {H H' : Hp} {o : Option V} {n : Int} {b : Bool} (h : CellOk K H o n b) (s : Same H H') : CellOk K H' o n b := by
  rcases h with h | ⟨v, e, ⟨xs, h, hz, ha, eb⟩ | ⟨t, h, n1, n2, eb⟩⟩
  · exact .inl h
  · exact .inr ⟨v, e, .inl ⟨xs, h.same s, hz, (fun y hy => let ⟨t, q, e⟩ := ha y hy; ⟨t, q.same s, e⟩), eb⟩⟩
  · exact .inr ⟨v, e, .inr ⟨t, h.same s, n1, n2, eb⟩⟩
def spIsTable (K : PySem.W.Frag) : Sp := fun args H Q _ => ∃ x p sts vs n, ∃ good : List Str → Bool, args = [x, .ref p, .int n] ∧ H p = some (.lst vs) ∧ TupsAt H sts vs ∧ sts.length ≤ 256 ∧
  ((∃ d kvs, x = .ref d ∧ H d = some (.dT kvs) ∧ (∀ st ∈ sts, CellOk K H (valV kvs (kS st)) n (good st)) ∧ ∀ H', Same H H' → Q (.bl (decide (kvs.length = sts.length) && sts.all good)) H') ∨
   (∃ t, AnyV K H x t ∧ t ≠ .dct ∧ ∀ H', Same H H' → Q (.bl false) H'))
theorem dim_dct {K : PySem.W.Frag} {H : Hp} {x : V} {t : Tg} (h : t ≠ .dct) : t.isa "dict" = false := by cases t <;> first | rfl | exact absurd rfl h
section
variable {P : Program} {w : World} {K : PySem.W.Frag} {mg : Str → Option Value} {base : Heap}
theorem ok_is_one_of {f fN : Addr} {fd fdN : FuncData} (D : Df K mg "is_one_of" s_is_one_of f fd) (N : Df K mg "is_name" s_is_name fN fdN) (bN : Binds K fdN ["thing"] []) (T : KT K mg) : FnOk P w K mg base CX0 2 f fd ["thing", "tuples"] (spOneOf K) := by
  have S : FnScope ["thing", "tuples", "item"] ["thing", "tuples"] (defScope s_is_one_of) := ⟨rfl, rfl, rfl, by decide +kernel, rfl, by decide +kernel, by decide +kernel⟩
  refine D.F.ok S (fun vs H Q E h => ?_) (fun cdv A outer s H vs Q E hr h => ?_)
  · obtain ⟨x, d, kvs, rfl, _⟩ := h
    rfl
  · obtain ⟨x, d, kvs, rfl, hd, q⟩ := h
    have nd := S.nd
    have hu := hu_of hr
    refine ⟨_, pss_one (ps_ret (pe_and (pe_callB call_isi6 (by rfl) T.m_isinstance (by decide +kernel) (pa_cons (pv 0) (pa_cons (pe_bltn (v := .ty "tuple") (by rfl) T.m_tuple (by decide +kernel) rfl) pa_nil)))
      (pe_and (pe_callB (cr_all rfl) (by rfl) T.m_all (by decide +kernel) (pa_cons (pe_lc (own := [("item", 2)]) (g := gName 2) (tt := tYes) rfl nd (pi_tup (pv 0)) (blkOk_by (N := ["thing", "tuples", "item"]) (sc := defScope s_is_one_of) (by decide +kernel)) (fun _ _ _ _ _ => pg_name (i := 2) nd rfl (Or.inl rfl)) (fun _ _ _ _ _ => pts_nil)
        (fun _ _ _ _ _ => pe_call (ok_is_name N T) (hr.mono (by decide)) (by rfl) N.g N.F.kp bN .nil pass0 (pa_cons (pv 2) pa_nil))) pa_nil))
        (pe_one (pe_cmp (pc_din hu (pv 0) (pv 1))))))), ?_⟩
    rcases q with ⟨a, xs, rfl, ha, hz, hany, q⟩ | ⟨t, ht, nt, q⟩
    · refine ⟨_, rfl, _, .tup, _, rfl, AnyV.tup ha, by decide, _, rfl, ?_⟩
      refine ⟨_, rfl, a, rfl, ⟨_, SqT.of ha⟩, fun D hD => ?_⟩
      have sD := same_upd (o := .lst []) hD
      refine lc_it (walk_tup (K := K) (a := a) (xs := xs)) (fun i H' => H' D = some (.lst (((xs.take i).map nameV).map V.bl)) ∧ Same H H') ⟨upd_same, sD⟩ (fun i H' _ ⟨_, sm⟩ => SqT.of (sm _ _ ha)) ?_ ?_
      · rintro i y H' _ hi ⟨hz', sm⟩ ⟨rfl, hy⟩
        obtain ⟨t', hy'⟩ := hany y (List.mem_of_getElem? hy)
        refine ⟨rfl, _, rfl, y, t', rfl, hy'.same sm, _, hz', ?_, ?_, fun b o e => ?_⟩
        · rw [List.length_map, List.length_map, List.length_take, sizeLine_eq]
          omega
        · rw [upd_same, List.take_add_one, hy, List.map_append, List.map_append]
          rfl
        · rw [upd_ne (ne_of_none e hD)]
          exact sm _ _ e
      · rintro H' ⟨hz', sm⟩
        rw [List.take_length] at hz'
        refine ⟨D, _, rfl, SqL.of hz', _, rfl, ?_⟩
        have ea : ((xs.map nameV).all id) = xs.all nameV := by
          rw [List.all_map]
          rfl
        rw [ea]
        cases e : xs.all nameV with
        | false =>
          have q' := q H' sm
          unfold oneOf at q'
          rw [e] at q'
          exact q'
        | true =>
          obtain ⟨st, rfl, hst⟩ := textsV_names e
          have q' := q H' sm
          rw [oneOf_key kvs st hst] at q'
          exact ⟨_, rfl, _, rfl, d, _, rfl, DGet.t (k := kS st) (sm _ _ hd) (by rw [kS_v]; exact sm _ _ ha), q'⟩
    · have hb : t.isa "tuple" = false := by cases t <;> first | rfl | exact absurd rfl nt
      refine ⟨_, rfl, _, t, _, rfl, ht, by decide, _, rfl, ?_⟩
      rw [hb]
      exact q
theorem ok_is_table {f fI fN : Addr} {fd fdI fdN : FuncData} (D : Df K mg "is_table" s_is_table f fd) (I : Df K mg "are_integers" s_are_integers fI fdI) (bI : Binds K fdI ["thing", "many"] []) (N : Df K mg "is_integer" s_is_integer fN fdN) (bN : Binds K fdN ["thing"] []) (T : KT K mg) : FnOk P w K mg base CX0 3 f fd ["thing", "wanted", "many"] (spIsTable K) := by
  have S : FnScope ["thing", "wanted", "many", "key"] ["thing", "wanted", "many"] (defScope s_is_table) := ⟨rfl, rfl, rfl, by decide +kernel, rfl, by decide +kernel, by decide +kernel⟩
  refine D.F.ok S (fun vs H Q E h => ?_) (fun cdv A outer s H vs Q E hr h => ?_)
  · obtain ⟨x, p, sts, vs, n, good, rfl, _⟩ := h
    rfl
  · obtain ⟨x, p, sts, vs, n, good, rfl, hp, ht, hz, q⟩ := h
    have nd := S.nd
    have hu := hu_of hr
    have G := ok_are_integers (P := P) (w := w) (base := base) I N bN T
    refine ⟨_, pss_cons (ps_if (PW.pt (pw_or (pt_not (pt_val (pe_callB call_isi6 (by rfl) T.m_isinstance (by decide +kernel) (pa_cons (pv 0) (pa_cons (pe_bltn (v := .ty "dict") (by rfl) T.m_dict (by decide +kernel) rfl) pa_nil)))))
        (pw_or1 (pt_cmpR op_ne (pe_callB call_len_dT (by rfl) T.m_len PySem.boot_len (pa_cons (pv 0) pa_nil)) (pe_callB call_len_seq (by rfl) T.m_len PySem.boot_len (pa_cons (pv 1) pa_nil)) (nomark _))))) (pss_one (ps_ret pe_bl)) pss_nil)
      (pss_one (ps_ret (pe_callB (cr_all rfl) (by rfl) T.m_all (by decide +kernel) (pa_cons (pe_lc (own := [("key", 3)]) (g := gName 3) (tt := tYes) rfl nd (pi_list (pv 1)) (blkOk_by (N := ["thing", "wanted", "many", "key"]) (sc := defScope s_is_table) (by decide +kernel)) (fun _ _ _ _ _ => pg_name (i := 3) nd rfl (Or.inl rfl)) (fun _ _ _ _ _ => pts_nil)
        (fun _ _ _ _ _ => pe_and (pe_cmp (pc_din hu (pv 3) (pv 0))) (pe_one (pe_call G hr (by rfl) I.g I.F.kp bI .nil pass0 (pa_cons (pe_dget hu (pv 0) (pv 3) (fun _ _ => rfl)) (pa_cons (pv 2) pa_nil)))))) pa_nil)))), ?_⟩
    rcases q with ⟨d, kvs, rfl, hd, hc, q⟩ | ⟨t, htt, nt, q⟩
    · refine ⟨_, rfl, _, .dct, _, rfl, AnyV.dT hd, by decide, _, rfl, iteF ?_⟩
      refine ⟨_, rfl, d, kvs, rfl, hd, _, rfl, p, vs, rfl, .inl (SqL.of hp), rfl, _, rfl, ?_⟩
      have hl : sts.length = vs.length := Paired.length ht
      by_cases hn : kvs.length = sts.length
      · have e0 : (!decide (V.int ((kvs.length : Nat) : Int) = V.int (vs.length : Int))) = false := by rw [decide_eq_true (by rw [hn, hl])]; rfl
        rw [e0]
        refine iteF ⟨_, rfl, p, rfl, ⟨_, SqL.of hp⟩, fun D hD => ?_⟩
        have sD := same_upd (o := .lst []) hD
        refine lc_it (walk_list (K := K) (a := p) (xs := vs)) (fun i H' => H' D = some (.lst (((sts.take i).map good).map V.bl)) ∧ Same H H') ⟨upd_same, sD⟩ (fun i H' _ ⟨_, sm⟩ => SqL.of (sm _ _ hp)) ?_ ?_
        · rintro i y H0 H' hi ⟨hz', sm⟩ ⟨rfl, hy⟩
          obtain ⟨st, hst, a, rfl, ha⟩ := paired_get ht hy
          have fin : ∀ H2, Same H' H2 → ∃ acc, H2 D = some (.lst acc) ∧ acc.length < sizeLine ∧ (upd H2 D (.lst (acc ++ [V.bl (good st)]))) D = some (.lst (((sts.take (i + 1)).map good).map V.bl)) ∧ Same H (upd H2 D (.lst (acc ++ [V.bl (good st)]))) := fun H2 s2 => by
            refine ⟨_, s2 _ _ hz', small1000 ?_, ?_, fun b o e => ?_⟩
            · rw [List.length_map, List.length_map, List.length_take]
              omega
            · rw [upd_same, List.take_add_one, hst, List.map_append, List.map_append]
              rfl
            · rw [upd_ne (ne_of_none e hD)]
              exact s2 _ _ (sm _ _ e)
          have hd' := sm _ _ hd
          have ha' := sm _ _ ha
          have hg : DGet H' d (.ref a) (valV kvs (kS st)) := DGet.t (k := kS st) hd' (by rw [kS_v]; exact ha')
          refine ⟨rfl, _, rfl, _, rfl, d, _, rfl, hg, ?_⟩
          rcases (hc st (List.mem_of_getElem? hst)).same sm with ⟨e, eb⟩ | ⟨v, e, hv⟩
          · refine ⟨_, rfl, ?_⟩
            rw [e]
            have := fin H' (Same.refl _)
            rw [eb] at this
            exact this
          · refine ⟨_, rfl, ?_⟩
            rw [e]
            rw [e] at hg
            refine ⟨_, rfl, _, rfl, d, v, rfl, hg, _, rfl, v, n, rfl, ?_⟩
            rcases hv with ⟨xs, h1, h2, h3, eb⟩ | ⟨t, h1, n1, n2, eb⟩
            · refine .inl ⟨xs, h1, h2, h3, fun H2 s2 => ?_⟩
              have := fin H2 s2
              rw [eb] at this
              exact this
            · refine .inr ⟨t, h1, n1, n2, fun H2 s2 => ?_⟩
              have := fin H2 s2
              rw [eb] at this
              exact this
        · rintro H' ⟨hz', sm⟩
          rw [← hl, List.take_length] at hz'
          refine ⟨D, _, rfl, SqL.of hz', ?_⟩
          have q' := q H' sm
          rw [decide_eq_true hn, Bool.true_and] at q'
          have ea : ((sts.map good).all id) = sts.all good := by
            rw [List.all_map]
            rfl
          rw [ea]
          exact q'
      · have e0 : (!decide (V.int ((kvs.length : Nat) : Int) = V.int (vs.length : Int))) = true := by
          rw [decide_eq_false (fun z => hn (by have := V.int.inj z; omega))]
          rfl
        rw [e0]
        have q' := q H (Same.refl _)
        rw [decide_eq_false hn] at q'
        exact iteT q'
    · refine ⟨_, rfl, _, t, _, rfl, htt, by decide, _, rfl, ?_⟩
      rw [dim_dct (K := K) (H := H) (x := x) nt]
      exact iteT (q H (Same.refl _))
end
end HG

namespace HG
open PySem PySem.Spec PyProof.Rows L2
/-! ### a dict made by a comprehension, keys of either kind: what is put in is told by DPut -/
section
variable {X : Cx}
/-- dictSet, as DPut tells -/
theorem put_by {pins : List (Addr × Obj)} {σ : L2.St} {H H' : Hp} {s : Shared} {E : Value → Shared → Prop} {D : Addr} {y v : V} {u r : Value} {Q : Unit → Shared → Prop} (hu : X.A.units < cLine) (I : Inv X pins σ H s) (g : DPut H D y v H') (ry : RelV y u) (rv : RelV v r)
    (h : ∀ s', Inv X pins σ H' s' → Q () s') : wpAny (model X.prog X.w) X.A (dictSet D u r) Q E s := by
  rcases g with ⟨kvs, k, e, ey, l, eH⟩ | ⟨kvs, k, b, e, ey, eb, l, eH⟩
  · subst ey eH
    exact d_dictSet I e l ry rv h
  · subst ey eH
    cases (show u = Value.ref b from ry)
    obtain ⟨z, hd, xs, rel, dd⟩ := dt_of I.hok e
    have hx : xs.length < sizeLine := (Paired.length rel) ▸ l
    refine wpAny_dictSet_heap (hsz := Nat.le_of_lt hx) (show (tupleKind (mixKind X.prog X.w)).room X.A from hu) (key_of I.hok eb) dd fun h' ⟨q, es, ep, hq, h2, h3, h4, _, h5⟩ hs => h _ ?_
    have few := length_putK kvs k v
    refine d_write I (by rw [e]; exact True.intro) hs ⟨q, hq⟩ ⟨by omega, hd, _, (rel.put k eb rv).keeps fun c ys ec => ?_, q, es, ep, hq, h2, h3, h4, h5⟩
    rw [upd_ne (ne_of ec e (fun z => nomatch z))]
    exact ec
/-- one turn: the target's store, the tests, key and value, what is put in -/
def tTurn (g : TG) (tt : TT) (tk tv : TE) (D : Addr) (σ0 : L2.St) (vs : List Nat) : V → Hp → (Hp → Prop) → Prop := fun x H Nx => g x σ0 H fun σ2 H2 => wipe σ2 vs = σ0 ∧ tt σ2 H2 fun b H3 =>
  match b with
  | true => tk σ2 H3 fun y H4 => tv σ2 H4 fun z H5 => ∃ H6, DPut H5 D y z H6 ∧ Nx H6
  | false => Nx H3
/-- the whole of it, begun with o0 -/
def tDcP (o0 : HO) (wi : TI) (g : TG) (tt : TT) (tk tv : TE) (vs : List Nat) : TE := fun σ H Q => wi σ H fun J H1 => ∀ D, H1 D = none → ∃ W : Nat → Nat → Hp → Prop, (∃ m, W 0 m (upd H1 D o0)) ∧ ∀ i m H, W i m H →
  (J.stop i H ∧ Q (.ref D) H) ∨ (J.go i H ∧ ∃ Nx : Hp → Prop, (∀ H', Nx H' → ∃ m', m' < m ∧ W (i + 1) m' H') ∧ ∀ x H', J.yld i H x H' → tTurn g tt tk tv D (wipe σ vs) vs x H' Nx)
abbrev HB (X : Cx) (scope : Scope) (f : Shared → Hp → Env → List Addr → Prop) : Prop := ∀ (s : Shared) (H : Hp) (C : Addr) (cl : List (Str × Addr)) (fp : List Addr), f s H (compEnvC scope cl C X.env) fp
theorem pe_dcP {o0 : HO} {kx vx tg iter : Expr} {ifs : List Expr} {scope : Scope} {own : List (Str × Nat)} {pos : Pos} {wi : TI} {g : TG} {tt : TT} {tk tv : TE} (h0 : o0 = .dK [] ∨ o0 = .dT []) (hu : X.A.units < cLine) (hc : X.calm = true) (hN : X.N.Nodup) (hi : PI X tg iter wi) (ok : BlkOk X.N X.env.scope scope own)
    (hg : HB X scope fun s H e fp => PG (X.blk s H scope e fp) tg g) (ht : HB X scope fun s H e fp => PTs (X.blk s H scope e fp) ifs tt)
    (hk : HB X scope fun s H e fp => PE (X.blk s H scope e fp) kx tk) (hv : HB X scope fun s H e fp => PE (X.blk s H scope e fp) vx tv) (hs : ∀ x, foldedSetIterable iter X.env x = pure x := by intro _; rfl) :
    PE X (.DictComp kx vx [⟨tg, iter, ifs, 0⟩] scope pos) (tDcP o0 wi g tt tk tv (own.map (·.2))) := by
  refine ⟨fun pins s σ H Q I h => ?_⟩
  rw [arm_eval_DictComp]
  have free : ∀ y ∈ scope.names, y.2 = .free → ∃ c, X.env.cells.lookup y.1 = some c := fun y hy e => (ok.free y hy e).elim (fun k => I.ok.has _ (.inl k)) (fun k => I.ok.has _ (.inr k))
  refine wpAny_comprehension_free rfl hs (closure_ok free) ok.kind (fun y hy e => by rw [ok.uniq y hy, e])
    (thn (hi.run pins s σ H _ I h) fun xv s1 hx => thn hx fun itv s2 ⟨it, fp, tn, J, H2, e, I2, T, st2, f2, q⟩ => ?_)
  subst e
  refine wpAny_newObj_type (newEnv_comp ?_)
  have nD : H2 s2.heap.objs.size = none := I2.hok.fresh (Nat.le_refl _)
  obtain ⟨W, ⟨m0, w0⟩, turn⟩ := q _ nD
  -- the new dict
  have I3 : Inv X pins σ (upd H2 s2.heap.objs.size o0) ({ s2 with heap := s2.heap.push { cls := .type "dict", data := .dict #[] } } : Shared) := by
    refine I2.laid (t' := s2.toks) (fun b o e => Heap.get?_push_of_some _ e) (Nat.le_refl _) ?_
    rcases h0 with rfl | rfl
    · exact dk_empty s2.heap I2.big
    · exact dt_empty s2.heap I2.big
  generalize hD : s2.heap.objs.size = D at I3 w0 turn ⊢
  generalize hs3 : ({ s2 with heap := s2.heap.push { cls := .type "dict", data := .dict #[] } } : Shared) = s3 at I3
  have e3 : s3.heap = s2.heap.push { cls := .type "dict", data := .dict #[] } := by rw [← hs3]
  have f3 : ∀ b ∈ fp, FpOk X pins (upd H2 D o0) b ∧ b < s3.heap.objs.size := fun b hb => by
    obtain ⟨o, eo, _⟩ := T.obj _ _ st2 b hb
    have lt := Heap.lt_size eo
    refine ⟨⟨?_, (f2 b hb).2⟩, by rw [e3, Heap.size_push]; exact Nat.lt_succ_of_lt lt⟩
    rw [upd_ne (by rw [← hD]; exact Nat.ne_of_lt lt)]
    exact (f2 b hb).1
  have I4 := block_start I3 ok hN f3
  have pg := hg s3 (upd H2 D o0) s3.heap.objs.size (cellsFrom (s3.heap.objs.size + 1) scope.names (cloFrom X.env.cells scope.names [])) fp
  have pt := ht s3 (upd H2 D o0) s3.heap.objs.size (cellsFrom (s3.heap.objs.size + 1) scope.names (cloFrom X.env.cells scope.names [])) fp
  have pk := hk s3 (upd H2 D o0) s3.heap.objs.size (cellsFrom (s3.heap.objs.size + 1) scope.names (cloFrom X.env.cells scope.names [])) fp
  have pv := hv s3 (upd H2 D o0) s3.heap.objs.size (cellsFrom (s3.heap.objs.size + 1) scope.names (cloFrom X.env.cells scope.names [])) fp
  show codeAny _ _ (.compStart (.DictComp kx vx [⟨tg, iter, ifs, 0⟩] scope pos) 0 (.ref it) (.ref D) (compEnvC scope (cellsFrom (s3.heap.objs.size + 1) scope.names (cloFrom X.env.cells scope.names [])) s3.heap.objs.size X.env)) (compPost (model X.prog X.w) X.A X.xe _ _ (.ref D) s3.heap.objs.size) { s3 with heap := pushCells (s3.heap.push { cls := .type "dict", data := .dict #[] }) scope.names }
  generalize hce : compEnvC scope (cellsFrom (s3.heap.objs.size + 1) scope.names (cloFrom X.env.cells scope.names [])) s3.heap.objs.size X.env = ce at I4 pg pt pk pv ⊢
  have cL : ce.locals = s3.heap.objs.size := by subst hce; rfl
  generalize hH3 : upd H2 D o0 = H3 at I3 I4 pg pt pk pv w0 f3
  generalize hs4 : ({ s3 with heap := pushCells (s3.heap.push { cls := .type "dict", data := .dict #[] }) scope.names } : Shared) = s4 at I4 ⊢
  have st4 : tn 0 s4.heap := by
    refine T.keep _ _ _ st2 fun b _ o e => ?_
    rw [← hs4]
    exact pushCells_keeps _ _ _ _ (Heap.get?_push_of_some _ (by rw [e3]; exact Heap.get?_push_of_some _ e))
  -- what holds between the turns
  let B : Nat → Nat → L2.St → Hp → Shared → Prop := fun i m τ H' s' => Inv (X.blk s3 H3 scope ce fp) [] τ H' s' ∧ tn i s'.heap ∧ (∀ b ∈ fp, H' b = none) ∧ W i m H'
  have fps : ∀ {τ H' s'}, Inv (X.blk s3 H3 scope ce fp) [] τ H' s' → (∀ b ∈ fp, H' b = none) → ∀ b ∈ fp, FpOk (X.blk s3 H3 scope ce fp) [] H' b := fun {τ H' s'} I' n' b hb =>
    ⟨n' b hb, (I'.ok.exf b hb).1, I'.ok.exfs b hb, .inl hb, fun x c e => (I'.ok.exf b hb).2 x c e, fun p hp => absurd (show p ∈ ([] : List (Addr × Obj)) ++ [] from hp) (by simp)⟩
  refine (fun loop => codeAny_compStart_dict loop (T.self X.A 0 _ _ _ st4 loop)) ?_
  refine compLoop_anyD (fun m s' => ∃ i H', B i m (wipe σ (own.map (·.2))) H' s') ?_ m0 ⟨0, H3, I4, st4, fun b hb => (f3 b hb).1.1, w0⟩
  rintro m s5 ⟨i, H5, I5, st5, n5, w5⟩
  have F5 := fps I5 n5
  rcases turn i m H5 w5 with ⟨stop, last⟩ | ⟨go, Nx, next, step⟩
  · refine thnF (T.done (X.blk s3 H3 scope ce fp) rfl rfl rfl hc i [] s5 _ H5 (fun _ _ => False) I5 F5 st5 stop) fun r s6 ⟨hr, I6⟩ => ?_
    subst hr
    have I7 : Inv X pins σ H5 s6 := I3.call' (ch := fp) I6.os I6.base I6.hok I6.bare fun b hb => ⟨(f3 b hb).1.2.2.2.1, (f3 b hb).1.2.1, (f3 b hb).1.2.2.2.2.1, (f3 b hb).1.2.2.2.2.2⟩
    have nC : H5 s3.heap.objs.size = none := cL ▸ (show H5 ce.locals = none from I6.free)
    obtain ⟨k, hk6, _⟩ := I6.loc
    have hk6 : s6.heap.Ns s3.heap.objs.size k := cL ▸ (show s6.heap.Ns ce.locals k from hk6)
    refine ⟨k, hk6, fun h'' sb => ?_⟩
    obtain ⟨g0, g1, g2, g3, g4, g5⟩ := I3.fpOk (Nat.le_refl _) nC
    exact ⟨.ref D, H5, I7.turned (t' := s6.toks) (fun b o hb e => (sb.2 b hb).trans e) g0 g1 g3 g4 g5, rfl, last⟩
  · refine thnF (T.item (X.blk s3 H3 scope ce fp) rfl rfl rfl hc i [] s5 _ H5 (fun _ _ => False) I5 F5 st5 go) fun r s6 ⟨u, hr, h6⟩ => ?_
    subst hr
    refine thnF h6 fun _ s7 ⟨x, H7, I7, r7, y7, st7, n7⟩ => ?_
    have P7 := I7.pinned (fps I7 n7) (T.obj _ _ st7)
    refine thnF (pg.run _ s7 _ H7 x u _ P7 r7 (step x H7 y7)) fun _ s8 ⟨σ8, H8, I8, e8, q8⟩ => ?_
    refine thnF (pt.run _ s8 σ8 H8 _ I8 q8) fun b s9 ⟨H9, I9, q9⟩ => ?_
    have fin : ∀ {s' : Shared} {H' : Hp}, Inv (X.blk s3 H3 scope ce fp) ([] ++ pinsAt fp s7.heap) σ8 H' s' → Nx H' → ∃ m', m' < m ∧ ∃ i H', B i m' (wipe σ (own.map (·.2))) H' s' := fun {s' H'} I' nx => by
      obtain ⟨m', lt, w'⟩ := next H' nx
      have same : ∀ b ∈ fp, ∀ o, s7.heap.get? b = some o → s'.heap.get? b = some o ∧ H' b = none := fun b hb o e =>
        let z := I'.pin (b, o) (List.mem_append_right _ (List.mem_append_right _ (mem_pinsAt hb e)))
        ⟨z.1, z.2.1⟩
      refine ⟨m', lt, i + 1, H', (I'.unpinned (pins := [])).weak (by rw [← e8, wipe_length]) (fun j v e => by rw [← e8] at e; exact (wipe_some e).1), T.keep _ _ _ st7 fun b hb o e => (same b hb o e).1, fun b hb => ?_, w'⟩
      obtain ⟨o, e, _⟩ := T.obj _ _ st7 b hb
      exact (same b hb o e).2
    cases b with
    | false => exact fin I9 q9
    | true =>
      refine thnF (pk.run _ s9 σ8 H9 _ I9 q9) fun z s10 ⟨yk, H10, I10, r10, q10⟩ => ?_
      refine thnF (pv.run _ s10 σ8 H10 _ I10 q10) fun z2 s11 ⟨yv, H11, I11, r11, H12, pu, nx⟩ => ?_
      exact put_by (X := X.blk s3 H3 scope ce fp) hu I11 pu r10 r11 fun s12 I12 => fin I12 nx
end
end HG

namespace HG
open PySem PySem.Spec PyProof.Rows L2
open C8 (pss_cut tCut)
/-! ### standings -/
theorem mul1_nd {sts : List (List Str)} {ws : List Str} (h : sts.Nodup) (hw : ws.Nodup) : (mul1 sts ws).Nodup := by
  unfold mul1
  induction sts with
  | nil => exact List.nodup_nil
  | cons a r ih =>
    rw [List.nodup_cons] at h
    rw [List.flatMap_cons, List.nodup_append]
    refine ⟨?_, ih h.2, ?_⟩
    · rw [List.Nodup, List.pairwise_map]
      exact List.Pairwise.imp (fun {x y} hne e => hne (by simpa using e)) hw
    · intro x hx y hy e
      subst e
      obtain ⟨w, _, rfl⟩ := List.mem_map.mp hx
      obtain ⟨z, hz, hy⟩ := List.mem_flatMap.mp hy
      obtain ⟨v, _, e⟩ := List.mem_map.mp hy
      have := (List.append_inj' e rfl).1
      subst this
      exact h.1 hz
theorem stds_nd {S : List Way} (h : ∀ q ∈ S, q.2.Nodup) : (stds S).Nodup := by
  have key : ∀ (S : List Way) (sts : List (List Str)), (∀ q ∈ S, q.2.Nodup) → sts.Nodup → (S.foldl (fun sts q => mul1 sts q.2) sts).Nodup := by
    intro S
    induction S with
    | nil => exact fun sts _ h => h
    | cons q r ih => exact fun sts h hs => ih _ (fun q hq => h q (List.mem_cons_of_mem _ hq)) (mul1_nd hs (h q List.mem_cons_self))
  exact key S _ h (List.nodup_cons.mpr ⟨List.not_mem_nil, List.nodup_nil⟩)
theorem stds_len {S : List Way} (h : ∀ q ∈ S, q.2.length ≤ 4) : (stds S).length ≤ 4 ^ S.length := by
  have key : ∀ (S : List Way) (sts : List (List Str)), (∀ q ∈ S, q.2.length ≤ 4) → (S.foldl (fun sts q => mul1 sts q.2) sts).length ≤ sts.length * 4 ^ S.length := by
    intro S
    induction S with
    | nil => exact fun sts _ => by simp
    | cons q r ih =>
      intro sts h
      refine Nat.le_trans (ih _ fun q hq => h q (List.mem_cons_of_mem _ hq)) ?_
      rw [mul1_len, List.length_cons, Nat.pow_succ, Nat.mul_assoc, Nat.mul_comm q.2.length, Nat.mul_comm (4 ^ r.length) 4, ← Nat.mul_assoc, ← Nat.mul_assoc]
      have h4 := h q List.mem_cons_self
      calc sts.length * 4 ^ r.length * q.2.length ≤ sts.length * 4 ^ r.length * 4 := Nat.mul_le_mul_left _ h4
        _ = sts.length * 4 * 4 ^ r.length := by rw [Nat.mul_assoc, Nat.mul_comm (4 ^ r.length), ← Nat.mul_assoc]
  have := key S [[]] h
  simpa [stds] using this
theorem stds_names {S : List Way} (h : ∀ q ∈ S, ∀ z ∈ q.2, isNm z = true) {st : List Str} (hm : st ∈ stds S) : ∀ z ∈ st, isNm z = true := by
  have key : ∀ (S : List Way) (sts : List (List Str)), (∀ q ∈ S, ∀ z ∈ q.2, isNm z = true) → (∀ st ∈ sts, ∀ z ∈ st, isNm z = true) → ∀ st ∈ S.foldl (fun sts q => mul1 sts q.2) sts, ∀ z ∈ st, isNm z = true := by
    intro S
    induction S with
    | nil => exact fun sts _ h => h
    | cons q r ih =>
      refine fun sts h hs => ih _ (fun q hq => h q (List.mem_cons_of_mem _ hq)) fun st hst z hz => ?_
      obtain ⟨y, hy, hst⟩ := List.mem_flatMap.mp hst
      obtain ⟨w, hw, rfl⟩ := List.mem_map.mp hst
      rcases List.mem_append.mp hz with hz | hz
      · exact hs y hy z hz
      · rw [List.mem_singleton.mp hz]
        exact h q List.mem_cons_self w hw
  exact key S [[]] h (fun st hst z hz => by rw [List.mem_singleton.mp hst] at hz; cases hz) st hm
theorem sh_len (W : List Way) : (sh W).length = W.length := by
  unfold sh
  rw [List.length_map, srt_len, List.length_map]
theorem sh_of {W : List Way} (hN : (W.map (·.1)).Nodup) {q : Way} (h : q ∈ sh W) : ∃ q0 ∈ W, q = (q0.1, srt q0.2) := by
  obtain ⟨k, hk, rfl⟩ := List.mem_map.mp h
  obtain ⟨q0, h0, rfl⟩ := List.mem_map.mp (srt_mem.mp hk)
  exact ⟨q0, h0, by rw [lookW_of hN h0]⟩
structure SOk (S : List Way) : Prop where
  nd : (S.map (·.1)).Nodup
  n1 : 1 ≤ S.length
  n4 : S.length ≤ 4
  nm : ∀ q ∈ S, isNm q.1 = true
  wd : ∀ q ∈ S, q.2.Nodup
  w1 : ∀ q ∈ S, 1 ≤ q.2.length
  w4 : ∀ q ∈ S, q.2.length ≤ 4
  wn : ∀ q ∈ S, ∀ z ∈ q.2, isNm z = true
theorem WOk.sok {W : List Way} (h : WOk W) : SOk (sh W) where
  nd := by
    rw [show (sh W).map (·.1) = srt (W.map (·.1)) by unfold sh; rw [List.map_map]; exact List.map_id _]
    exact srt_nd h.nd
  n1 := by rw [sh_len]; exact h.n1
  n4 := by rw [sh_len]; exact h.n4
  nm := fun q hq => let ⟨q0, h0, e⟩ := sh_of h.nd hq; e ▸ h.nm q0 h0
  wd := fun q hq => let ⟨q0, h0, e⟩ := sh_of h.nd hq; e ▸ srt_nd (h.wd q0 h0)
  w1 := fun q hq => let ⟨q0, h0, e⟩ := sh_of h.nd hq; by rw [e]; show 1 ≤ (srt q0.2).length; rw [srt_len]; exact h.w1 q0 h0
  w4 := fun q hq => let ⟨q0, h0, e⟩ := sh_of h.nd hq; by rw [e]; show (srt q0.2).length ≤ 4; rw [srt_len]; exact h.w4 q0 h0
  wn := fun q hq z hz => let ⟨q0, h0, e⟩ := sh_of h.nd hq; by rw [e] at hz; exact h.wn q0 h0 z (srt_mem.mp hz)
theorem SOk.take {S : List Way} (h : SOk S) (i : Nat) : (stds (S.take i)).length ≤ 256 := by
  refine Nat.le_trans (stds_len fun q hq => h.w4 q (List.mem_of_mem_take hq)) ?_
  have : (S.take i).length ≤ 4 := Nat.le_trans (by rw [List.length_take]; exact Nat.min_le_right _ _) h.n4
  exact Nat.le_trans (Nat.pow_le_pow_right (by decide) this) (by decide)
theorem SOk.few {S : List Way} (h : SOk S) : (stds S).length ≤ 256 := by
  have := h.take S.length
  rwa [List.take_length] at this
/-! ### games -/
/-- a table handed in: rows of integers, as lists or tuples -/
def TabAt (K : PySem.W.Frag) (H : Hp) (d : Addr) (sts : List (List Str)) (n : Nat) (γ : List Str → List Int) : Prop := ∃ kvs, H d = some (.dT kvs) ∧ kvs.length = sts.length ∧ ∀ st ∈ sts, (γ st).length = n ∧ ∃ v, valV kvs (kS st) = some v ∧ SeqV K H v ((γ st).map V.int)
def KvG (K : PySem.W.Frag) (H : Hp) (γ : List Str → List Int) (st : List Str) (kv : List Key × V) : Prop := kv.1 = kS st ∧ ∃ a, kv.2 = .ref a ∧ SqT K H a ((γ st).map V.int)
/-- a game; N: of its own cells that could be changed -/
structure GameAt (K : PySem.W.Frag) (C : Addr) (N : Addr → Prop) (H : Hp) (g : Addr) (S : List Way) (γ : List Str → List Int) (dx w l t : Addr) (vs : List V) (kvs : List (List Key × V)) : Prop where
  hg : H g = some (.ins C dx [("way_lists", .ref w), ("standing_list", .ref l), ("gain_table", .ref t)])
  ng : N g
  hw : ShL N H w S
  nw : N w
  hl : H l = some (.lst vs)
  nl : N l
  hs : TupsAt H (stds S) vs
  ht : H t = some (.dT kvs)
  nt : N t
  hk : Paired (KvG K H γ) (stds S) kvs
theorem KvG.same {K : PySem.W.Frag} {H H' : Hp} {γ : List Str → List Int} {st : List Str} {kv : List Key × V} (h : KvG K H γ st kv) (s : Same H H') : KvG K H' γ st kv := ⟨h.1, let ⟨a, e, q⟩ := h.2; ⟨a, e, same_sqt s q⟩⟩
def SameX (x : Addr) (H H' : Hp) : Prop := ∀ b o, b ≠ x → H b = some o → H' b = some o
end HG

namespace HG
open PySem PySem.Spec PyProof.Rows L2
open C8 (pss_cut tCut)
/-- a statement that is never reached -/
theorem ps_never {X : Cx} {st : Stmt} : PS X st (fun _ _ _ => False) := ⟨fun _ _ _ _ _ _ h => h.elim⟩
theorem pss_never {X : Cx} {st : List Stmt} : PSs X st (fun _ _ _ => False) := ⟨fun _ _ _ _ _ _ h => h.elim⟩
def rTupOf (K : PySem.W.Frag) : List V → Hp → VK → Prop := fun xs H Q => ∃ p ys, xs = [.ref p] ∧ ((SqL K H p ys ∧ ∀ l, H l = none → Q (.ref l) (upd H l (.tup ys))) ∨ (SqT K H p ys ∧ Q (.ref p) H))
theorem call_tup {X : Cx} : CallR X (.type "tuple") (rTupOf X.K) := call_tuple_of
structure GC (K : PySem.W.Frag) (C : Addr) : Prop where
  cl : Cls K C
  nW : NoAttr K C "way_lists"
  nL : NoAttr K C "standing_list"
  nG : NoAttr K C "gain_table"
def spInit (K : PySem.W.Frag) (C : Addr) : Sp := fun args H Q _ => ∃ (x d gd dx : Addr) (W : List Way) (γ : List Str → List Int), args = [.ref x, .ref d, .ref gd] ∧ H x = some (.ins C dx []) ∧ ShAt H d W ∧ WOk W ∧ TabAt K H gd (stds (sh W)) W.length γ ∧
  ∀ H' w l t vs kvs, SameX x H H' → GameAt K C (fun a => H a = none ∨ a = x) H' x (sh W) γ dx w l t vs kvs → Q .non H'
theorem ints_any {K : PySem.W.Frag} {H : Hp} {xs : List Int} : ∀ y ∈ xs.map V.int, ∃ t, AnyV K H y t ∧ (t.isa "int" && !t.isa "bool") = intV y := by
  intro y hy
  obtain ⟨i, _, rfl⟩ := List.mem_map.mp hy
  exact ⟨.int, .int i, rfl⟩
theorem ints_all (xs : List Int) : (xs.map V.int).all intV = true := by
  rw [List.all_eq_true]
  intro y hy
  obtain ⟨i, _, rfl⟩ := List.mem_map.mp hy
  rfl
theorem SameX.same {x : Addr} {H H' H'' : Hp} (h : SameX x H H') (s : Same H' H'') : SameX x H H'' := fun b o hb e => s _ _ (h b o hb e)
theorem SameX.of {x : Addr} {H H' : Hp} (h : Same H H') : SameX x H H' := fun b o _ e => h _ _ e
theorem SameX.upd {x : Addr} {H H' : Hp} {o : HO} (h : SameX x H H') : SameX x H (upd H' x o) := fun b u hb e => by
  rw [upd_ne hb]
  exact h b u hb e
theorem AnyV.ofL {K : PySem.W.Frag} {H : Hp} {a : Addr} {xs : List V} (h : SqL K H a xs) : AnyV K H (.ref a) .lst := by
  rcases h with (h | ⟨o, h⟩) | ⟨o, its, n, h, c, _⟩
  · exact .lst h
  · exact ⟨⟨_, .base (.frz h), six_ty (by decide +kernel)⟩, (fun z => nomatch z), (fun _ z e => nomatch e)⟩
  · exact ⟨⟨_, .kList h c, six_ty (by decide +kernel)⟩, (fun z => nomatch z), (fun _ z e => nomatch e)⟩
theorem AnyV.ofT {K : PySem.W.Frag} {H : Hp} {a : Addr} {xs : List V} (h : SqT K H a xs) : AnyV K H (.ref a) .tup := by
  rcases h with (h | ⟨o, h⟩) | ⟨o, its, n, h, c, _⟩
  · exact .tup h
  · exact ⟨⟨_, .fTuple h, six_ty (by decide +kernel)⟩, (fun z => nomatch z), (fun _ z e => nomatch e)⟩
  · exact ⟨⟨_, .kTuple h c, six_ty (by decide +kernel)⟩, (fun z => nomatch z), (fun _ z e => nomatch e)⟩
def NotIns (o : HO) : Prop := ∀ C dx fs, o ≠ .ins C dx fs
theorem seqL_keep {K : PySem.W.Frag} {H H' : Hp} {a : Addr} {xs : List V} (h : SqL K H a xs) (k : ∀ b o, NotIns o → H b = some o → H' b = some o) : SqL K H' a xs := by
  rcases h with (h | ⟨o, h⟩) | h
  · exact .inl (.inl (k _ _ (by intro _ _ _ z; cases z) h))
  · exact .inl (.inr ⟨o, k _ _ (by intro _ _ _ z; cases z) h⟩)
  · exact .inr h
theorem seqT_keep {K : PySem.W.Frag} {H H' : Hp} {a : Addr} {xs : List V} (h : SqT K H a xs) (k : ∀ b o, NotIns o → H b = some o → H' b = some o) : SqT K H' a xs := by
  rcases h with (h | ⟨o, h⟩) | h
  · exact .inl (.inl (k _ _ (by intro _ _ _ z; cases z) h))
  · exact .inl (.inr ⟨o, k _ _ (by intro _ _ _ z; cases z) h⟩)
  · exact .inr h
theorem SeqV.keep {K : PySem.W.Frag} {H H' : Hp} {v : V} {xs : List V} (h : SeqV K H v xs) (k : ∀ b o, NotIns o → H b = some o → H' b = some o) : SeqV K H' v xs := by
  cases h with
  | lst h _ => exact .lst (seqL_keep h k) (AnyV.ofL (seqL_keep h k))
  | tup h _ => exact .tup (seqT_keep h k) (AnyV.ofT (seqT_keep h k))
section
variable {P : Program} {w : World} {K : PySem.W.Frag} {mg : Str → Option Value} {base : Heap}
structure GD (K : PySem.W.Frag) (mg : Str → Option Value) (fShape fNames fName fSorted fStds fTable fInts fInt fOne fPut : Addr) (dShape dNames dName dSorted dStds dTable dInts dInt dOne dPut : FuncData) : Prop where
  T : KT K mg
  m_sorted : mg "sorted" = none
  shape : Df K mg "is_shape" s_is_shape fShape dShape
  names : Df K mg "are_names" s_are_names fNames dNames
  name : Df K mg "is_name" s_is_name fName dName
  sorted : Df K mg "sorted_ways" s_sorted_ways fSorted dSorted
  stds : Df K mg "standings_of" s_standings_of fStds dStds
  table : Df K mg "is_table" s_is_table fTable dTable
  aInts : Df K mg "are_integers" s_are_integers fInts dInts
  aInt : Df K mg "is_integer" s_is_integer fInt dInt
  one : Df K mg "is_one_of" s_is_one_of fOne dOne
  put : Df K mg "put" s_put fPut dPut
  bShape : Binds K dShape ["thing"] []
  bNames : Binds K dNames ["thing"] []
  bName : Binds K dName ["thing"] []
  bSorted : Binds K dSorted ["ways"] []
  bStds : Binds K dStds ["way_lists"] []
  bTable : Binds K dTable ["thing", "wanted", "many"] []
  bInts : Binds K dInts ["thing", "many"] []
  bInt : Binds K dInt ["thing"] []
  bOne : Binds K dOne ["thing", "tuples"] []
  bPut : Binds K dPut ["items", "at", "item"] []
variable {fShape fNames fName fSorted fStds fTable fInts fInt fOne fPut : Addr} {dShape dNames dName dSorted dStds dTable dInts dInt dOne dPut : FuncData}
theorem ok_init {C f : Addr} {fd : FuncData} (G : GD K mg fShape fNames fName fSorted fStds fTable fInts fInt fOne fPut dShape dNames dName dSorted dStds dTable dInts dInt dOne dPut) (c : GC K C) (F : Fun K "__init__" "Game.__init__" s_Game___init f fd) :
    FnOk P w K mg base CX0 4 f fd ["self", "ways", "gains"] (spInit K C) := by
  have S : FnScope ["self", "ways", "gains", "way_lists", "standings", "standing"] ["self", "ways", "gains"] (defScope s_Game___init) := ⟨rfl, rfl, rfl, by decide +kernel, rfl, by decide +kernel, by decide +kernel⟩
  refine F.ok S (fun vs H Q E h => ?_) (fun cdv A outer s H vs Q E hr h => ?_)
  · obtain ⟨x, d, gd, dx, W, γ, rfl, _⟩ := h
    rfl
  · obtain ⟨x, d, gd, dx, W, γ, rfl, hx, hsh, ok, ⟨tv, hgd, hgl, hgv⟩, q⟩ := h
    have nd := S.nd
    have hu := hu_of hr
    have T := G.T
    refine ⟨_, pss_cons (ps_if (pt_not (pt_val (pe_call (ok_is_shape (P := P) (w := w) (base := base) G.shape G.names G.bNames G.name G.bName T) hr (by rfl) G.shape.g G.shape.F.kp G.bShape .nil pass0 (pa_cons (pv 1) pa_nil)))) pss_never pss_nil)
      (pss_cons (ps_set (i := 3) nd rfl (Or.inl rfl) (pe_call (ok_sorted_ways G.sorted G.m_sorted) (hr.mono (by decide)) (by rfl) G.sorted.g G.sorted.F.kp G.bSorted .nil pass0 (pa_cons (pv 1) pa_nil)))
      (pss_cons (ps_set (i := 4) nd rfl (Or.inl rfl) (pe_call (ok_standings_of G.stds) (hr.mono (by decide)) (by rfl) G.stds.g G.stds.F.kp G.bStds .nil pass0 (pa_cons (pv 3) pa_nil)))
      (pss_cons (ps_if (pt_not (pt_val (pe_call (ok_is_table G.table G.aInts G.bInts G.aInt G.bInt T) hr (by rfl) G.table.g G.table.F.kp G.bTable .nil pass0 (pa_cons (pv 2) (pa_cons (pv 4) (pa_cons (pe_callB call_lenD (by rfl) T.m_len PySem.boot_len (pa_cons (pv 3) pa_nil)) pa_nil)))))) pss_never pss_nil)
      (pss_cons (ps_fld (pv 0) (pv 3) rfl)
      (pss_cons (ps_fld (pv 0) (pv 4) rfl)
      (pss_one (ps_fld (pv 0) (pe_dcP (o0 := .dT []) (own := [("standing", 5)]) (g := gName 5) (tt := tYes) (.inr rfl) (Nat.lt_of_succ_lt hu) rfl nd (pi_list (pv 4)) (blkOk_by (N := ["self", "ways", "gains", "way_lists", "standings", "standing"]) (sc := defScope s_Game___init) (by decide +kernel))
        (fun _ _ _ _ _ => pg_name (i := 5) nd rfl (Or.inl rfl)) (fun _ _ _ _ _ => pts_nil) (fun _ _ _ _ _ => pv 5)
        (fun _ _ _ _ _ => pe_callTy (T := "tuple") (r := rTupOf K) call_tup (by rfl) T.m_tuple (by decide +kernel) (pa_cons (pe_dget hu (pv 2) (pv 5) (fun _ _ => rfl)) pa_nil))) rfl))))))), ?_⟩
    have sok := ok.sok
    refine ⟨_, rfl, d, W, rfl, hsh, ok, fun H1 s1 => ⟨_, rfl, iteF ?_⟩⟩
    refine ⟨_, rfl, d, W, rfl, hsh.same s1, ok.nd, Nat.lt_of_le_of_lt ok.n4 (by decide), fun q hq => Nat.lt_of_le_of_lt (ok.w4 q hq) (by decide), fun H2 p2 s2 n2 hS => ?_⟩
    refine ⟨_, rfl, p2, sh W, _, rfl, hS, fun i _ => sok.take i, sok.w4, sok.n4, fun H3 p3 vs s3 n3 h3 t3 => ?_⟩
    obtain ⟨kw, hkw, pkw⟩ := hS.same s3
    have hlen : kw.length = W.length := by rw [← Paired.length pkw, sh_len]
    have s13 := s1.trans (s2.trans s3)
    refine ⟨_, rfl, _, rfl, _, rfl, p2, kw, rfl, hkw, .ref gd, p3, stds (sh W), vs, _, fun _ => true, rfl, h3, t3, sok.few, .inl ⟨gd, tv, rfl, s13 _ _ hgd, fun st hst => ?_, fun H4 s4 => ?_⟩⟩
    · obtain ⟨hn, v, hv, hq⟩ := hgv st hst
      refine .inr ⟨v, hv, .inl ⟨_, hq.same s13, small1000 (by rw [List.length_map, hn]; have := ok.n4; omega), ints_any, ?_⟩⟩
      rw [ints_all, List.length_map, hn, hlen, decide_eq_true rfl]
      rfl
    have eT : (decide (tv.length = (stds (sh W)).length) && (stds (sh W)).all fun _ => true) = true := by
      rw [decide_eq_true hgl, Bool.true_and, List.all_eq_true]
      exact fun _ _ => rfl
    rw [eT]
    refine ⟨_, rfl, iteF ?_⟩
    have s14 := s13.trans s4
    have hx4 := s14 _ _ hx
    refine ⟨_, rfl, _, rfl, x, C, dx, _, rfl, hx4, c.cl, c.nW, (by show 0 < 1000; decide), ?_⟩
    refine ⟨_, rfl, _, rfl, x, C, dx, _, rfl, upd_same, c.cl, c.nL, (by show 1 < 1000; decide), ?_⟩
    generalize hHA : upd (upd H4 x _) x _ = HA
    have hxA : HA x = some (.ins C dx [("way_lists", .ref p2), ("standing_list", .ref p3)]) := by rw [← hHA]; exact upd_same
    have sA : SameX x H4 HA := by rw [← hHA]; exact (SameX.of (Same.refl _)).upd.upd
    have sX : SameX x H HA := fun b o hb e => sA b o hb (s14 _ _ e)
    have ne : ∀ {b : Addr} {o : HO}, H4 b = some o → (∀ C dx fs, o ≠ .ins C dx fs) → HA b = some o := fun {b o} e hn => sA b o (fun z => by subst z; rw [hx4] at e; exact hn _ _ _ (Option.some.inj e).symm) e
    have hA3 : HA p3 = some (.lst vs) := ne (s4 _ _ h3) (by intro _ _ _ z; cases z)
    have tA : TupsAt HA (stds (sh W)) vs := paired_imp t3 fun _ _ ⟨a, e, h⟩ => ⟨a, e, ne (s4 _ _ h) (by intro _ _ _ z; cases z)⟩
    have hAg : HA gd = some (.dT tv) := ne (s14 _ _ hgd) (by intro _ _ _ z; cases z)
    have qA : ∀ {v : V} {xs : List V}, SeqV K H v xs → SeqV K HA v xs := fun {v xs} h => by
      exact (h.same s14).keep fun b o hn e => ne e hn
    refine ⟨_, rfl, p3, rfl, ⟨_, SqL.of hA3⟩, fun D nD => ?_⟩
    have sD := same_upd (o := .dT []) nD
    refine walk_run (walk_list (K := K) (a := p3) (xs := vs)) (fun i H' => Same HA H' ∧ ∃ kvs, H' D = some (.dT kvs) ∧ Paired (KvG K H' γ) ((stds (sh W)).take i) kvs) ⟨sD, [], upd_same, .nil⟩ (fun i H' _ ⟨sm, _⟩ => SqL.of (sm _ _ hA3)) ?_ ?_
    · rintro i y H0 H' hi ⟨sm, ks, hD, hks⟩ ⟨rfl, hy⟩
      obtain ⟨st, hst, a, rfl, ha⟩ := paired_get tA hy
      obtain ⟨hn, v, hv, hq⟩ := hgv st (List.mem_of_getElem? hst)
      have ha' := sm _ _ ha
      have hv' := (qA hq).same sm
      have hlt : i < (stds (sh W)).length := (List.getElem?_eq_some_iff.mp hst).1
      have hlk : ks.length = i := by
        rw [← Paired.length hks, List.length_take]
        omega
      have hnew : kS st ∉ ks.map (·.1) := by
        have keys : ∀ {l : List (List Str)} {kv : List (List Key × V)}, Paired (KvG K H' γ) l kv → kv.map (·.1) = l.map kS := by
          intro l kv h
          induction h with
          | nil => rfl
          | cons r _ ih => rw [List.map_cons, List.map_cons, ih, r.1]
        rw [keys hks]
        intro z
        obtain ⟨st', hm, e⟩ := List.mem_map.mp z
        have e' : st' = st := by
          have := congrArg (List.map kV) e
          rw [kS_v, kS_v] at this
          exact List.map_inj_right (fun _ _ h => V.str.inj h) |>.mp this
        subst e'
        obtain ⟨j, hj, ej⟩ := List.getElem_of_mem hm
        rw [List.length_take] at hj
        rw [List.getElem_take] at ej
        have e2 : (stds (sh W))[i] = st' := (List.getElem?_eq_some_iff.mp hst).2
        have := (List.getElem_inj (stds_nd sok.wd)).mp (ej.trans e2.symm)
        omega
      have fin : ∀ H2 a2, Same H' H2 → SqT K H2 a2 ((γ st).map V.int) → ∃ H6, DPut H2 D (.ref a) (.ref a2) H6 ∧ Same HA H6 ∧ ∃ kvs, H6 D = some (.dT kvs) ∧ Paired (KvG K H6 γ) ((stds (sh W)).take (i + 1)) kvs := fun H2 a2 s2 h2 => by
        have hD2 := s2 _ _ hD
        refine ⟨_, DPut.t (k := kS st) hD2 (by rw [kS_v]; exact s2 _ _ ha') (small1000 (by have := sok.few; omega)), fun b o e => ?_, _, upd_same, ?_⟩
        · rw [upd_ne (ne_of_none e nD)]
          exact s2 _ _ (sm _ _ e)
        · have up : ∀ {b : Addr} {xs : List V}, SqT K H2 b xs → SqT K (upd H2 D (.dT (putK ks (kS st) (.ref a2)))) b xs := fun {b xs} h => by
            rcases h with (h | ⟨o, h⟩) | h
            · exact .inl (.inl (by rw [upd_ne (ne_of h hD2 (by intro z; cases z))]; exact h))
            · exact .inl (.inr ⟨o, by rw [upd_ne (ne_of h hD2 (by intro z; cases z))]; exact h⟩)
            · exact .inr h
          rw [putK_new hnew, List.take_add_one, hst]
          rw [putK_new hnew] at up
          exact paired_append (paired_imp hks fun _ _ h => ⟨h.1, let ⟨b, e, q⟩ := h.2; ⟨b, e, up (same_sqt s2 q)⟩⟩) (.cons ⟨rfl, a2, rfl, up h2⟩ .nil)
      have hg : DGet H' gd (.ref a) (some v) := by
        rw [← hv]
        exact DGet.t (k := kS st) (sm _ _ hAg) (by rw [kS_v]; exact ha')
      refine ⟨rfl, _, rfl, _, rfl, _, rfl, gd, v, rfl, hg, ?_⟩
      cases hv' with
      | lst h _ => exact ⟨_, _, rfl, .inl ⟨h, fun l nl => fin _ l (same_upd nl) (SqT.of upd_same)⟩⟩
      | tup h _ => exact ⟨_, _, rfl, .inr ⟨h, fin _ _ (Same.refl _) h⟩⟩
    · rintro H' ⟨sm, ks, hD, hks⟩
      rw [← Paired.length tA, List.take_length] at hks
      have hx5 := sm _ _ hxA
      refine ⟨_, rfl, x, C, dx, _, rfl, hx5, c.cl, c.nG, (by show 2 < 1000; decide), ?_⟩
      have fr : ∀ {b : Addr}, H4 b = none → H b = none := fun h => s14.free h
      have frA : ∀ {b : Addr}, HA b = none → H b = none := fun {b} h => by
        cases e : H b with
        | none => rfl
        | some o =>
          by_cases hb : b = x
          · subst hb
            rw [hxA] at h
            cases h
          · rw [sX b o hb e] at h
            cases h
      have nx : ∀ {b : Addr}, H' b = none → b ≠ x := fun h z => by subst z; rw [hx5] at h; cases h
      have keep : ∀ b o, NotIns o → HA b = some o → (upd H' x (.ins C dx [("way_lists", .ref p2), ("standing_list", .ref p3), ("gain_table", .ref D)])) b = some o := fun b o hn e => by
        have e' := sm _ _ e
        rw [upd_ne (fun z => by subst z; rw [hx5] at e'; exact hn _ _ _ (Option.some.inj e').symm)]
        exact e'
      have all : ∀ {b : Addr} {o : HO}, NotIns o → H3 b = some o → (upd H' x (.ins C dx [("way_lists", .ref p2), ("standing_list", .ref p3), ("gain_table", .ref D)])) b = some o := fun hn e => keep _ _ hn (ne (s4 _ _ e) hn)
      refine q _ p2 p3 D vs ks ((sX.same sm).upd) ⟨upd_same, .inr rfl, ⟨kw, all (by intro _ _ _ z; cases z) hkw, ?_⟩, .inl (s1.free n2), all (by intro _ _ _ z; cases z) h3, .inl ((s1.trans s2).free n3), ?_, ?_, .inl (frA nD), ?_⟩
      · exact paired_imp pkw fun _ _ ⟨e, a, ev, n, h⟩ => ⟨e, a, ev, .inl (s1.free n), all (by intro _ _ _ z; cases z) h⟩
      · exact paired_imp t3 fun _ _ ⟨a, e, h⟩ => ⟨a, e, all (by intro _ _ _ z; cases z) h⟩
      · rw [upd_ne (fun z => by subst z; rw [hx5] at hD; cases hD)]
        exact hD
      · exact paired_imp hks fun _ _ h => ⟨h.1, let ⟨b, e, q⟩ := h.2; ⟨b, e, seqT_keep q fun b o hn e => by
          rw [upd_ne (fun z => by subst z; rw [hx5] at e; exact hn _ _ _ (Option.some.inj e).symm)]
          exact e⟩⟩
end
end HG

namespace HG
open PySem PySem.Spec PyProof.Rows L2
/-! ### an instance's own __contains__, __len__ -/
section
variable {prog : Program} {w : World} {A : Around} {E : Value → Shared → Prop} {s : Shared} {K : PySem.W.Frag} {x C f : Addr} {ox : Obj} {od : Option Obj}
theorem contains_fn {y : Value} {Q : Bool → Shared → Prop} (X : K.In s.heap) (I : PySem.W.InstAt s.heap x ox C od) (hs : PySem.W.findIn K (.ref C) "__contains__" = some (some (.ref f))) (hf : PySem.W.typeIn K (.ref f) = some (.type "function"))
    (h : wpAny (model prog w) A (call (.ref f) [.ref x, y]) (fun v s' => ∃ b, v = .bool b ∧ Q b s') E s) : wpAny (model prog w) A (contains (.ref x) y) Q E s := by
  unfold contains
  refine wpAny_holding ?_
  rw [show stdlibNamesSay? (.ref x) y = none from rfl]
  refine wpAny_bind (m := specialOf (.ref x) "__contains__") (wpAny_bind (I.type.here ((PySem.W.looks_findIn X hs).here ?_)))
  show wpAny _ _ (if (some (Value.ref f) == some Value.none) = true then _ else _) _ _ _
  rw [if_neg (by simp)]
  refine wpAny_bind (m := callSpecialUnlessNone? (.ref x) "__contains__" [y] _) (wpAny_bind (wpAny_bind (I.type.here ((PySem.W.looks_findIn X hs).here (wpAny_holding (wpAny_bind ((PySem.W.bind_fn X _ hf).here ?_)))))))
  show wpAny _ _ (if (Value.ref f == Value.none) = true then _ else _) _ _ _
  rw [if_neg (by simp)]
  refine wpAny_bind (wpAny_mono h (fun v s' hv => ?_) fun _ _ z => z)
  obtain ⟨b, rfl, hq⟩ := hv
  exact wpAny_pure (wpAny_pure hq)
end
section
variable {X : Cx} {CX : CXT} {C g : Addr} {fd : FuncData} {ps : List Str} {n : Nat} {sp : Sp} {E : XK}
def rInOwn (C : Addr) (sp : Sp) (E : XK) (neg : Bool) : R2 := fun y x H Q => ∃ a dx fs, x = .ref a ∧ H a = some (.ins C dx fs) ∧ sp [.ref a, y] H (fun v H' => ∃ b, v = .bl b ∧ Q (.bl (neg ^^ b)) H') E
theorem op_inOwn (hs : PySem.W.findIn X.K (.ref C) "__contains__" = some (some (.ref g))) (hf : PySem.W.isFn X.K (.ref g) = true) (F : FnOk X.prog X.w X.K X.mg X.base CX n g fd ps sp) (hr : Room n X.A) (hb : Binds X.K fd ps []) (hx : Passes CX X E) : OpR X (compareOp .In) (rInOwn C sp E false) := by
  intro pins s σ H y x u v Q I ry rx h
  obtain ⟨a, dx, fs, rfl, ha, q⟩ := h
  cases (show v = Value.ref a from rx)
  obtain ⟨mA, O, _⟩ := ins_get I.hok ha
  obtain ⟨od, J, _⟩ := O.look
  show wpAny _ _ (contains (.ref a) u >>= fun b => pure (Value.bool b)) _ _ _
  refine wpAny_bind (contains_fn I.kIn J hs (beq_iff_eq.mp hf) (thn (run_fn (us := [.ref a, u]) (vs := [.ref a, y]) F hr hb .nil hx I (.cons rfl (.cons ry .nil)) q) fun w s' hw => ?_))
  obtain ⟨z, H', I', rz, b, rfl, qz⟩ := hw
  cases (show w = Value.bool b from rz)
  exact ⟨b, rfl, wpAny_pure ⟨.bl b, H', I', rfl, by simpa using qz⟩⟩
theorem op_notInOwn (hs : PySem.W.findIn X.K (.ref C) "__contains__" = some (some (.ref g))) (hf : PySem.W.isFn X.K (.ref g) = true) (F : FnOk X.prog X.w X.K X.mg X.base CX n g fd ps sp) (hr : Room n X.A) (hb : Binds X.K fd ps []) (hx : Passes CX X E) : OpR X (compareOp .NotIn) (rInOwn C sp E true) := by
  intro pins s σ H y x u v Q I ry rx h
  obtain ⟨a, dx, fs, rfl, ha, q⟩ := h
  cases (show v = Value.ref a from rx)
  obtain ⟨mA, O, _⟩ := ins_get I.hok ha
  obtain ⟨od, J, _⟩ := O.look
  show wpAny _ _ (contains (.ref a) u >>= fun b => pure (Value.bool (!b))) _ _ _
  refine wpAny_bind (contains_fn I.kIn J hs (beq_iff_eq.mp hf) (thn (run_fn (us := [.ref a, u]) (vs := [.ref a, y]) F hr hb .nil hx I (.cons rfl (.cons ry .nil)) q) fun w s' hw => ?_))
  obtain ⟨z, H', I', rz, b, rfl, qz⟩ := hw
  cases (show w = Value.bool b from rz)
  exact ⟨b, rfl, wpAny_pure ⟨.bl (!b), H', I', rfl, by simpa using qz⟩⟩
def rLenOwn (C : Addr) (sp : Sp) (E : XK) : List V → Hp → VK → Prop := fun xs H Q => ∃ a dx fs, xs = [.ref a] ∧ H a = some (.ins C dx fs) ∧ sp [.ref a] H (fun v H' => ∃ k : Nat, v = .int (k : Int) ∧ k ≤ sizeLine ∧ Q (.int (k : Int)) H') E
theorem call_lenOwn (hs : PySem.W.findIn X.K (.ref C) "__len__" = some (some (.ref g))) (hf : PySem.W.isFn X.K (.ref g) = true) (F : FnOk X.prog X.w X.K X.mg X.base CX n g fd ps sp) (hr : Room (n + 1) X.A) (hb : Binds X.K fd ps []) (hx : Passes CX X E) : CallR X (.builtin "len") (rLenOwn C sp E) := by
  intro pins s σ H xs us Q I r h
  obtain ⟨a, dx, fs, rfl, ha, q⟩ := h
  rw [Vals.ref1 r]
  obtain ⟨mA, O, _⟩ := ins_get I.hok ha
  obtain ⟨od, J, _⟩ := O.look
  obtain ⟨m, hF⟩ := I.fr
  refine PySem.W.len_K hF I.ok.mod.kin J hs hf (wpAny_call (codeAny_mono (F.run _ X.stack s H ⟨[.ref a], []⟩ [.ref a] [.ref a] _ E hr.in1 I.env0.in1 (hb s [.ref a] I.kIn (by rw [List.append_nil, ← F.len _ _ _ _ q]; rfl)) (.cons rfl .nil) q) fun r s' hq => ?_))
  cases r with
  | error e => exact hx pins σ H s e s' I hq
  | ok fl =>
    cases fl with
    | ret u =>
      obtain ⟨z, H', I', rz, k, rfl, hk, qz⟩ := I.after hq
      obtain ⟨t, rfl⟩ := (show ∃ t, u = Value.int k t from rz)
      have := line63
      exact ⟨⟨by omega, by omega⟩, .int k, H', I'.tok _, ⟨_, rfl⟩, qz⟩
    | next => exact False.elim hq
    | brk => exact False.elim hq
    | cont => exact False.elim hq
end
end HG

namespace HG
open PySem PySem.Spec PyProof.Rows L2
open C8 (pss_cut tCut)
/-! ### a, b = a list or tuple -/
section
variable {X : Cx}
def gSeq (K : PySem.W.Frag) (n : Nat) (t : TGs) : TG := fun v σ H Q => ∃ a xs, v = .ref a ∧ (SqL K H a xs ∨ SqT K H a xs) ∧ xs.length = n ∧ t xs σ H Q
theorem pg_seq {es : List Expr} {k : Nat} {t : TGs} {n : Nat} {pos : Pos} (hc : X.calm = true) (h : PGs X es t)
    (hn : (assignEach es X.env).length = n := by rfl) (hst : (assignEach es X.env).findIdx? (·.1) = none := by rfl) : PG X (.Tuple es k pos) (gSeq X.K n t) := by
  refine ⟨fun pins s σ H v u Q I r hw => ?_⟩
  obtain ⟨a, xs, e1, hq, hl, hw⟩ := hw
  rcases hq with hq | hq
  · subst e1
    cases r
    obtain ⟨its, rv, pl, hz⟩ := I.list hq
    rw [PyProof.Rows.assign_Tuple]
    refine wpAny_bind (wpAny_standAt ?_)
    unfold unpack
    rw [show (assignEach es X.env).length = its.toArray.size by rw [hn, ← hl, rv.length, List.size_toArray], hst]
    refine wpAny_bind (wpAny_holding (PySem.W.kun_itemsOf (I.ok.hd hc) pl.isList fun h' hx => ?_))
    have I1 : Inv X pins σ H { s with heap := h' } := I.kept (t' := s.toks) fun b o e => hx b o (Nat.ne_of_lt (Heap.lt_size e)) e
    exact h.run pins _ σ H xs _ Q I1 (by simpa using rv) hw
  · exact (pg_tup hc h hn hst).run pins s σ H v u Q I r ⟨a, xs, e1, hq, hl, hw⟩
end
/-! ### what a game's methods tell -/
def IsG (K : PySem.W.Frag) (C : Addr) (N : Addr → Prop) (H : Hp) (g : Addr) (S : List Way) (γ : List Str → List Int) : Prop := ∃ dx w l t vs kvs, GameAt K C N H g S γ dx w l t vs kvs
theorem GameAt.same {K : PySem.W.Frag} {C : Addr} {N : Addr → Prop} {H H' : Hp} {g : Addr} {S : List Way} {γ : List Str → List Int} {dx w l t : Addr} {vs : List V} {kvs : List (List Key × V)} (G : GameAt K C N H g S γ dx w l t vs kvs) (s : Same H H') : GameAt K C N H' g S γ dx w l t vs kvs where
  hg := s _ _ G.hg
  ng := G.ng
  hw := G.hw.same s
  nw := G.nw
  hl := s _ _ G.hl
  nl := G.nl
  hs := G.hs.same s
  ht := s _ _ G.ht
  nt := G.nt
  hk := paired_imp G.hk fun _ _ h => h.same s
theorem IsG.same {K : PySem.W.Frag} {C : Addr} {N : Addr → Prop} {H H' : Hp} {g : Addr} {S : List Way} {γ : List Str → List Int} (G : IsG K C N H g S γ) (s : Same H H') : IsG K C N H' g S γ :=
  let ⟨dx, w, l, t, vs, kvs, G⟩ := G
  ⟨dx, w, l, t, vs, kvs, G.same s⟩
def names (S : List Way) : List Str := S.map (·.1)
def hasCh (S : List Way) : V → Bool
  | .str z => isNm z && decide (z ∈ names S)
  | _ => false
theorem hasCh_no {S : List Way} {x : V} (h : nameV x = false) : hasCh S x = false := by
  cases x with
  | str z =>
    show (isNm z && _) = false
    rw [show isNm z = false from h]
    rfl
  | _ => rfl
theorem way_some {N : Addr → Prop} {H : Hp} {S : List Way} {kw : List (Key × V)} (h : Paired (KvL N H) S kw) (z : Str) : (valV kw (Sum.inr z)).isSome = decide (z ∈ names S) := by
  rw [← valV_any]
  have e := keysL h
  rw [Bool.eq_iff_iff, List.any_eq_true, decide_eq_true_iff]
  constructor
  · rintro ⟨x, h1, h2⟩
    have hx : x.1 ∈ kw.map (·.1) := List.mem_map.mpr ⟨x, h1, rfl⟩
    rw [e] at hx
    obtain ⟨y, hy, ey⟩ := List.mem_map.mp hx
    exact Sum.inr.inj (ey.trans (of_decide_eq_true h2)) ▸ hy
  · intro hz
    have hx : Sum.inr z ∈ kw.map (·.1) := by
      rw [e]
      exact List.mem_map.mpr ⟨z, hz, rfl⟩
    obtain ⟨x, h1, h2⟩ := List.mem_map.mp hx
    exact ⟨x, h1, decide_eq_true h2⟩
theorem way_at {N : Addr → Prop} {H : Hp} : ∀ {S : List Way} {kw : List (Key × V)} {q : Way}, Paired (KvL N H) S kw → (S.map (·.1)).Nodup → q ∈ S → ∃ a, valV kw (Sum.inr q.1) = some (.ref a) ∧ N a ∧ H a = some (.lst (q.2.map V.str))
  | _, _, _, .nil, _, h => nomatch h
  | a :: W, kv :: kvs, q, .cons r t, hN, h => by
    rw [List.map_cons, List.nodup_cons] at hN
    obtain ⟨e, b, eb, nb, hb⟩ := r
    rcases List.mem_cons.mp h with rfl | h
    · exact ⟨b, by rw [valV_pos e, eb], nb, hb⟩
    · obtain ⟨v, h1, h2⟩ := way_at t hN.2 h
      refine ⟨v, ?_, h2⟩
      rw [valV_neg (fun e' => ?_)]
      · exact h1
      · have e2 : a.1 = q.1 := Sum.inr.inj (e.symm.trans e')
        exact hN.1 (List.mem_map.mpr ⟨q, h, e2.symm⟩)
theorem gain_at {K : PySem.W.Frag} {H : Hp} {γ : List Str → List Int} : ∀ {sts : List (List Str)} {kvs : List (List Key × V)} {st : List Str}, Paired (KvG K H γ) sts kvs → st ∈ sts → ∃ a, valV kvs (kS st) = some (.ref a) ∧ SqT K H a ((γ st).map V.int)
  | _, _, _, .nil, h => nomatch h
  | x :: r, kv :: kvs, st, .cons q t, h => by
    obtain ⟨e, b, eb, hb⟩ := q
    by_cases hx : x = st
    · subst hx
      exact ⟨b, by rw [valV_pos e, eb], hb⟩
    · have hm : st ∈ r := by
        rcases List.mem_cons.mp h with h | h
        · exact absurd h.symm hx
        · exact h
      obtain ⟨a, h1, h2⟩ := gain_at t hm
      refine ⟨a, ?_, h2⟩
      rw [valV_neg (fun e' => hx ?_)]
      · exact h1
      · have := congrArg (List.map kV) (e.symm.trans e')
        rw [kS_v, kS_v] at this
        exact List.map_inj_right (fun _ _ h => V.str.inj h) |>.mp this
theorem keysG {K : PySem.W.Frag} {H : Hp} {γ : List Str → List Int} {sts : List (List Str)} {kvs : List (List Key × V)} (h : Paired (KvG K H γ) sts kvs) : kvs.map (·.1) = sts.map kS := by
  induction h with
  | nil => rfl
  | cons r _ ih => rw [List.map_cons, List.map_cons, ih, r.1]
def inG (S : List Way) (xs : List V) : Bool := xs.all nameV && decide (xs ∈ (stds S).map fun st => st.map V.str)
theorem oneOf_G {K : PySem.W.Frag} {H : Hp} {γ : List Str → List Int} {S : List Way} {kvs : List (List Key × V)} (h : Paired (KvG K H γ) (stds S) kvs) (xs : List V) : oneOf kvs xs = inG S xs := by
  unfold oneOf inG
  congr 1
  rw [Bool.eq_iff_iff, List.any_eq_true, decide_eq_true_iff, List.mem_map]
  have e := keysG h
  constructor
  · rintro ⟨kv, h1, h2⟩
    have hk : kv.1 ∈ (stds S).map kS := e ▸ List.mem_map.mpr ⟨kv, h1, rfl⟩
    obtain ⟨st, hst, es⟩ := List.mem_map.mp hk
    exact ⟨st, hst, by rw [← kS_v, es]; exact of_decide_eq_true h2⟩
  · rintro ⟨st, hst, es⟩
    have hk : kS st ∈ kvs.map (·.1) := e ▸ List.mem_map.mpr ⟨st, hst, rfl⟩
    obtain ⟨kv, h1, h2⟩ := List.mem_map.mp hk
    exact ⟨kv, h1, decide_eq_true (by rw [h2, kS_v]; exact es)⟩
theorem inG_yes {S : List Way} (ok : SOk S) {st : List Str} (h : st ∈ stds S) : inG S (st.map V.str) = true := by
  unfold inG
  rw [names_all (stds_names ok.wn h), decide_eq_true (List.mem_map.mpr ⟨st, h, rfl⟩)]
  rfl
structure Mt (K : PySem.W.Frag) (C : Addr) (m qual : Str) (st : Stmt) (ps : List Str) (f : Addr) (fd : FuncData) : Prop where
  me : Meth K C m f
  F : Fun K m qual st f fd
  b : Binds K fd ps []
section
variable {P : Program} {w : World} {K : PySem.W.Frag} {mg : Str → Option Value} {base : Heap}
variable {fShape fNames fName fSorted fStds fTable fInts fInt fOne fPut : Addr} {dShape dNames dName dSorted dStds dTable dInts dInt dOne dPut : FuncData}
variable {C : Addr}
def spHasCh (K : PySem.W.Frag) (C : Addr) : Sp := fun args H Q _ => ∃ (g : Addr) (x : V) (t : Tg) (N : Addr → Prop) (S : List Way) (γ : List Str → List Int), args = [.ref g, x] ∧ IsG K C N H g S γ ∧ AnyV K H x t ∧ Q (.bl (hasCh S x)) H
theorem ok_has_chooser {f : Addr} {fd : FuncData} (G : GD K mg fShape fNames fName fSorted fStds fTable fInts fInt fOne fPut dShape dNames dName dSorted dStds dTable dInts dInt dOne dPut) (c : GC K C) (M : Mt K C "has_chooser" "Game.has_chooser" s_Game_has_chooser ["self", "thing"] f fd) :
    FnOk P w K mg base CX0 2 f fd ["self", "thing"] (spHasCh K C) := by
  have S : FnScope ["self", "thing"] ["self", "thing"] (defScope s_Game_has_chooser) := ⟨rfl, rfl, rfl, by decide +kernel, rfl, by decide +kernel, by decide +kernel⟩
  refine M.F.ok S (fun vs H Q E h => ?_) (fun cdv A outer s H vs Q E hr h => ?_)
  · obtain ⟨g, x, t, N, S, γ, rfl, _⟩ := h
    rfl
  · obtain ⟨g, x, t, N, S, γ, rfl, ⟨dx, wa, l, ta, vs, kvs, hG⟩, hx, q⟩ := h
    have hu := hu_of hr
    refine ⟨_, pss_one (ps_ret (pe_and (pe_call (ok_is_name G.name G.T) (hr.mono (by decide)) (by rfl) G.name.g G.name.F.kp G.bName .nil pass0 (pa_cons (pv 1) pa_nil)) (pe_one (pe_cmp (pc_din hu (pv 1) (pe_fld (pv 0) rfl)))))), ?_⟩
    refine ⟨_, rfl, x, t, rfl, hx, _, rfl, ?_⟩
    cases e : nameV x with
    | false =>
      rw [hasCh_no e] at q
      exact q
    | true =>
      obtain ⟨z, rfl⟩ : ∃ z, x = .str z := by
        cases x <;> first | exact ⟨_, rfl⟩ | exact absurd e Bool.false_ne_true
      obtain ⟨kw, hkw, pkw⟩ := hG.hw
      refine ⟨_, rfl, _, rfl, g, C, dx, _, _, rfl, hG.hg, c.cl, c.nW, rfl, wa, _, rfl, DGet.k (k := Sum.inr z) hkw, ?_⟩
      rw [way_some pkw z]
      rw [show hasCh S (.str z) = decide (z ∈ names S) by show (isNm z && _) = _; rw [show isNm z = true from e]; rfl] at q
      exact q
end
end HG

namespace HG
open PySem PySem.Spec PyProof.Rows L2
open C8 (pss_cut tCut)
theorem str_beq (a b : Str) : (eqV (.str a) (.str b)) = decide (a = b) := by
  show (a == b) = _
  by_cases h : a = b
  · rw [decide_eq_true h, h]
    exact beq_self_eq_true _
  · rw [decide_eq_false h]
    exact beq_eq_false_iff_ne.mpr h
theorem flat_strs (xs : List Str) : (xs.map V.str).all flatV = true := by
  rw [List.all_eq_true]
  intro y hy
  obtain ⟨z, _, rfl⟩ := List.mem_map.mp hy
  rfl
theorem inV_strs (z : Str) (xs : List Str) : inV (.str z) (xs.map V.str) = decide (z ∈ xs) := by
  unfold inV
  rw [Bool.eq_iff_iff, List.any_eq_true, decide_eq_true_iff]
  constructor
  · rintro ⟨y, hy, e⟩
    obtain ⟨u, hu, rfl⟩ := List.mem_map.mp hy
    rw [str_beq] at e
    exact of_decide_eq_true e ▸ hu
  · intro h
    exact ⟨.str z, List.mem_map.mpr ⟨z, h, rfl⟩, by rw [str_beq]; exact decide_eq_true rfl⟩
section
variable {P : Program} {w : World} {K : PySem.W.Frag} {mg : Str → Option Value} {base : Heap}
variable {fShape fNames fName fSorted fStds fTable fInts fInt fOne fPut : Addr} {dShape dNames dName dSorted dStds dTable dInts dInt dOne dPut : FuncData}
variable {C : Addr}
abbrev MtHas (K : PySem.W.Frag) (C f : Addr) (fd : FuncData) := Mt K C "has_chooser" "Game.has_chooser" s_Game_has_chooser ["self", "thing"] f fd
abbrev MtCheck (K : PySem.W.Frag) (C f : Addr) (fd : FuncData) := Mt K C "check_chooser" "Game.check_chooser" s_Game_check_chooser ["self", "chooser"] f fd
abbrev MtSeat (K : PySem.W.Frag) (C f : Addr) (fd : FuncData) := Mt K C "seat" "Game.seat" s_Game_seat ["self", "chooser"] f fd
abbrev MtIn (K : PySem.W.Frag) (C f : Addr) (fd : FuncData) := Mt K C "__contains__" "Game.__contains__" s_Game___contains ["self", "x"] f fd
abbrev MtLen (K : PySem.W.Frag) (C f : Addr) (fd : FuncData) := Mt K C "__len__" "Game.__len__" s_Game___len ["self"] f fd
abbrev MtStand (K : PySem.W.Frag) (C f : Addr) (fd : FuncData) := Mt K C "check_standing" "Game.check_standing" s_Game_check_standing ["self", "standing"] f fd
def spCheck (K : PySem.W.Frag) (C : Addr) : Sp := fun args H Q _ => ∃ (g : Addr) (z : Str) (N : Addr → Prop) (S : List Way) (γ : List Str → List Int), args = [.ref g, .str z] ∧ IsG K C N H g S γ ∧ isNm z = true ∧ z ∈ names S ∧ Q .non H
def spSeat (K : PySem.W.Frag) (C : Addr) : Sp := fun args H Q _ => ∃ (g : Addr) (z : Str) (i : Nat) (N : Addr → Prop) (S : List Way) (γ : List Str → List Int), args = [.ref g, .str z] ∧ IsG K C N H g S γ ∧ (names S).Nodup ∧ (names S)[i]? = some z ∧ ∀ H', Same H H' → Q (.int (i : Int)) H'
def spIn (K : PySem.W.Frag) (C : Addr) : Sp := fun args H Q _ => ∃ (g : Addr) (x : V) (N : Addr → Prop) (S : List Way) (γ : List Str → List Int), args = [.ref g, x] ∧ IsG K C N H g S γ ∧
  ((∃ a xs, x = .ref a ∧ H a = some (.tup xs) ∧ xs.length ≤ 10000 ∧ (∀ y ∈ xs, ∃ t, AnyV K H y t) ∧ ∀ H', Same H H' → Q (.bl (inG S xs)) H') ∨ (∃ t, AnyV K H x t ∧ t ≠ .tup ∧ ∀ H', Same H H' → Q (.bl false) H'))
def spLen (K : PySem.W.Frag) (C : Addr) : Sp := fun args H Q _ => ∃ (g : Addr) (N : Addr → Prop) (S : List Way) (γ : List Str → List Int), args = [.ref g] ∧ IsG K C N H g S γ ∧ Q (.int ((stds S).length : Int)) H
def spStand (K : PySem.W.Frag) (C : Addr) : Sp := fun args H Q _ => ∃ (g a : Addr) (st : List Str) (N : Addr → Prop) (S : List Way) (γ : List Str → List Int), args = [.ref g, .ref a] ∧ IsG K C N H g S γ ∧ SOk S ∧ H a = some (.tup (st.map V.str)) ∧ st ∈ stds S ∧ ∀ H', Same H H' → Q .non H'
theorem ok_check_chooser {f fH : Addr} {fd fdH : FuncData} (G : GD K mg fShape fNames fName fSorted fStds fTable fInts fInt fOne fPut dShape dNames dName dSorted dStds dTable dInts dInt dOne dPut) (c : GC K C) (M : MtCheck K C f fd) (MH : MtHas K C fH fdH) :
    FnOk P w K mg base CX0 3 f fd ["self", "chooser"] (spCheck K C) := by
  have S : FnScope ["self", "chooser"] ["self", "chooser"] (defScope s_Game_check_chooser) := ⟨rfl, rfl, rfl, by decide +kernel, rfl, by decide +kernel, by decide +kernel⟩
  refine M.F.ok S (fun vs H Q E h => ?_) (fun cdv A outer s H vs Q E hr h => ?_)
  · obtain ⟨g, z, N, S, γ, rfl, _⟩ := h
    rfl
  · obtain ⟨g, z, N, S, γ, rfl, hg, hn, hz, q⟩ := h
    refine ⟨_, pss_one (ps_if (pt_not (pt_val (pe_meth (pv 0) c.cl MH.me (ok_has_chooser G c MH) hr MH.b .nil pass0 (pa_cons (pv 1) pa_nil)))) pss_never pss_nil), ?_⟩
    obtain ⟨dx, wa, l, ta, vs, kvs, hG⟩ := id hg
    refine ⟨_, rfl, g, dx, _, rfl, hG.hg, rfl, _, rfl, g, .str z, .str, N, S, γ, rfl, hg, nm_any hn, ?_⟩
    rw [show hasCh S (.str z) = true by show (isNm z && decide (z ∈ names S)) = true; rw [hn, decide_eq_true hz]; rfl]
    exact ⟨_, rfl, iteF q⟩
theorem ok_seat {f : Addr} {fd : FuncData} (T : KT K mg) (c : GC K C) (M : MtSeat K C f fd) : FnOk P w K mg base CX0 1 f fd ["self", "chooser"] (spSeat K C) := by
  have S : FnScope ["self", "chooser"] ["self", "chooser"] (defScope s_Game_seat) := ⟨rfl, rfl, rfl, by decide +kernel, rfl, by decide +kernel, by decide +kernel⟩
  refine M.F.ok S (fun vs H Q E h => ?_) (fun cdv A outer s H vs Q E hr h => ?_)
  · obtain ⟨g, z, i, N, S, γ, rfl, _⟩ := h
    rfl
  · obtain ⟨g, z, i, N, S, γ, rfl, ⟨dx, wa, l, ta, vs, kvs, hG⟩, hnd, hi, q⟩ := h
    refine ⟨_, pss_one (ps_ret (pe_bm PySem.F.plainAttrs_list PySem.F.slot_list_index PySem.F.type_list_index mt_index (pe_callTy (call_listD rfl) (by rfl) T.m_list (by decide +kernel) (pa_cons (pe_fld (pv 0) rfl) pa_nil)) (pa_cons (pv 1) pa_nil))), ?_⟩
    obtain ⟨kw, hkw, pkw⟩ := hG.hw
    refine ⟨_, rfl, g, C, dx, _, _, rfl, hG.hg, c.cl, c.nW, rfl, wa, kw, rfl, .inl hkw, fun p np => ?_⟩
    have e : (kw.map fun kv => kV kv.1) = (names S).map V.str := paired_keys (paired_imp pkw fun _ _ q => q.at)
    rw [e]
    have s1 := same_upd (o := .lst ((names S).map V.str)) np
    refine ⟨.inl ⟨rfl, _, SqL.of upd_same⟩, _, rfl, p, _, .str z, i, .str z, rfl, rfl, SqL.of upd_same, rfl, flat_strs _, by rw [List.getElem?_map, hi]; rfl, by rw [str_beq]; exact decide_eq_true rfl, fun m z' hm hz' => ?_, q _ s1⟩
    rw [List.getElem?_map] at hz'
    obtain ⟨u, hu, rfl⟩ := Option.map_eq_some_iff.mp hz'
    rw [str_beq]
    refine decide_eq_false fun e => ?_
    subst e
    obtain ⟨h1, e1⟩ := List.getElem?_eq_some_iff.mp hu
    obtain ⟨h2, e2⟩ := List.getElem?_eq_some_iff.mp hi
    have := (List.getElem_inj hnd).mp (e1.trans e2.symm)
    omega
theorem ok_in {f : Addr} {fd : FuncData} (G : GD K mg fShape fNames fName fSorted fStds fTable fInts fInt fOne fPut dShape dNames dName dSorted dStds dTable dInts dInt dOne dPut) (c : GC K C) (M : MtIn K C f fd) : FnOk P w K mg base CX0 3 f fd ["self", "x"] (spIn K C) := by
  have S : FnScope ["self", "x"] ["self", "x"] (defScope s_Game___contains) := ⟨rfl, rfl, rfl, by decide +kernel, rfl, by decide +kernel, by decide +kernel⟩
  refine M.F.ok S (fun vs H Q E h => ?_) (fun cdv A outer s H vs Q E hr h => ?_)
  · obtain ⟨g, x, N, S, γ, rfl, _⟩ := h
    rfl
  · obtain ⟨g, x, N, S, γ, rfl, ⟨dx, wa, l, ta, vs, kvs, hG⟩, q⟩ := h
    refine ⟨_, pss_one (ps_ret (pe_call (ok_is_one_of G.one G.name G.bName G.T) hr (by rfl) G.one.g G.one.F.kp G.bOne .nil pass0 (pa_cons (pv 1) (pa_cons (pe_fld (pv 0) rfl) pa_nil)))), ?_⟩
    refine ⟨_, rfl, _, rfl, g, C, dx, _, _, rfl, hG.hg, c.cl, c.nG, rfl, x, ta, kvs, rfl, hG.ht, ?_⟩
    rcases q with ⟨a, xs, rfl, ha, hz, hany, q⟩ | ⟨t, ht, nt, q⟩
    · rw [← oneOf_G hG.hk] at q
      exact .inl ⟨a, xs, rfl, ha, hz, hany, q⟩
    · exact .inr ⟨t, ht, nt, q H (Same.refl _)⟩
theorem ok_len {f : Addr} {fd : FuncData} (T : KT K mg) (c : GC K C) (M : MtLen K C f fd) : FnOk P w K mg base CX0 1 f fd ["self"] (spLen K C) := by
  have S : FnScope ["self"] ["self"] (defScope s_Game___len) := ⟨rfl, rfl, rfl, by decide +kernel, rfl, by decide +kernel, by decide +kernel⟩
  refine M.F.ok S (fun vs H Q E h => ?_) (fun cdv A outer s H vs Q E hr h => ?_)
  · obtain ⟨g, N, S, γ, rfl, _⟩ := h
    rfl
  · obtain ⟨g, N, S, γ, rfl, ⟨dx, wa, l, ta, vs, kvs, hG⟩, q⟩ := h
    refine ⟨_, pss_one (ps_ret (pe_callB call_len_seq (by rfl) T.m_len PySem.boot_len (pa_cons (pe_fld (pv 0) rfl) pa_nil))), ?_⟩
    rw [show (stds S).length = vs.length from Paired.length hG.hs] at q
    exact ⟨_, rfl, g, C, dx, _, _, rfl, hG.hg, c.cl, c.nL, rfl, l, vs, rfl, .inl (SqL.of hG.hl), q⟩
theorem ok_check_standing {f fI : Addr} {fd fdI : FuncData} (G : GD K mg fShape fNames fName fSorted fStds fTable fInts fInt fOne fPut dShape dNames dName dSorted dStds dTable dInts dInt dOne dPut) (c : GC K C) (M : MtStand K C f fd) (MI : MtIn K C fI fdI) :
    FnOk P w K mg base CX0 4 f fd ["self", "standing"] (spStand K C) := by
  have S : FnScope ["self", "standing"] ["self", "standing"] (defScope s_Game_check_standing) := ⟨rfl, rfl, rfl, by decide +kernel, rfl, by decide +kernel, by decide +kernel⟩
  refine M.F.ok S (fun vs H Q E h => ?_) (fun cdv A outer s H vs Q E hr h => ?_)
  · obtain ⟨g, a, st, N, S, γ, rfl, _⟩ := h
    rfl
  · obtain ⟨g, a, st, N, S, γ, rfl, hg, ok, ha, hst, q⟩ := h
    refine ⟨_, pss_one (ps_if (pt_cmpR (op_notInOwn MI.me.at_ MI.me.fn (ok_in G c MI) hr MI.b pass0) (pv 1) (pv 0) (by rfl)) pss_never pss_nil), ?_⟩
    obtain ⟨dx, wa, l, ta, vs, kvs, hG⟩ := id hg
    refine ⟨_, rfl, _, rfl, g, dx, _, rfl, hG.hg, g, .ref a, N, S, γ, rfl, hg, .inl ⟨a, _, rfl, ha, ?_, ?_, fun H' s' => ?_⟩⟩
    · rw [List.length_map, stds_mem hst]
      have := ok.n4
      omega
    · exact names_any (stds_names ok.wn hst)
    · rw [inG_yes ok hst]
      exact ⟨true, rfl, _, rfl, iteF (q _ s')⟩
end
end HG

namespace HG
open PySem PySem.Spec PyProof.Rows L2
open C8 (pss_cut tCut)
/-! ### standings, put -/
theorem stds_at {S : List Way} {st : List Str} (h : st ∈ stds S) : ∀ {i : Nat} {q : Way} {z : Str}, S[i]? = some q → st[i]? = some z → z ∈ q.2 := by
  have key : ∀ (S : List Way) (T : List Way) (sts : List (List Str)), (∀ st ∈ sts, st.length = T.length ∧ ∀ (i : Nat) (q : Way) (z : Str), T[i]? = some q → st[i]? = some z → z ∈ q.2) →
      ∀ st ∈ S.foldl (fun sts q => mul1 sts q.2) sts, ∀ (i : Nat) (q : Way) (z : Str), (T ++ S)[i]? = some q → st[i]? = some z → z ∈ q.2 := by
    intro S
    induction S with
    | nil => exact fun T sts h st hst => by rw [List.append_nil]; exact (h st hst).2
    | cons a r ih =>
      intro T sts h st hst
      have := ih (T ++ [a]) (mul1 sts a.2) (fun y hy => by
        obtain ⟨x, hx, hy⟩ := List.mem_flatMap.mp hy
        obtain ⟨w, hw, rfl⟩ := List.mem_map.mp hy
        obtain ⟨hl, hx⟩ := h x hx
        refine ⟨by rw [List.length_append, List.length_append, hl]; rfl, fun i q z hq hz => ?_⟩
        by_cases hi : i < T.length
        · rw [List.getElem?_append_left hi] at hq
          rw [List.getElem?_append_left (by omega)] at hz
          exact hx i q z hq hz
        · rw [List.getElem?_append_right (by omega)] at hq
          rw [List.getElem?_append_right (by omega)] at hz
          have e1 : i - T.length = 0 := by
            have := (List.getElem?_eq_some_iff.mp hq).1
            simp at this
            omega
          rw [e1] at hq
          rw [hl, e1] at hz
          simp at hq hz
          rw [← hq, ← hz]
          exact hw) st hst
      rwa [List.append_assoc] at this
  intro i q z hq hz
  have := key S [] [[]] (fun st hst => by rw [List.mem_singleton.mp hst]; exact ⟨rfl, fun i q z hq _ => by simp at hq⟩) st h i q z
  exact this (by simpa using hq) hz
theorem stds_of {S : List Way} {st : List Str} (hl : st.length = S.length) (h : ∀ (i : Nat) (q : Way) (z : Str), S[i]? = some q → st[i]? = some z → z ∈ q.2) : st ∈ stds S := by
  have key : ∀ (S : List Way) (sts : List (List Str)) (p st : List Str), p ∈ sts → st.length = S.length → (∀ (i : Nat) (q : Way) (z : Str), S[i]? = some q → st[i]? = some z → z ∈ q.2) → p ++ st ∈ S.foldl (fun sts q => mul1 sts q.2) sts := by
    intro S
    induction S with
    | nil =>
      intro sts p st hp hl _
      rw [List.length_eq_zero_iff.mp hl, List.append_nil]
      exact hp
    | cons a r ih =>
      intro sts p st hp hl h
      cases st with
      | nil => cases hl
      | cons x st =>
        have := ih (mul1 sts a.2) (p ++ [x]) st (List.mem_flatMap.mpr ⟨p, hp, List.mem_map.mpr ⟨x, h 0 a x rfl rfl, rfl⟩⟩) (by simpa using hl) (fun i q z hq hz => h (i + 1) q z (by simpa using hq) (by simpa using hz))
        rwa [List.append_assoc] at this
  exact key S [[]] [] st (List.mem_singleton.mpr rfl) hl h
theorem stds_set {S : List Way} {st : List Str} {i : Nat} {q : Way} {v : Str} (h : st ∈ stds S) (hq : S[i]? = some q) (hv : v ∈ q.2) : st.set i v ∈ stds S := by
  refine stds_of (by rw [List.length_set]; exact stds_mem h) fun j q' z hq' hz => ?_
  by_cases hj : i = j
  · subst hj
    rw [hq] at hq'
    cases hq'
    have hi : i < st.length := by
      rw [stds_mem h]
      exact (List.getElem?_eq_some_iff.mp hq).1
    rw [List.getElem?_set_self hi] at hz
    cases hz
    exact hv
  · rw [List.getElem?_set_ne hj] at hz
    exact stds_at h hq' hz
section
variable {P : Program} {w : World} {K : PySem.W.Frag} {mg : Str → Option Value} {base : Heap}
variable {fShape fNames fName fSorted fStds fTable fInts fInt fOne fPut : Addr} {dShape dNames dName dSorted dStds dTable dInts dInt dOne dPut : FuncData}
variable {C : Addr}
def spChoosers (K : PySem.W.Frag) (C : Addr) : Sp := fun args H Q _ => ∃ (g : Addr) (N : Addr → Prop) (S : List Way) (γ : List Str → List Int), args = [.ref g] ∧ IsG K C N H g S γ ∧ ∀ p, H p = none → Q (.ref p) (upd H p (.lst ((names S).map V.str)))
def spWays (K : PySem.W.Frag) (C : Addr) : Sp := fun args H Q _ => ∃ (g : Addr) (q : Way) (N : Addr → Prop) (S : List Way) (γ : List Str → List Int), args = [.ref g, .str q.1] ∧ IsG K C N H g S γ ∧ SOk S ∧ q ∈ S ∧ ∀ p, H p = none → Q (.ref p) (upd H p (.lst (q.2.map V.str)))
def spShape (K : PySem.W.Frag) (C : Addr) : Sp := fun args H Q _ => ∃ (g : Addr) (N : Addr → Prop) (S : List Way) (γ : List Str → List Int), args = [.ref g] ∧ IsG K C N H g S γ ∧ SOk S ∧ ∀ H' p, Same H H' → H p = none → ShL (fun a => H a = none) H' p (sh S) → Q (.ref p) H'
def spStandings (K : PySem.W.Frag) (C : Addr) : Sp := fun args H Q _ => ∃ (g : Addr) (N : Addr → Prop) (S : List Way) (γ : List Str → List Int), args = [.ref g] ∧ IsG K C N H g S γ ∧ ∀ p vs, H p = none → TupsAt H (stds S) vs → Q (.ref p) (upd H p (.lst vs))
def spGains (K : PySem.W.Frag) (C : Addr) : Sp := fun args H Q _ => ∃ (g a : Addr) (st : List Str) (N : Addr → Prop) (S : List Way) (γ : List Str → List Int), args = [.ref g, .ref a] ∧ IsG K C N H g S γ ∧ SOk S ∧ H a = some (.tup (st.map V.str)) ∧ st ∈ stds S ∧ ∀ H' b, Same H H' → SqT K H' b ((γ st).map V.int) → Q (.ref b) H'
def spGain (K : PySem.W.Frag) (C : Addr) : Sp := fun args H Q _ => ∃ (g a : Addr) (z : Str) (i : Nat) (n : Int) (st : List Str) (N : Addr → Prop) (S : List Way) (γ : List Str → List Int), args = [.ref g, .str z, .ref a] ∧ IsG K C N H g S γ ∧ SOk S ∧ H a = some (.tup (st.map V.str)) ∧ st ∈ stds S ∧
  (names S)[i]? = some z ∧ (γ st)[i]? = some n ∧ ∀ H', Same H H' → Q (.int n) H'
abbrev MtG (K : PySem.W.Frag) (C : Addr) (m : Str) (st : Stmt) (ps : List Str) (f : Addr) (fd : FuncData) := Mt K C m (Str.ofString "Game." ++ m) st ps f fd
theorem names_nm {S : List Way} (ok : SOk S) {z : Str} (h : z ∈ names S) : isNm z = true := by
  obtain ⟨q, hq, rfl⟩ := List.mem_map.mp h
  exact ok.nm q hq
theorem ok_choosers {f : Addr} {fd : FuncData} (T : KT K mg) (c : GC K C) (M : Mt K C "choosers" "Game.choosers" s_Game_choosers ["self"] f fd) : FnOk P w K mg base CX0 1 f fd ["self"] (spChoosers K C) := by
  have S : FnScope ["self"] ["self"] (defScope s_Game_choosers) := ⟨rfl, rfl, rfl, by decide +kernel, rfl, by decide +kernel, by decide +kernel⟩
  refine M.F.ok S (fun vs H Q E h => ?_) (fun cdv A outer s H vs Q E hr h => ?_)
  · obtain ⟨g, N, S, γ, rfl, _⟩ := h
    rfl
  · obtain ⟨g, N, S, γ, rfl, ⟨dx, wa, l, ta, vs, kvs, hG⟩, q⟩ := h
    refine ⟨_, pss_one (ps_ret (pe_callTy (call_listD rfl) (by rfl) T.m_list (by decide +kernel) (pa_cons (pe_fld (pv 0) rfl) pa_nil))), ?_⟩
    obtain ⟨kw, hkw, pkw⟩ := hG.hw
    refine ⟨_, rfl, g, C, dx, _, _, rfl, hG.hg, c.cl, c.nW, rfl, wa, kw, rfl, .inl hkw, fun p np => ?_⟩
    rw [show (kw.map fun kv => kV kv.1) = (names S).map V.str from paired_keys (paired_imp pkw fun _ _ q => q.at)]
    exact q p np
theorem ok_ways {f fK fH : Addr} {fd fdK fdH : FuncData} (G : GD K mg fShape fNames fName fSorted fStds fTable fInts fInt fOne fPut dShape dNames dName dSorted dStds dTable dInts dInt dOne dPut) (c : GC K C) (M : Mt K C "ways" "Game.ways" s_Game_ways ["self", "chooser"] f fd) (MK : MtCheck K C fK fdK) (MH : MtHas K C fH fdH) :
    FnOk P w K mg base CX0 4 f fd ["self", "chooser"] (spWays K C) := by
  have S : FnScope ["self", "chooser"] ["self", "chooser"] (defScope s_Game_ways) := ⟨rfl, rfl, rfl, by decide +kernel, rfl, by decide +kernel, by decide +kernel⟩
  refine M.F.ok S (fun vs H Q E h => ?_) (fun cdv A outer s H vs Q E hr h => ?_)
  · obtain ⟨g, q, N, S, γ, rfl, _⟩ := h
    rfl
  · obtain ⟨g, q, N, S, γ, rfl, hg, ok, hq, qq⟩ := h
    have hu := hu_of hr
    refine ⟨_, pss_cons (ps_expr (pe_meth (pv 0) c.cl MK.me (ok_check_chooser G c MK MH) hr MK.b .nil pass0 (pa_cons (pv 1) pa_nil)))
      (pss_one (ps_ret (pe_callTy call_list_of (by rfl) G.T.m_list (by decide +kernel) (pa_cons (pe_dget hu (pe_fld (pv 0) rfl) (pv 1) (fun _ _ => rfl)) pa_nil)))), ?_⟩
    obtain ⟨dx, wa, l, ta, vs, kvs, hG⟩ := id hg
    obtain ⟨kw, hkw, pkw⟩ := hG.hw
    obtain ⟨a, ha, na, hl⟩ := way_at pkw ok.nd hq
    refine ⟨_, rfl, g, dx, _, rfl, hG.hg, rfl, _, rfl, g, q.1, N, S, γ, rfl, hg, ok.nm q hq, List.mem_map.mpr ⟨q, hq, rfl⟩, ?_⟩
    refine ⟨_, rfl, g, C, dx, _, _, rfl, hG.hg, c.cl, c.nW, rfl, _, rfl, wa, _, rfl, (by rw [← ha]; exact DGet.k (k := Sum.inr q.1) hkw), a, _, rfl, .inl (SqL.of hl), qq⟩
theorem ok_shape {f : Addr} {fd : FuncData} (G : GD K mg fShape fNames fName fSorted fStds fTable fInts fInt fOne fPut dShape dNames dName dSorted dStds dTable dInts dInt dOne dPut) (c : GC K C) (M : Mt K C "shape" "Game.shape" s_Game_shape ["self"] f fd) : FnOk P w K mg base CX0 2 f fd ["self"] (spShape K C) := by
  have S : FnScope ["self"] ["self"] (defScope s_Game_shape) := ⟨rfl, rfl, rfl, by decide +kernel, rfl, by decide +kernel, by decide +kernel⟩
  refine M.F.ok S (fun vs H Q E h => ?_) (fun cdv A outer s H vs Q E hr h => ?_)
  · obtain ⟨g, N, S, γ, rfl, _⟩ := h
    rfl
  · obtain ⟨g, N, S, γ, rfl, ⟨dx, wa, l, ta, vs, kvs, hG⟩, ok, q⟩ := h
    refine ⟨_, pss_one (ps_ret (pe_call (ok_sorted_ways G.sorted G.m_sorted) hr (by rfl) G.sorted.g G.sorted.F.kp G.bSorted .nil pass0 (pa_cons (pe_fld (pv 0) rfl) pa_nil))), ?_⟩
    exact ⟨_, rfl, g, C, dx, _, _, rfl, hG.hg, c.cl, c.nW, rfl, wa, S, rfl, hG.hw.at, ok.nd, Nat.lt_of_le_of_lt ok.n4 (by decide), fun x hx => Nat.lt_of_le_of_lt (ok.w4 x hx) (by decide), q⟩
theorem ok_standings {f : Addr} {fd : FuncData} (T : KT K mg) (c : GC K C) (M : Mt K C "standings" "Game.standings" s_Game_standings ["self"] f fd) : FnOk P w K mg base CX0 1 f fd ["self"] (spStandings K C) := by
  have S : FnScope ["self"] ["self"] (defScope s_Game_standings) := ⟨rfl, rfl, rfl, by decide +kernel, rfl, by decide +kernel, by decide +kernel⟩
  refine M.F.ok S (fun vs H Q E h => ?_) (fun cdv A outer s H vs Q E hr h => ?_)
  · obtain ⟨g, N, S, γ, rfl, _⟩ := h
    rfl
  · obtain ⟨g, N, S, γ, rfl, ⟨dx, wa, l, ta, vs, kvs, hG⟩, q⟩ := h
    refine ⟨_, pss_one (ps_ret (pe_callTy call_list_of (by rfl) T.m_list (by decide +kernel) (pa_cons (pe_fld (pv 0) rfl) pa_nil))), ?_⟩
    exact ⟨_, rfl, g, C, dx, _, _, rfl, hG.hg, c.cl, c.nL, rfl, l, vs, rfl, .inl (SqL.of hG.hl), fun p np => q p vs np hG.hs⟩
theorem ok_gains {f fS fI : Addr} {fd fdS fdI : FuncData} (G : GD K mg fShape fNames fName fSorted fStds fTable fInts fInt fOne fPut dShape dNames dName dSorted dStds dTable dInts dInt dOne dPut) (c : GC K C) (M : Mt K C "gains" "Game.gains" s_Game_gains ["self", "standing"] f fd) (MS : MtStand K C fS fdS) (MI : MtIn K C fI fdI) :
    FnOk P w K mg base CX0 5 f fd ["self", "standing"] (spGains K C) := by
  have S : FnScope ["self", "standing"] ["self", "standing"] (defScope s_Game_gains) := ⟨rfl, rfl, rfl, by decide +kernel, rfl, by decide +kernel, by decide +kernel⟩
  refine M.F.ok S (fun vs H Q E h => ?_) (fun cdv A outer s H vs Q E hr h => ?_)
  · obtain ⟨g, a, st, N, S, γ, rfl, _⟩ := h
    rfl
  · obtain ⟨g, a, st, N, S, γ, rfl, hg, ok, ha, hst, q⟩ := h
    have hu := hu_of hr
    refine ⟨_, pss_cons (ps_expr (pe_meth (pv 0) c.cl MS.me (ok_check_standing G c MS MI) hr MS.b .nil pass0 (pa_cons (pv 1) pa_nil)))
      (pss_one (ps_ret (pe_dget hu (pe_fld (pv 0) rfl) (pv 1) (fun _ _ => rfl)))), ?_⟩
    obtain ⟨dx, wa, l, ta, vs, kvs, hG⟩ := id hg
    refine ⟨_, rfl, g, dx, _, rfl, hG.hg, rfl, _, rfl, g, a, st, N, S, γ, rfl, hg, ok, ha, hst, fun H1 s1 => ?_⟩
    have hG1 := hG.same s1
    obtain ⟨b, hb, hq⟩ := gain_at hG1.hk hst
    exact ⟨_, rfl, g, C, dx, _, _, rfl, hG1.hg, c.cl, c.nG, rfl, _, rfl, ta, _, rfl, (by rw [← hb]; exact DGet.t (k := kS st) hG1.ht (by rw [kS_v]; exact s1 _ _ ha)), q H1 b s1 hq⟩
theorem ok_gain {f fS fI fK fH fT : Addr} {fd fdS fdI fdK fdH fdT : FuncData} (G : GD K mg fShape fNames fName fSorted fStds fTable fInts fInt fOne fPut dShape dNames dName dSorted dStds dTable dInts dInt dOne dPut) (c : GC K C) (M : Mt K C "gain" "Game.gain" s_Game_gain ["self", "chooser", "standing"] f fd) (MS : MtStand K C fS fdS) (MI : MtIn K C fI fdI)
    (MK : MtCheck K C fK fdK) (MH : MtHas K C fH fdH) (MT : MtSeat K C fT fdT) : FnOk P w K mg base CX0 5 f fd ["self", "chooser", "standing"] (spGain K C) := by
  have S : FnScope ["self", "chooser", "standing"] ["self", "chooser", "standing"] (defScope s_Game_gain) := ⟨rfl, rfl, rfl, by decide +kernel, rfl, by decide +kernel, by decide +kernel⟩
  refine M.F.ok S (fun vs H Q E h => ?_) (fun cdv A outer s H vs Q E hr h => ?_)
  · obtain ⟨g, a, z, i, n, st, N, S, γ, rfl, _⟩ := h
    rfl
  · obtain ⟨g, a, z, i, n, st, N, S, γ, rfl, hg, ok, ha, hst, hi, hn, q⟩ := h
    have hu := hu_of hr
    refine ⟨_, pss_cons (ps_expr (pe_meth (pv 0) c.cl MK.me (ok_check_chooser G c MK MH) (hr.mono (by decide)) MK.b .nil pass0 (pa_cons (pv 1) pa_nil)))
      (pss_cons (ps_expr (pe_meth (pv 0) c.cl MS.me (ok_check_standing G c MS MI) hr MS.b .nil pass0 (pa_cons (pv 2) pa_nil)))
      (pss_one (ps_ret (pe_ix ix_tup (pe_dget hu (pe_fld (pv 0) rfl) (pv 2) (fun _ _ => rfl)) (pe_meth (pv 0) c.cl MT.me (ok_seat G.T c MT) (hr.mono (by decide)) MT.b .nil pass0 (pa_cons (pv 1) pa_nil)) (fun _ _ => rfl))))), ?_⟩
    obtain ⟨dx, wa, l, ta, vs, kvs, hG⟩ := id hg
    have hz : z ∈ names S := List.mem_of_getElem? hi
    refine ⟨_, rfl, g, dx, _, rfl, hG.hg, rfl, _, rfl, g, z, N, S, γ, rfl, hg, names_nm ok hz, hz, ?_⟩
    refine ⟨_, rfl, g, dx, _, rfl, hG.hg, rfl, _, rfl, g, a, st, N, S, γ, rfl, hg, ok, ha, hst, fun H1 s1 => ?_⟩
    have hG1 := hG.same s1
    obtain ⟨b, hb, hq⟩ := gain_at hG1.hk hst
    refine ⟨_, rfl, g, C, dx, _, _, rfl, hG1.hg, c.cl, c.nG, rfl, _, rfl, ta, _, rfl, (by rw [← hb]; exact DGet.t (k := kS st) hG1.ht (by rw [kS_v]; exact s1 _ _ ha)), ?_⟩
    refine ⟨_, rfl, g, dx, _, rfl, hG1.hg, rfl, _, rfl, g, z, i, N, S, γ, rfl, hg.same s1, ok.nd, hi, fun H2 s2 => ?_⟩
    exact ⟨b, _, _, _, rfl, rfl, same_sqt s2 hq, atI_nat (by rw [List.getElem?_map, hn]; rfl), q H2 (s1.trans s2)⟩
end
end HG

namespace HG
open PySem PySem.Spec PyProof.Rows L2
open C8 (pss_cut tCut)
def spIsChange (K : PySem.W.Frag) : Sp := fun args H Q _ => ∃ x, args = [x] ∧
  ((∃ xs, SeqV K H x xs ∧ (1 ≤ xs.length → xs.length ≤ 4 → ∀ y ∈ xs, ∃ t, AnyV K H y t) ∧ ∀ H', Same H H' → Q (.bl (namesV xs && decide (xs.length = 2))) H') ∨
   (∃ t, AnyV K H x t ∧ t ≠ .lst ∧ t ≠ .tup ∧ ∀ H', Same H H' → Q (.bl false) H'))
section
variable {P : Program} {w : World} {K : PySem.W.Frag} {mg : Str → Option Value} {base : Heap}
variable {fShape fNames fName fSorted fStds fTable fInts fInt fOne fPut : Addr} {dShape dNames dName dSorted dStds dTable dInts dInt dOne dPut : FuncData}
variable {C : Addr}
theorem ok_is_change {f fA fN : Addr} {fd fdA fdN : FuncData} (D : Df K mg "is_change" s_is_change f fd) (A : Df K mg "are_names" s_are_names fA fdA) (bA : Binds K fdA ["thing"] []) (N : Df K mg "is_name" s_is_name fN fdN) (bN : Binds K fdN ["thing"] []) (T : KT K mg) : FnOk P w K mg base CX0 3 f fd ["thing"] (spIsChange K) := by
  have S : FnScope ["thing"] ["thing"] (defScope s_is_change) := ⟨rfl, rfl, rfl, by decide +kernel, rfl, by decide +kernel, by decide +kernel⟩
  refine D.F.ok S (fun vs H Q E h => ?_) (fun cdv Ar outer s H vs Q E hr h => ?_)
  · obtain ⟨x, rfl, _⟩ := h
    rfl
  · obtain ⟨x, rfl, q⟩ := h
    refine ⟨_, pss_one (ps_ret (pe_and (pe_call (ok_are_names A N bN T) hr (by rfl) A.g A.F.kp bA .nil pass0 (pa_cons (pv 0) pa_nil)) (pe_one (pe_cmpR op_eq (pe_callB call_len_seq (by rfl) T.m_len PySem.boot_len (pa_cons (pv 0) pa_nil)) pe_int (nomark _))))), ?_⟩
    rcases q with ⟨xs, hx, ha, q⟩ | ⟨t, ht, n1, n2, q⟩
    · refine ⟨_, rfl, x, rfl, .inl ⟨xs, hx, ha, fun H1 s1 => ?_⟩⟩
      obtain ⟨p, rfl, hl⟩ := (hx.same s1).len
      refine ⟨_, rfl, ?_⟩
      have q1 := q H1 s1
      cases e : namesV xs with
      | false =>
        rw [e] at q1
        exact q1
      | true =>
        rw [e, Bool.true_and] at q1
        refine ⟨_, rfl, p, xs, rfl, hl, rfl, ?_⟩
        rw [show decide (V.int (xs.length : Int) = V.int 2) = decide (xs.length = 2) by
          rw [Bool.eq_iff_iff, decide_eq_true_iff, decide_eq_true_iff]
          exact ⟨fun h => by have := V.int.inj h; omega, fun h => by rw [h]; rfl⟩]
        exact q1
    · refine ⟨_, rfl, x, rfl, .inr ⟨t, ht, n1, n2, fun H1 s1 => ?_⟩⟩
      exact ⟨_, rfl, q H1 s1⟩
/-- can_do of two names, the first a chooser -/
def spCanDo (K : PySem.W.Frag) (C : Addr) : Sp := fun args H Q _ => ∃ (g a : Addr) (x : V) (c v : Str) (i : Nat) (q : Way) (z : Str) (st : List Str) (N : Addr → Prop) (S : List Way) (γ : List Str → List Int), args = [.ref g, .ref a, x] ∧ IsG K C N H g S γ ∧ SOk S ∧ SeqV K H x [.str c, .str v] ∧ isNm v = true ∧
  S[i]? = some q ∧ q.1 = c ∧ H a = some (.tup (st.map V.str)) ∧ st[i]? = some z ∧ ∀ H', Same H H' → Q (.bl (decide (v ∈ q.2) && !decide (v = z))) H'
abbrev MtCan (K : PySem.W.Frag) (C f : Addr) (fd : FuncData) := Mt K C "can_do" "Game.can_do" s_Game_can_do ["self", "standing", "thing"] f fd
structure GDC (K : PySem.W.Frag) (mg : Str → Option Value) (fCh : Addr) (dCh : FuncData) : Prop where
  ch : Df K mg "is_change" s_is_change fCh dCh
  b : Binds K dCh ["thing"] []
theorem rIx_of {K : PySem.W.Frag} {H : Hp} {p : Addr} {xs : List V} {j : Nat} {v : V} {Q : VK} (h : SqL K H p xs ∨ SqT K H p xs) (e : xs[j]? = some v) (q : Q v H) : rIx K (.ref p) (.int (j : Int)) H Q := by
  rcases h with h | h
  · exact .inl ⟨p, xs, _, v, rfl, rfl, h, atI_nat e, q⟩
  · exact .inr (.inl ⟨p, xs, _, v, rfl, rfl, h, atI_nat e, q⟩)
theorem seq2 {K : PySem.W.Frag} {H : Hp} {x : V} {y z : V} (h : SeqV K H x [y, z]) : ∃ p, x = .ref p ∧ (SqL K H p [y, z] ∨ SqT K H p [y, z]) := h.len
theorem ok_can_do {fCh : Addr} {dCh : FuncData} {f fH fT : Addr} {fd fdH fdT : FuncData} (G : GD K mg fShape fNames fName fSorted fStds fTable fInts fInt fOne fPut dShape dNames dName dSorted dStds dTable dInts dInt dOne dPut) (GH : GDC K mg fCh dCh) (c : GC K C) (M : MtCan K C f fd) (MH : MtHas K C fH fdH) (MT : MtSeat K C fT fdT) :
    FnOk P w K mg base CX0 4 f fd ["self", "standing", "thing"] (spCanDo K C) := by
  have S : FnScope ["self", "standing", "thing", "chooser", "way"] ["self", "standing", "thing"] (defScope s_Game_can_do) := ⟨rfl, rfl, rfl, by decide +kernel, rfl, by decide +kernel, by decide +kernel⟩
  have nd := S.nd
  refine M.F.ok S (fun vs H Q E h => ?_) (fun cdv A outer s H vs Q E hr h => ?_)
  · obtain ⟨g, a, x, ch, v, i, q, z, st, N, S, γ, rfl, _⟩ := h
    rfl
  · obtain ⟨g, a, x, ch, v, i, q, z, st, N, S, γ, rfl, hg, ok, hx, hv, hq, rfl, ha, hz, qq⟩ := h
    have hu := hu_of hr
    refine ⟨_, pss_cons (ps_if (PW.pt (pw_or (pt_not (pt_val (pe_call (ok_is_change GH.ch G.names G.bNames G.name G.bName G.T) hr (by rfl) GH.ch.g GH.ch.F.kp GH.b .nil pass0 (pa_cons (pv 2) pa_nil))))
        (pw_or1 (pt_not (pt_val (pe_meth (pv 0) c.cl MH.me (ok_has_chooser G c MH) (hr.mono (by decide)) MH.b .nil pass0 (pa_cons (pe_ix ix_seq (pv 2) pe_int (fun _ _ => rfl)) pa_nil))))))) (pss_one (ps_ret pe_bl)) pss_nil)
      (pss_cons (ps_asg (pv 2) (pg_seq rfl (pgs_cons (pg_name (i := 3) nd rfl (Or.inl rfl)) (pgs_cons (pg_name (i := 4) nd rfl (Or.inl rfl)) pgs_nil))))
      (pss_one (ps_ret (pe_and (pe_cmpR op_in_seq (pv 4) (pe_dget hu (pe_fld (pv 0) rfl) (pv 3) (fun _ _ => rfl)) (by rfl))
        (pe_one (pe_cmpR op_ne (pv 4) (pe_ix ix_tup (pv 1) (pe_meth (pv 0) c.cl MT.me (ok_seat G.T c MT) (hr.mono (by decide)) MT.b .nil pass0 (pa_cons (pv 3) pa_nil)) (fun _ _ => rfl)) (nomark _))))))), ?_⟩
    have hqm : q ∈ S := List.mem_of_getElem? hq
    have hn : ∀ y ∈ ([q.1, v] : List Str), isNm y = true := fun y hy => by
      rcases List.mem_cons.mp hy with rfl | hy
      · exact ok.nm q hqm
      · rw [List.mem_singleton.mp hy]
        exact hv
    refine ⟨_, rfl, x, rfl, .inl ⟨[.str q.1, .str v], hx, fun _ _ => names_any (xs := [q.1, v]) hn, fun H1 s1 => ?_⟩⟩
    rw [show (namesV [.str q.1, .str v] && decide (([V.str q.1, V.str v] : List V).length = 2)) = true by
      rw [show namesV [.str q.1, .str v] = true from namesV_yes (xs := [q.1, v]) hn (by show 1 ≤ 2; decide) (by show 2 ≤ 4; decide)]
      rfl]
    refine ⟨_, rfl, iteF ?_⟩
    have hg1 := hg.same s1
    obtain ⟨dx, wa, l, ta, vs, kvs, hG⟩ := id hg1
    obtain ⟨p, rfl, hp⟩ := seq2 (hx.same s1)
    have hin : hasCh S (.str q.1) = true := by
      show (isNm q.1 && decide (q.1 ∈ names S)) = true
      have hm : q.1 ∈ names S := List.mem_map.mpr ⟨q, hqm, rfl⟩
      rw [ok.nm q hqm, decide_eq_true hm]
      rfl
    refine ⟨_, rfl, g, dx, _, rfl, hG.hg, rfl, _, rfl, rIx_of (j := 0) (v := .str q.1) hp rfl ⟨g, .str q.1, .str, N, S, γ, rfl, hg1, nm_any (ok.nm q hqm), ?_⟩⟩
    rw [hin]
    refine ⟨_, rfl, iteF ?_⟩
    refine ⟨_, rfl, p, _, rfl, hp, rfl, _, _, rfl, _, _, rfl, rfl, ?_⟩
    obtain ⟨kw, hkw, pkw⟩ := hG.hw
    obtain ⟨b, hb, _, hl⟩ := way_at pkw ok.nd hqm
    have q1 := qq
    refine ⟨_, rfl, _, rfl, g, C, dx, _, _, rfl, hG.hg, c.cl, c.nW, rfl, _, rfl, wa, _, rfl, (by rw [← hb]; exact DGet.k (k := Sum.inr q.1) hkw), b, _, rfl, .inl (SqL.of hl), rfl, flat_strs _, _, rfl, ?_⟩
    rw [if_neg Bool.false_ne_true, inV_strs]
    cases e : decide (v ∈ q.2) with
    | false =>
      rw [e] at q1
      exact q1 H1 s1
    | true =>
      rw [e, Bool.true_and] at q1
      refine ⟨_, rfl, _, rfl, _, rfl, g, dx, _, rfl, hG.hg, rfl, _, rfl, g, q.1, i, N, S, γ, rfl, hg1, ok.nd, (by unfold names; rw [List.getElem?_map, hq]; rfl), fun H2 s2 => ?_⟩
      refine ⟨a, _, _, _, rfl, rfl, SqT.of (s2 _ _ (s1 _ _ ha)), atI_nat (v := .str z) (by rw [List.getElem?_map, hz]; rfl), rfl, ?_⟩
      rw [show decide (V.str v = V.str z) = decide (v = z) by
        rw [Bool.eq_iff_iff, decide_eq_true_iff, decide_eq_true_iff]
        exact ⟨fun h => V.str.inj h, fun h => by rw [h]⟩]
      exact q1 H2 (s1.trans s2)
end
end HG

namespace HG
open PySem PySem.Spec PyProof.Rows L2
open C8 (pss_cut tCut)
section
variable {P : Program} {w : World} {K : PySem.W.Frag} {mg : Str → Option Value} {base : Heap}
variable {fShape fNames fName fSorted fStds fTable fInts fInt fOne fPut : Addr} {dShape dNames dName dSorted dStds dTable dInts dInt dOne dPut : FuncData}
variable {C fCh : Addr} {dCh : FuncData}
/-- a change that can be done -/
structure Doable (K : PySem.W.Frag) (C : Addr) (H : Hp) (g a : Addr) (x : V) (v : Str) (i : Nat) (q : Way) (z : Str) (st : List Str) (N : Addr → Prop) (S : List Way) (γ : List Str → List Int) : Prop where
  hg : IsG K C N H g S γ
  ok : SOk S
  hx : SeqV K H x [.str q.1, .str v]
  hq : S[i]? = some q
  hv : v ∈ q.2
  ha : H a = some (.tup (st.map V.str))
  hst : st ∈ stds S
  hz : st[i]? = some z
  ne : v ≠ z
theorem Doable.same {K : PySem.W.Frag} {C : Addr} {H H' : Hp} {g a : Addr} {x : V} {v : Str} {i : Nat} {q : Way} {z : Str} {st : List Str} {N : Addr → Prop} {S : List Way} {γ : List Str → List Int} (D : Doable K C H g a x v i q z st N S γ) (s : Same H H') : Doable K C H' g a x v i q z st N S γ :=
  ⟨D.hg.same s, D.ok, D.hx.same s, D.hq, D.hv, s _ _ D.ha, D.hst, D.hz, D.ne⟩
def spGoal (K : PySem.W.Frag) (C : Addr) : Sp := fun args H Q _ => ∃ (g a : Addr) (x : V) (v : Str) (i : Nat) (q : Way) (z : Str) (st : List Str) (N : Addr → Prop) (S : List Way) (γ : List Str → List Int), args = [.ref g, .ref a, x] ∧ Doable K C H g a x v i q z st N S γ ∧
  ∀ H' p, Same H H' → H' p = some (.tup ((st.set i v).map V.str)) → Q (.ref p) H'
def spOwn (K : PySem.W.Frag) (C : Addr) : Sp := fun args H Q _ => ∃ (g a : Addr) (x : V) (v : Str) (i : Nat) (q : Way) (z : Str) (st : List Str) (N : Addr → Prop) (S : List Way) (γ : List Str → List Int) (m n : Int), args = [.ref g, .ref a, x] ∧ Doable K C H g a x v i q z st N S γ ∧
  (γ (st.set i v))[i]? = some m ∧ (γ st)[i]? = some n ∧ ∀ H', Same H H' → Q (.int (m - n)) H'
abbrev MtGoal (K : PySem.W.Frag) (C f : Addr) (fd : FuncData) := Mt K C "goal" "Game.goal" s_Game_goal ["self", "standing", "change"] f fd
end
end HG

namespace HG
open PySem PySem.Spec PyProof.Rows L2
open C8 (pss_cut tCut)
/-! ### changes -/
abbrev Ch := Str × Str
def ChAt (H : Hp) (c : Ch) (v : V) : Prop := ∃ a, v = .ref a ∧ H a = some (.tup [.str c.1, .str c.2])
def chs (S : List Way) : List Ch := S.flatMap fun q => q.2.map fun v => (q.1, v)
def mayDo (S : List Way) (st : List Str) (c : Ch) : Bool := !decide (c ∈ (names S).zip st)
def due (S : List Way) (st : List Str) : List Ch := (chs S).filter (mayDo S st)
theorem ChAt.same {H H' : Hp} {c : Ch} {v : V} (h : ChAt H c v) (s : Same H H') : ChAt H' c v := let ⟨a, e, h⟩ := h; ⟨a, e, s _ _ h⟩
theorem chs_more {S : List Way} {i : Nat} {q : Way} (h : S[i]? = some q) : chs (S.take (i + 1)) = chs (S.take i) ++ q.2.map fun v => (q.1, v) := by
  unfold chs
  rw [List.take_add_one, h, List.flatMap_append]
  simp
theorem chs_len {S : List Way} (h : ∀ q ∈ S, q.2.length ≤ 4) : (chs S).length ≤ S.length * 4 := by
  unfold chs
  induction S with
  | nil => simp
  | cons a r ih =>
    rw [List.flatMap_cons, List.length_append, List.length_map, List.length_cons, Nat.succ_mul]
    have := ih fun q hq => h q (List.mem_cons_of_mem _ hq)
    have := h a List.mem_cons_self
    omega
theorem mem_chs {S : List Way} {c : Ch} : c ∈ chs S ↔ ∃ q ∈ S, q.1 = c.1 ∧ c.2 ∈ q.2 := by
  unfold chs
  rw [List.mem_flatMap]
  constructor
  · rintro ⟨q, hq, hc⟩
    obtain ⟨v, hv, rfl⟩ := List.mem_map.mp hc
    exact ⟨q, hq, rfl, hv⟩
  · rintro ⟨q, hq, e, hc⟩
    exact ⟨q, hq, List.mem_map.mpr ⟨c.2, hc, by rw [e]⟩⟩
theorem mayDo_at {S : List Way} {st : List Str} {i : Nat} {q : Way} {z v : Str} (nd : (names S).Nodup) (hq : S[i]? = some q) (hz : st[i]? = some z) : mayDo S st (q.1, v) = !decide (v = z) := by
  unfold mayDo
  congr 1
  rw [Bool.eq_iff_iff, decide_eq_true_iff, decide_eq_true_iff]
  have hn : (names S)[i]? = some q.1 := by
    unfold names
    rw [List.getElem?_map, hq]
    rfl
  constructor
  · intro h
    obtain ⟨j, hj⟩ := List.mem_iff_getElem?.mp h
    rw [List.getElem?_zip_eq_some] at hj
    obtain ⟨h1, e1⟩ := List.getElem?_eq_some_iff.mp hn
    obtain ⟨h2, e2⟩ := List.getElem?_eq_some_iff.mp hj.1
    have : i = j := (List.getElem_inj nd).mp (e1.trans e2.symm)
    subst this
    exact Option.some.inj (hj.2.symm.trans hz)
  · rintro rfl
    exact List.mem_iff_getElem?.mpr ⟨i, List.getElem?_zip_eq_some.mpr ⟨hn, hz⟩⟩
section
variable {P : Program} {w : World} {K : PySem.W.Frag} {mg : Str → Option Value} {base : Heap}
variable {fShape fNames fName fSorted fStds fTable fInts fInt fOne fPut : Addr} {dShape dNames dName dSorted dStds dTable dInts dInt dOne dPut : FuncData}
variable {C fCh : Addr} {dCh : FuncData}
def spChanges (K : PySem.W.Frag) (C : Addr) : Sp := fun args H Q _ => ∃ (g a : Addr) (st : List Str) (N : Addr → Prop) (S : List Way) (γ : List Str → List Int), args = [.ref g, .ref a] ∧ IsG K C N H g S γ ∧ SOk S ∧ H a = some (.tup (st.map V.str)) ∧ st ∈ stds S ∧
  ∀ H' p es, Same H H' → H p = none → H' p = some (.lst es) → Paired (ChAt H') (due S st) es → Q (.ref p) H'
theorem ok_changes {f fS fI fC fH fT : Addr} {fd fdS fdI fdC fdH fdT : FuncData} (G : GD K mg fShape fNames fName fSorted fStds fTable fInts fInt fOne fPut dShape dNames dName dSorted dStds dTable dInts dInt dOne dPut) (GH : GDC K mg fCh dCh) (c : GC K C) (M : Mt K C "changes" "Game.changes" s_Game_changes ["self", "standing"] f fd) (MS : MtStand K C fS fdS) (MI : MtIn K C fI fdI)
    (MC : MtCan K C fC fdC) (MH : MtHas K C fH fdH) (MT : MtSeat K C fT fdT) : FnOk P w K mg base CX0 5 f fd ["self", "standing"] (spChanges K C) := by
  have S : FnScope ["self", "standing", "every", "chooser", "way", "change"] ["self", "standing"] (defScope s_Game_changes) := ⟨rfl, rfl, rfl, by decide +kernel, rfl, by decide +kernel, by decide +kernel⟩
  have nd := S.nd
  refine M.F.ok S (fun vs H Q E h => ?_) (fun cdv A outer s H vs Q E hr h => ?_)
  · obtain ⟨g, a, st, N, S, γ, rfl, _⟩ := h
    rfl
  · obtain ⟨g, a, st, N, S, γ, rfl, hg, ok, ha, hst, q⟩ := h
    have hu := hu_of hr
    refine ⟨_, pss_cons (ps_expr (pe_meth (pv 0) c.cl MS.me (ok_check_standing G c MS MI) hr MS.b .nil pass0 (pa_cons (pv 1) pa_nil)))
      (pss_cons (ps_lock (ps_setLc2 (i := 2) (own := [("chooser", 3), ("way", 4)]) (vs1 := [4]) (g := gName 3) (g1 := gName 4) (tt := tYes) (tt1 := tYes) (wi1 := iList K (tDGet (tFld K (tVar 0) "way_lists") (tVar 3))) rfl nd rfl rfl (sw_true rfl rfl rfl (by decide +kernel)) (pi_keys (pe_fld (pv 0) rfl))
          (blkOk_by (N := ["self", "standing", "every", "chooser", "way", "change"]) (sc := defScope s_Game_changes) (by decide +kernel)) (by decide)
          (fun _ _ _ _ _ => pg_name (i := 3) nd rfl (Or.inl rfl)) (fun _ _ _ _ _ => pts_nil) (fun _ _ _ _ _ => pi_list (pe_dget hu (pe_fld (pv 0) rfl) (pv 3) (fun _ _ => rfl))) (fun _ _ _ _ _ => pg_name (i := 4) nd rfl (Or.inl rfl)) (fun _ _ _ _ _ => pts_nil)
          (fun _ _ _ _ _ => pe_tup (pa_cons (pv 3) (pa_cons (pv 4) pa_nil)))))
      (pss_one (ps_ret (pe_lc (own := [("change", 5)]) (g := gName 5) rfl nd (pi_list (pv 2)) (blkOk_by (N := ["self", "standing", "every", "chooser", "way", "change"]) (sc := defScope s_Game_changes) (by decide +kernel)) (fun _ _ _ _ _ => pg_name (i := 5) nd rfl (Or.inl rfl))
        (fun _ _ _ _ _ => pts_one (pt_val (pe_meth (pv 0) c.cl MC.me (ok_can_do G GH c MC MH MT) hr MC.b .nil pass0 (pa_cons (pv 1) (pa_cons (pv 5) pa_nil))))) (fun _ _ _ _ _ => pv 5))))), ?_⟩
    obtain ⟨dx, wa, l, ta, vs, kvs, hG⟩ := id hg
    refine ⟨_, rfl, g, dx, _, rfl, hG.hg, rfl, _, rfl, g, a, st, N, S, γ, rfl, hg, ok, ha, hst, fun H1 s1 => ?_⟩
    have hG1 := hG.same s1
    obtain ⟨kw, hkw, pkw⟩ := hG1.hw
    have hlen : S.length = kw.length := Paired.length pkw
    refine ⟨wa, .dK kw, hkw, trivial, fun od => ?_⟩
    generalize hHL : upd H1 wa (.frz od (.dK kw)) = HL
    have hLw : HL wa = some (.frz od (.dK kw)) := by rw [← hHL]; exact upd_same
    have hLo : ∀ {b : Addr} {o : HO}, H1 b = some o → (∀ k, o ≠ .dK k) → HL b = some o := fun {b o} e hn => by
      rw [← hHL, upd_ne (fun z => by subst z; rw [hkw] at e; exact hn _ (Option.some.inj e).symm)]
      exact e
    have hLg : HL g = some (.ins C dx [("way_lists", .ref wa), ("standing_list", .ref l), ("gain_table", .ref ta)]) := hLo hG1.hg (by intro _ z; cases z)
    refine ⟨_, rfl, g, C, dx, _, _, rfl, hLg, c.cl, c.nW, rfl, wa, od, rfl, .inl ⟨kw, hLw, fun D nD => ?_⟩⟩
    have sD := same_upd (o := .lst []) nD
    refine walk_run walk_keys (fun i H3 => ∃ ws, H3 D = some (.lst ws) ∧ Paired (ChAt H3) (chs (S.take i)) ws ∧ Same HL H3) ⟨[], upd_same, .nil, sD⟩ (fun i H3 _ ⟨_, _, _, s3⟩ => s3 _ _ hLw) ?_ ?_
    · rintro i x H2 H3 hi ⟨ws, hD, hws, s3⟩ ⟨rfl, k, v0, hk, rfl⟩
      obtain ⟨qw, hqw, ek, b, eb, nb, hb⟩ := paired_get pkw hk
      cases ek
      cases eb
      have hqm : qw ∈ S := List.mem_of_getElem? hqw
      obtain ⟨b', hb', _, hl'⟩ := way_at pkw ok.nd hqm
      have hb3 := s3 _ _ (hLo hl' (by intro _ z; cases z))
      refine ⟨rfl, _, rfl, g, C, dx, _, _, rfl, s3 _ _ hLg, c.cl, c.nW, rfl, _, rfl, wa, _, rfl, (by rw [← hb']; exact .inl ⟨kw, Sum.inr qw.1, .inr ⟨od, s3 _ _ hLw⟩, rfl, rfl⟩), b', rfl, ⟨_, SqL.of hb3⟩, walk_run (walk_list (K := K) (a := b') (xs := qw.2.map V.str)) (fun k H4 => ∃ ws, H4 D = some (.lst ws) ∧ Paired (ChAt H4) (chs (S.take i) ++ (qw.2.take k).map fun v => (qw.1, v)) ws ∧ Same HL H4) ⟨ws, hD, by simpa using hws, s3⟩ (fun k H4 _ ⟨_, _, _, s4⟩ => SqL.of (s4 _ _ (hLo hl' (by intro _ z; cases z)))) ?_ ?_⟩
      · rintro k x H4 H4' hk4 ⟨ws4, hD4, ht4, s4⟩ ⟨rfl, hx4⟩
        rw [List.length_map] at hk4
        have ex : x = .str (qw.2[k]) := by
          rw [List.getElem?_map, List.getElem?_eq_getElem hk4] at hx4
          exact (Option.some.inj hx4).symm
        subst ex
        refine ⟨rfl, _, rfl, _, rfl, (by show 2 ≤ sizeLine; decide), fun p5 n5 => ?_⟩
        have s5 := same_upd (o := .tup [V.str qw.1, V.str (qw.2[k])]) n5
        have hD5 := s5 _ _ hD4
        have hbound : ws4.length < 1000 := by
          rw [← Paired.length ht4, List.length_append, List.length_map, List.length_take]
          have h1 := chs_len (S := S.take i) fun q hq => ok.w4 q (List.mem_of_mem_take hq)
          have h2 := ok.w4 qw hqm
          have h3 := ok.n4
          rw [List.length_take] at h1
          omega
        refine ⟨ws4, hD5, small1000 (Nat.le_of_lt hbound), _, upd_same, ?_, fun b o e => ?_⟩
        · rw [List.take_add_one, List.getElem?_eq_getElem hk4, List.map_append, ← List.append_assoc]
          have up : ∀ (c : Ch) (v : V), ChAt (upd H4' p5 (.tup [V.str qw.1, V.str (qw.2[k])])) c v → ChAt (upd (upd H4' p5 (.tup [V.str qw.1, V.str (qw.2[k])])) D (.lst (ws4 ++ [.ref p5]))) c v := fun c v ⟨a, e, h⟩ => ⟨a, e, by
            rw [upd_ne (ne_of h hD5 (by intro z; cases z))]
            exact h⟩
          exact paired_append (paired_imp ht4 fun c v h => up c v (h.same s5)) (.cons (up _ _ ⟨p5, rfl, upd_same⟩) .nil)
        · rw [upd_ne (ne_of_none e nD)]
          exact s5 _ _ (s4 _ _ e)
      · rintro H4 ⟨ws4, hD4, ht4, s4⟩
        rw [List.length_map, List.take_length] at ht4
        exact ⟨ws4, hD4, by rw [chs_more hqw]; exact ht4, s4⟩
    · rintro H3 ⟨ws, hD, hws, s3⟩
      rw [← hlen, List.take_length] at hws
      have h3w := s3 _ _ hLw
      refine ⟨h3w, ?_⟩
      have s5 : Same H1 (upd H3 wa (.dK kw)) := by
        rw [← hHL] at s3
        exact unlock hkw s3
      have keep : ∀ {b : Addr} {o : HO}, H3 b = some o → (∀ od k, o ≠ .frz od k) → (upd H3 wa (.dK kw)) b = some o := fun {b o} e hn => by
        rw [upd_ne (fun z => by subst z; rw [h3w] at e; exact hn _ _ (Option.some.inj e).symm)]
        exact e
      have nD' : H1 D = none := by
        rw [← hHL] at nD
        have hne : D ≠ wa := fun z => by subst z; rw [upd_same] at nD; cases nD
        rwa [upd_ne hne] at nD
      generalize hH5 : upd H3 wa (.dK kw) = H5 at s5 keep
      have hD5 : H5 D = some (.lst ws) := keep hD (by intro _ _ z; cases z)
      have hws5 : Paired (ChAt H5) (chs S) ws := paired_imp hws fun _ _ ⟨a, e, h⟩ => ⟨a, e, keep h (by intro _ _ z; cases z)⟩
      have hcl : (chs S).length = ws.length := Paired.length hws5
      refine ⟨_, rfl, D, rfl, ⟨_, SqL.of hD5⟩, fun E nE => ?_⟩
      have sE := same_upd (o := .lst []) nE
      refine lc_it (walk_list (K := K) (a := D) (xs := ws)) (fun i H6 => ∃ es, H6 E = some (.lst es) ∧ Paired (ChAt H6) (((chs S).take i).filter (mayDo S st)) es ∧ Same H5 H6) ⟨[], upd_same, .nil, sE⟩ (fun i H6 _ ⟨_, _, _, s6⟩ => SqL.of (s6 _ _ hD5)) ?_ ?_
      · rintro i x H6 H7 hi ⟨es, hE, hes, s6⟩ ⟨rfl, hx⟩
        obtain ⟨ch, hch, b, rfl, hb⟩ := paired_get hws5 hx
        obtain ⟨qw, hqm, e1, hv⟩ := mem_chs.mp (List.mem_of_getElem? hch)
        obtain ⟨j, hj⟩ := List.mem_iff_getElem?.mp hqm
        have hjl : j < st.length := by
          rw [stds_mem hst]
          exact (List.getElem?_eq_some_iff.mp hj).1
        have hz : st[j]? = some st[j] := List.getElem?_eq_getElem hjl
        have s16 := s1.trans (s5.trans s6)
        have hb7 := s6 _ _ hb
        refine ⟨rfl, _, rfl, g, dx, _, rfl, (hG.same s16).hg, rfl, _, rfl, _, rfl, g, a, .ref b, ch.1, ch.2, j, qw, _, st, N, S, γ, rfl, hg.same s16, ok, .tup (SqT.of hb7) (AnyV.tup hb7), ok.wn qw hqm _ hv, hj, e1, s16 _ _ ha, hz, fun H8 s8 => ⟨_, rfl, ?_⟩⟩
        have em : (decide (ch.2 ∈ qw.2) && !decide (ch.2 = st[j])) = mayDo S st ch := by
          rw [decide_eq_true hv, Bool.true_and, ← mayDo_at ok.nd hj hz, e1]
        rw [em]
        have hE8 := s8 _ _ hE
        have hes8 := paired_imp hes fun c v (h : ChAt H7 c v) => h.same s8
        cases e : mayDo S st ch with
        | false =>
          refine iteF ⟨es, hE8, ?_, s6.trans s8⟩
          rw [List.take_add_one, hch, List.filter_append]
          rw [show List.filter (mayDo S st) (some ch).toList = [] by show List.filter _ [ch] = []; rw [List.filter_cons, e]; rfl, List.append_nil]
          exact hes8
        | true =>
          have hlen8 : es.length ≤ ws.length := by
            rw [← Paired.length hes8, ← hcl]
            exact Nat.le_trans (List.length_filter_le _ _) (by rw [List.length_take]; exact Nat.min_le_right _ _)
          have hw16 : ws.length ≤ 16 := by
            rw [← hcl]
            have h1 := chs_len ok.w4
            have h3 := ok.n4
            omega
          refine iteT ⟨_, rfl, es, hE8, small1000 (by omega), _, upd_same, ?_, fun b o e => ?_⟩
          · rw [List.take_add_one, hch, List.filter_append]
            rw [show List.filter (mayDo S st) (some ch).toList = [ch] by show List.filter _ [ch] = [ch]; rw [List.filter_cons, e]; rfl]
            have up : ∀ (c : Ch) (v : V), ChAt H8 c v → ChAt (upd H8 E (.lst (es ++ [.ref b]))) c v := fun c v ⟨a, e, h⟩ => ⟨a, e, by
              rw [upd_ne (ne_of h hE8 (by intro z; cases z))]
              exact h⟩
            exact paired_append (paired_imp hes8 up) (.cons (up _ _ ⟨b, rfl, s8 _ _ hb7⟩) .nil)
          · rw [upd_ne (ne_of_none e nE)]
            exact s8 _ _ (s6 _ _ e)
      · rintro H6 ⟨es, hE, hes, s6⟩
        rw [← hcl, List.take_length] at hes
        refine q H6 E es (s1.trans (s5.trans s6)) ?_ hE hes
        exact (s1.trans s5).free nE
end
end HG

namespace HG
open PySem PySem.Spec PyProof.Rows L2
/-! ### list(o), o's own __iter__ tells a list's iterator, o has a __len__ of its own -/
section
variable {X : Cx} {pins : List (Addr × Obj)} {σ : L2.St} {H : Hp} {s : Shared} {it l q a : Addr} {i : Nat} {xs : List V} {A A1 : Around}
theorem pynext_item {v : V} {Q : Option Value → Shared → Prop} {E : Value → Shared → Prop} (I : Inv X pins σ H s) (ei : H it = some (ItO l it i)) (el : SqL X.K H l xs) (hv : xs[i]? = some v)
    (h : ∀ u s', RelV v u → Inv X pins σ (upd H it (ItO l it (i + 1))) s' → Q (some u) s') : wpAny (model X.prog X.w) A (pyNext (.ref it)) Q E s := by
  obtain ⟨its, rv, pl, hz⟩ := I.list el
  have hx := itO_get I ei
  have hT : s.TypeIs (.ref it) "list_iterator" := ⟨_, hx, rfl⟩
  have mu : Mut (H it) := by rw [ei]; exact True.intro
  obtain ⟨w', hw, rw'⟩ := rv.get hv
  unfold pyNext
  refine wpAny_bind (wpAny_attempt (wpAny_callSpecial?_slot (name := Str.ofString "__next__") hT slot_listiter_next (wpAny_call_entry slot_listiter_next hT entry_listiter_next ?_ (args_listiter_next _))))
  refine wpAny_mono (GNX.next_item (E := fun _ _ => False) (Q := fun v s2 => Q (some v) s2) hx pl.isList (by rw [List.getElem?_toArray]; exact hw) fun h' e' sb => h w' { s with heap := h' } rw' (I.write (x := it) (e := it) (t' := s.toks) mu (.inl rfl) (fun b o nb z => (sb.2 b nb).trans z) ⟨_, e'⟩ (itO_ok e'))) (fun fin s' hq => ?_) fun _ _ z => z.elim
  obtain ⟨v, e, hq⟩ := hq
  exact ⟨v, e, wpAny_pure hq⟩
theorem pynext_end {Q : Option Value → Shared → Prop} {E : Value → Shared → Prop} (hh : A.handled = none) (I : Inv X pins σ H s) (ei : H it = some (ItO l it i)) (el : SqL X.K H l xs) (hn : xs[i]? = none)
    (h : ∀ s', Inv X pins σ (upd H it (ItE it i)) s' → Q none s') : wpAny (model X.prog X.w) A (pyNext (.ref it)) Q E s := by
  obtain ⟨its, rv, pl, hz⟩ := I.list el
  have hx := itO_get I ei
  have hT : s.TypeIs (.ref it) "list_iterator" := ⟨_, hx, rfl⟩
  have mu : Mut (H it) := by rw [ei]; exact True.intro
  unfold pyNext
  refine wpAny_bind (wpAny_attempt (wpAny_callSpecial?_slot (name := Str.ofString "__next__") hT slot_listiter_next (wpAny_call_entry slot_listiter_next hT entry_listiter_next ?_ (args_listiter_next _))))
  refine wpAny_mono (GNX.next_end (A := A) (Q := fun _ _ => False) hh hx pl.isList (by rw [List.getElem?_toArray]; exact rv.none_of hn) fun h1 h' e vs e1 sb k ne he hv => ?_) (fun fin s' hq => ?_) fun _ _ z => z
  · refine wpAny_bind (wpAny_isInstance (T := "StopIteration") (b := true) ⟨_, he, rfl⟩ isSubtype_stop (wpAny_pure (h { s with heap := h' } ?_)))
    have I2 : Inv X pins σ (upd H it (ItE it i)) { s with heap := h1 } := I.write (x := it) (e := it) (t' := s.toks) mu (.inl rfl) (fun b o nb z => (sb.2 b nb).trans z) ⟨_, e1⟩ (itE_ok e1)
    exact I2.kept (t' := s.toks) k
  · obtain ⟨v, e, hq⟩ := hq
    exact hq.elim
theorem loop_it {Rs : Result → Shared → Prop} (hh : A1.in1.handled = none) : ∀ (m i : Nat) (acc : List V) (H : Hp) (s : Shared), Inv X pins σ H s → m + i = xs.length → H it = some (ItO l it i) → H l = some (.lst xs) → l ≠ q → H q = some (.lst acc) → acc.length + m < sizeLine →
    (∀ H' s', Inv X pins σ H' s' → H' q = some (.lst (acc ++ xs.drop i)) → (∀ b o, b ≠ q → b ≠ it → H b = some o → H' b = some o) → Rs (.ok (.ret .none)) s') →
    codeAny (model X.prog X.w) A1 (.builtin "list.extend.loop" ⟨[.ref q, .ref it, .none], []⟩) Rs s := by
  intro m
  induction m with
  | zero =>
    intro i acc H s I hm hi hl hlq hq hz fin
    refine codeAny_builtin PySem.F.entry_extend_loop ?_
    rw [Around.under_plainId PySem.F.plain_extend_loop _]
    show wpAny _ A1.in1 (pyNext (.ref it) >>= _) _ _ s
    have hqi : q ≠ it := ne_of hq hi (fun z => by cases z)
    refine wpAny_bind (pynext_end hh I hi (SqL.of hl) (by rw [List.getElem?_eq_none]; omega) fun s' I' => ?_)
    refine wpAny_pure (fin _ s' I' ?_ fun b o h1 h2 e => by rw [upd_ne h2]; exact e)
    rw [upd_ne hqi, List.drop_eq_nil_of_le (by omega), List.append_nil]
    exact hq
  | succ m ih =>
    intro i acc H s I hm hi hl hlq hq hz fin
    refine codeAny_builtin PySem.F.entry_extend_loop ?_
    rw [Around.under_plainId PySem.F.plain_extend_loop _]
    show wpAny _ A1.in1 (pyNext (.ref it) >>= _) _ _ s
    have hqi : q ≠ it := ne_of hq hi (fun z => by cases z)
    have hli : l ≠ it := ne_of hl hi (fun z => by cases z)
    have hlt : i < xs.length := by omega
    refine wpAny_bind (pynext_item I hi (SqL.of hl) (List.getElem?_eq_getElem hlt) fun u s' ru I' => ?_)
    show wpAny _ A1.in1 (updateSeq q (·.push u) >>= _) _ _ _
    have hq' : (upd H it (ItO l it (i + 1))) q = some (.lst acc) := by rw [upd_ne hqi]; exact hq
    obtain ⟨z, its, k, r2, hle, e⟩ := I'.lstM hq'
    refine wpAny_bind (wpAny_updateSeq e rfl (wpAny_pure ⟨plainId_quiet PySem.F.plain_extend_loop _, ?_⟩) (by rw [List.size_toArray]; omega) (by show (its.toArray.push u).size ≤ sizeLine + 1; rw [Array.size_push, List.size_toArray]; omega))
    refine ih (i + 1) (acc ++ [xs[i]]) _ _ (I'.lset (its' := its ++ [u]) (t' := s'.toks) hq' e (by simp) (r2.append (.cons ru .nil)) (by rw [List.length_append, List.length_singleton]; omega)) (by omega) ?_ ?_ hlq upd_same (by rw [List.length_append, List.length_singleton]; omega) fun H' s2 I2 h2 hk => fin H' s2 I2 ?_ fun b o h1 h3 e => hk b o h1 h3 ?_
    · rw [upd_ne (fun z => hqi z.symm), upd_same]
    · rw [upd_ne hlq, upd_ne hli]
      exact hl
    · rw [h2, List.append_assoc, List.drop_eq_getElem_cons hlt]
      rfl
    · rw [upd_ne h1, upd_ne h3]
      exact e
end
section
variable {X : Cx} {C fI fL : Addr} {fdI fdL : FuncData} {psI psL : List Str} {n : Nat} {spI spL : Sp} {EI EL : XK}
def rListOwn (C : Addr) (spI spL : Sp) (EI EL : XK) : List V → Hp → VK → Prop := fun vs H Q => ∃ a dx fs, vs = [.ref a] ∧ H a = some (.ins C dx fs) ∧ ∀ q, H q = none → spI [.ref a] (upd H q (.lst [])) (fun v H1 => ∃ it l zs dx' fs', v = .ref it ∧ H1 it = some (ItO l it 0) ∧ H1 l = some (.lst zs) ∧ zs.length ≤ 1000 ∧
  H1 q = some (.lst []) ∧ l ≠ q ∧ H1 a = some (.ins C dx' fs') ∧ spL [.ref a] H1 (fun w H2 => H2 = H1 ∧ ∃ k : Nat, w = .int (k : Int) ∧ k ≤ 1000) EL ∧ ∀ H3, H3 q = some (.lst zs) → (∀ b o, b ≠ q → b ≠ it → H1 b = some o → H3 b = some o) → Q (.ref q) H3) EI
theorem hint_own {pins : List (Addr × Obj)} {σ : L2.St} {H : Hp} {s : Shared} {a dx : Addr} {fs : List (Str × V)} {A : Around} {Q : Bool → Shared → Prop} {E : Value → Shared → Prop} (sb : Sub X n A.in1) (hl : PySem.W.findIn X.K (.ref C) "__len__" = some (some (.ref fL))) (hlF : PySem.W.isFn X.K (.ref fL) = true)
    (FL : FnOk X.prog X.w X.K X.mg X.base CX0 n fL fdL psL spL) (bL : Binds X.K fdL psL []) (I : Inv X pins σ H s) (ha : H a = some (.ins C dx fs)) (hsp : spL [.ref a] H (fun w H2 => H2 = H ∧ ∃ k : Nat, w = .int (k : Int) ∧ k ≤ 1000) EL)
    (h : ∀ b s', Inv X pins σ H s' → Q b s') : wpAny (model X.prog X.w) A (Builtin.List.listLengthHint (.ref a)) Q E s := by
  obtain ⟨mA, J, _⟩ := ins_get I.hok ha
  obtain ⟨od, J, _⟩ := J.look
  obtain ⟨m0, hF⟩ := I.fr
  unfold Builtin.List.listLengthHint
  refine wpAny_bind (wpAny_bind (J.type.here ((PySem.W.looks_findIn I.kIn hl).here ?_)))
  refine PySem.W.KFB.if_not rfl ?_
  refine PySem.W.KFB.if_so rfl ?_
  refine wpAny_bind (wpAny_rule ?_)
  refine wpAny_bind (wpAny_attempt ?_)
  have e0 : Env0 X.prog X.w X.K X.mg X.base A.in1 X.stack s H := by
    have e := I.env0
    exact ⟨by rw [sb.fr]; exact e.frames, e.mod, e.bs, e.bsz, e.funs, e.frf, e.hok, e.bare⟩
  have hln := FL.len _ _ _ _ hsp
  refine PySem.W.len_K hF I.ok.mod.kin J hl hlF (wpAny_call (codeAny_mono (FL.run A.in1 X.stack s H ⟨[.ref a], []⟩ [.ref a] [.ref a] _ EL sb.room e0 (by
    have := bL s [.ref a] I.kIn (by simpa using hln)
    simpa using this) (.cons rfl .nil) hsp) fun r s' hq => ?_))
  cases r with
  | error e => exact False.elim hq
  | ok fl =>
    cases fl with
    | next => exact False.elim hq
    | brk => exact False.elim hq
    | cont => exact False.elim hq
    | ret u =>
      obtain ⟨z, H', I', rz, rfl, k, rfl, hk⟩ := I.after hq
      obtain ⟨t, rfl⟩ := (show ∃ t, u = Value.int k t from rz)
      have := line63
      have h1000 : 1000 ≤ sizeLine := by rw [sizeLine_eq]; decide
      refine ⟨⟨by omega, by omega⟩, ?_⟩
      refine wpAny_bind (wpAny_pure ?_)
      refine PySem.W.KFB.if_not (by unfold Builtin.List.listTooLong; rw [Int.toNat_natCast]; exact decide_eq_false (by omega)) ?_
      exact wpAny_pure (h _ _ (I'.tok _))
def AfterIter (C : Addr) (spL : Sp) (EL : XK) (a q : Addr) (R : Hp → Prop) : VK := fun v H1 => ∃ it l zs dx' fs', v = .ref it ∧ H1 it = some (ItO l it 0) ∧ H1 l = some (.lst zs) ∧ zs.length ≤ 1000 ∧
  H1 q = some (.lst []) ∧ l ≠ q ∧ H1 a = some (.ins C dx' fs') ∧ spL [.ref a] H1 (fun w H2 => H2 = H1 ∧ ∃ k : Nat, w = .int (k : Int) ∧ k ≤ 1000) EL ∧ ∀ H3, H3 q = some (.lst zs) → (∀ b o, b ≠ q → b ≠ it → H1 b = some o → H3 b = some o) → R H3
theorem extend_own {pins : List (Addr × Obj)} {σ : L2.St} {H : Hp} {s : Shared} {a q dx : Addr} {fs : List (Str × V)} {A1 : Around} {R : Hp → Prop} {Rs : Result → Shared → Prop} (sb : Sub X (n + 1) A1.in1) (hh : A1.in1.handled = none)
    (hi : PySem.W.findIn X.K (.ref C) "__iter__" = some (some (.ref fI))) (hiF : PySem.W.isFn X.K (.ref fI) = true) (hl : PySem.W.findIn X.K (.ref C) "__len__" = some (some (.ref fL))) (hlF : PySem.W.isFn X.K (.ref fL) = true)
    (FI : FnOk X.prog X.w X.K X.mg X.base CX0 n fI fdI psI spI) (bI : Binds X.K fdI psI []) (FL : FnOk X.prog X.w X.K X.mg X.base CX0 n fL fdL psL spL) (bL : Binds X.K fdL psL [])
    (I : Inv X pins σ H s) (ha : H a = some (.ins C dx fs)) (hq : H q = some (.lst [])) (hsp : spI [.ref a] H (AfterIter C spL EL a q R) EI) (hdone : ∀ H' s', Inv X pins σ H' s' → R H' → Rs (.ok (.ret .none)) s') :
    wpAny (model X.prog X.w) A1.in1 (Builtin.List.listExtendWith (.ref q) (.ref a) .none)
      (fun fin s' => match fin with | .done f => Rs (.ok f) s' | .again c' => c'.quiet = true ∧ codeAny (model X.prog X.w) A1 c' Rs s') (fun e s' => Rs (.error e) s') s := by
  have hne : q ≠ a := ne_of hq ha (fun z => nomatch z)
  obtain ⟨mA, J, _⟩ := ins_get I.hok ha
  obtain ⟨od, J, _⟩ := J.look
  obtain ⟨m0, hF⟩ := I.fr
  unfold Builtin.List.listExtendWith
  refine wpAny_bind (J.type.here ?_)
  have h1 : Builtin.List.listSameRef (.ref q) (.ref a) = false := by simp [Builtin.List.listSameRef, hne]
  have h2 : (Value.ref C == Value.type "list") = false := rfl
  have h3 : (Value.ref C == Value.type "tuple") = false := rfl
  simp only [h1, h2, h3, Bool.or_false, Bool.false_eq_true, if_false]
  refine wpAny_bind (PySem.W.owit_iter hF I.ok.mod.kin J hi hiF ?_)
  have e0 : Env0 X.prog X.w X.K X.mg X.base A1.in1 X.stack s H := by
    have e := I.env0
    exact ⟨by rw [sb.fr]; exact e.frames, e.mod, e.bs, e.bsz, e.funs, e.frf, e.hok, e.bare⟩
  have hln := FI.len _ _ _ _ hsp
  refine wpAny_call (codeAny_mono (FI.run A1.in1 X.stack s H ⟨[.ref a], []⟩ [.ref a] [.ref a] _ EI (sb.mono (Nat.le_succ n)).room e0 (by
    have := bI s [.ref a] I.kIn (by simpa using hln)
    simpa using this) (.cons rfl .nil) hsp) fun r s' hr => ?_)
  cases r with
  | error e => exact False.elim hr
  | ok fl =>
    cases fl with
    | next => exact False.elim hr
    | brk => exact False.elim hr
    | cont => exact False.elim hr
    | ret u =>
      obtain ⟨v, H1, I1, rv, it, l, zs, dx', fs', rfl, hit, hl1, hz, hq1, hlq, ha1, hlen, fin⟩ := I.after hr
      cases (show u = Value.ref it from rv)
      have hT : s'.TypeIs (.ref it) "list_iterator" := ⟨_, itO_get I1 hit, rfl⟩
      show wpAny _ _ _ _ _ _
      refine wpAny_specialOf (name := Str.ofString "__next__") hT slot_listiter_next.lookup ?_
      refine wpAny_bind (wpAny_holding (hint_own (sb.in1) hl hlF FL bL I1 ha1 hlen fun room s2 I2 => ?_))
      have last : ∀ (s3 : Shared), Inv X pins σ H1 s3 → codeAny (model X.prog X.w) A1 (.builtin "list.extend.loop" ⟨[.ref q, .ref it, .none], []⟩) Rs s3 := fun s3 I3 =>
        loop_it hh zs.length 0 [] H1 s3 I3 (Nat.add_zero _) hit hl1 hlq hq1 (Nat.lt_of_le_of_lt (by rw [List.length_nil, Nat.zero_add]; exact hz) (by rw [sizeLine_eq]; decide)) fun H' s4 I4 h4 hk => hdone H' s4 I4 (fin H' (by simpa using h4) hk)
      obtain ⟨z, its, k, r3, hl3, e3⟩ := I2.lstM hq1
      cases r3
      refine wpAny_ite_split (fun _ => ?_) (fun _ => wpAny_pure ⟨plainId_quiet PySem.F.plain_extend_loop _, last _ I2⟩)
      refine wpAny_bind (wpAny_rule ?_)
      refine wpAny_bind ?_
      show wpAny _ _ (updateSeq q (·.push .none) >>= fun _ => updateSeq q (·.pop)) _ _ _
      refine wpAny_bind (wpAny_updateSeq e3 rfl ?_)
      have I3 := I2.lset (f := (·.push Value.none)) (its' := [Value.none]) (ys := [.non]) (t' := s2.toks) hq1 e3 (by simp) (.cons rfl .nil) (by rw [List.length_singleton, sizeLine_eq]; decide)
      obtain ⟨z4, its4, k4, r4, hl4, e4⟩ := I3.lstM upd_same
      obtain ⟨u4, rfl, ru4⟩ := r4.one
      refine wpAny_updateSeq e4 rfl ?_ (by show 1 ≤ sizeLine; rw [sizeLine_eq]; decide) (by show 0 ≤ sizeLine + 1; exact Nat.zero_le _)
      refine wpAny_pure ⟨plainId_quiet PySem.F.plain_extend_loop _, last _ ?_⟩
      have I4 := I3.lset (f := (·.pop)) (its := [u4]) (its' := []) (ys := []) (t' := s2.toks) upd_same e4 (by rfl) .nil (Nat.zero_le _)
      rw [upd_upd] at I4
      have hH : upd H1 q (.lst []) = H1 := by
        funext b
        by_cases hb : b = q
        · rw [hb, upd_same, hq1]
        · rw [upd_ne hb]
      rw [hH] at I4
      exact I4
theorem call_listGame (hi : PySem.W.findIn X.K (.ref C) "__iter__" = some (some (.ref fI))) (hiF : PySem.W.isFn X.K (.ref fI) = true) (hl : PySem.W.findIn X.K (.ref C) "__len__" = some (some (.ref fL))) (hlF : PySem.W.isFn X.K (.ref fL) = true)
    (FI : FnOk X.prog X.w X.K X.mg X.base CX0 n fI fdI psI spI) (bI : Binds X.K fdI psI []) (FL : FnOk X.prog X.w X.K X.mg X.base CX0 n fL fdL psL spL) (bL : Binds X.K fdL psL []) (hc : X.calm = true) (hr : Room (n + 3) X.A) : CallR X (.type "list") (rListOwn C spI spL EI EL) := by
  intro pins s σ H xs us Q I rv h
  obtain ⟨a, dx, fs, rfl, ha, hq⟩ := h
  obtain ⟨u, rfl, ru⟩ := rv.one
  cases ru
  have sb : Sub X (n + 1) X.A.in1.in1 := Sub.in1 (Sub.in1 (⟨hr, rfl⟩ : Sub X (n + 3) X.A))
  refine callType_codes (Q₁ := fun obj s₁ => obj = .ref s.heap.objs.size ∧ s₁ = { s with heap := s.heap.push { cls := .type "list", data := .seq #[] } }) PySem.F.called_list (PySem.F.typeCall_list_1 _) PySem.F.entry_list_init
    (code_list_new _ ⟨rfl, rfl⟩) fun obj s₁ h₁ => ?_
  obtain ⟨rfl, rfl⟩ := h₁
  have hS : (s.heap.push { cls := .type "list", data := .seq #[] }).get? s.heap.objs.size = some { cls := .type "list", data := .seq #[] } := Heap.get?_push_size _ rfl
  refine ⟨⟨_, hS, rfl⟩, PySem.F.args_list_init_2 _ _, ?_⟩
  have fr : H s.heap.objs.size = none := I.hok.fresh (Nat.le_refl _)
  have I1 : Inv X pins σ (upd H s.heap.objs.size (.lst [])) { s with heap := s.heap.push { cls := .type "list", data := .seq #[] } } := I.lnew (its := []) (t' := s.toks) .nil (Nat.zero_le _)
  show wpAny _ _ (do let old ← Builtin.List.listItems (.ref s.heap.objs.size); Builtin.List.listUpdate (.ref s.heap.objs.size) (fun _ => #[]); letGo old.toList.reverse; Builtin.List.listExtendWith (.ref s.heap.objs.size) (.ref a) .none) _ _ _
  refine wpAny_bind ?_
  unfold Builtin.List.listItems
  refine wpAny_bind (wpAny_seqItems hS rfl (wpAny_pure ?_))
  show wpAny _ _ (updateSeq s.heap.objs.size (fun _ => #[]) >>= fun _ => letGo (#[] : Array Value).toList.reverse >>= fun _ => Builtin.List.listExtendWith (.ref s.heap.objs.size) (.ref a) .none) _ _ _
  refine wpAny_bind (wpAny_updateSeq hS rfl ?_)
  have I2 := I1.lset (f := fun _ => #[]) (its := []) (its' := []) (ys := []) (t' := s.toks) upd_same hS rfl .nil (Nat.zero_le _)
  rw [upd_upd] at I2
  refine wpAny_bind (wpAny_letGo ?_)
  have ha2 : upd H s.heap.objs.size (.lst []) a = some (.ins C dx fs) := by rw [upd_ne (ne_of_none ha fr)]; exact ha
  exact extend_own (A1 := X.A.in1) (R := fun H' => Q (.ref s.heap.objs.size) H') (Rs := wants (fun r s₂ => r = .none ∧ EP X pins σ Q (.ref s.heap.objs.size) s₂) X.xe) sb (I.ok.hd hc) hi hiF hl hlF FI bI FL bL I2 ha2 upd_same (hq _ fr)
    (fun H' s' I' hR => ⟨rfl, .ref s.heap.objs.size, H', I', rfl, hR⟩)
end
end HG

namespace HG
open PySem PySem.Spec PyProof.Rows L2
open C8 (pss_cut tCut)
theorem stds_ne {S : List Way} (ok : SOk S) : 1 ≤ (stds S).length := by
  have key : ∀ (S : List Way) (sts : List (List Str)), (∀ q ∈ S, 1 ≤ q.2.length) → 1 ≤ sts.length → 1 ≤ (S.foldl (fun sts q => mul1 sts q.2) sts).length := by
    intro S
    induction S with
    | nil => exact fun sts _ h => h
    | cons q r ih =>
      refine fun sts h hs => ih _ (fun q hq => h q (List.mem_cons_of_mem _ hq)) ?_
      rw [mul1_len]
      exact Nat.mul_pos hs (h q List.mem_cons_self)
  exact key S [[]] ok.w1 (Nat.le_refl _)
section
variable {P : Program} {w : World} {K : PySem.W.Frag} {mg : Str → Option Value} {base : Heap}
variable {C : Addr}
def spIter (K : PySem.W.Frag) (C : Addr) : Sp := fun args H Q _ => ∃ (g : Addr) (N : Addr → Prop) (S : List Way) (γ : List Str → List Int), args = [.ref g] ∧ IsG K C N H g S γ ∧ ∀ it l vs, H it = none → H l = some (.lst vs) → N l → TupsAt H (stds S) vs → Q (.ref it) (upd H it (ItO l it 0))
abbrev MtIter (K : PySem.W.Frag) (C f : Addr) (fd : FuncData) := Mt K C "__iter__" "Game.__iter__" s_Game___iter ["self"] f fd
theorem ok_iter {f : Addr} {fd : FuncData} (mi : mg "iter" = none) (c : GC K C) (M : MtIter K C f fd) : FnOk P w K mg base CX0 1 f fd ["self"] (spIter K C) := by
  have S : FnScope ["self"] ["self"] (defScope s_Game___iter) := ⟨rfl, rfl, rfl, by decide +kernel, rfl, by decide +kernel, by decide +kernel⟩
  refine M.F.ok S (fun vs H Q E h => ?_) (fun cdv A outer s H vs Q E hr h => ?_)
  · obtain ⟨g, N, S, γ, rfl, _⟩ := h
    rfl
  · obtain ⟨g, N, S, γ, rfl, ⟨dx, wa, l, ta, vs, kvs, hG⟩, q⟩ := h
    refine ⟨_, pss_one (ps_ret (pe_callB call_iterL (by rfl) mi (by decide +kernel) (pa_cons (pe_fld (pv 0) rfl) pa_nil))), ?_⟩
    exact ⟨_, rfl, g, C, dx, _, _, rfl, hG.hg, c.cl, c.nL, rfl, l, vs, rfl, SqL.of hG.hl, fun it nit => q it l vs nit hG.hl hG.nl hG.hs⟩
section
variable {X : Cx} {fI fL : Addr} {dI dL : FuncData}
/-- list(game) -/
def rListG (K : PySem.W.Frag) (C : Addr) : List V → Hp → VK → Prop := fun xs H Q => ∃ g N S γ, xs = [V.ref g] ∧ IsG K C N H g S γ ∧ SOk S ∧ ∀ H' p vs, Same H H' → H p = none → H' p = some (.lst vs) → TupsAt H' (stds S) vs → Q (.ref p) H'
theorem call_listG (T : KT X.K X.mg) (mi : X.mg "iter" = none) (c : GC X.K C) (MI : MtIter X.K C fI dI) (ML : MtLen X.K C fL dL) (hc : X.calm = true) (hr : Room 4 X.A) : CallR X (.type "list") (rListG X.K C) := by
  intro pins s σ H xs us Q I rv h
  obtain ⟨g, N, S, γ, rfl, hg, ok, q⟩ := h
  obtain ⟨dx, wa, l, ta, vs, kvs, hG⟩ := id hg
  refine call_listGame (n := 1) (EI := E0) (EL := E0) MI.me.at_ MI.me.fn ML.me.at_ ML.me.fn (ok_iter mi c MI) MI.b (ok_len T c ML) ML.b hc hr pins s σ H _ us Q I rv ⟨g, dx, _, rfl, hG.hg, fun p np => ?_⟩
  have sp := same_upd (o := .lst []) np
  have hgp := hg.same sp
  refine ⟨g, N, S, γ, rfl, hgp, fun it l' vs' nit hl nl hs => ?_⟩
  have sit := same_upd (o := ItO l' it 0) nit
  have hlp : l' ≠ p := fun z => by
    subst z
    rw [upd_same] at hl
    cases hl
    have h1 : (stds S).length = 0 := Paired.length hs
    have h2 := stds_ne ok
    omega
  refine ⟨it, l', vs', dx, _, rfl, upd_same, sit _ _ hl, ?_, sit _ _ upd_same, hlp, sit _ _ (sp _ _ hG.hg), ⟨g, N, S, γ, rfl, hgp.same sit, rfl, (stds S).length, rfl, ?_⟩, fun H3 h3 hk => ?_⟩
  · rw [← show (stds S).length = vs'.length from Paired.length hs]
    have := ok.few
    omega
  · have := ok.few
    omega
  · have hpi : p ≠ it := fun z => by
      subst z
      rw [upd_same] at nit
      cases nit
    refine q H3 p vs' (fun b o e => ?_) np h3 ?_
    · have hbp : b ≠ p := ne_of_none e np
      have e1 := sp _ _ e
      exact hk b o hbp (ne_of_none e1 nit) (sit _ _ e1)
    · refine paired_imp hs fun _ _ ⟨a, e, h⟩ => ⟨a, e, ?_⟩
      exact hk a _ (ne_of h upd_same (by intro z; cases z)) (ne_of_none h nit) (sit _ _ h)
end
end
end HG

namespace HG
open PySem PySem.Spec PyProof.Rows L2
/-! ### except (A, B, C): what the body lets out is always one of the three -/
def wTup (K : PySem.W.Frag) (cs : List Value) (ts : Addr → Value → Option Addr → TS) (D : Ends) : WX := fun cls d τ G => PySem.W.exmAny K cls cs = some true ∧ ∀ a, G a = none → ts a cls d D τ G
theorem fly_kept {B : Heap} {l : List Env} {a : Addr} {Z : Obj → Prop} {g g' : Heap} (F : HandSPX.FlyingZ B l a Z g) (kp : ∀ b o, g.get? b = some o → g'.get? b = some o) : HandSPX.FlyingZ B l a Z g' := by
  obtain ⟨y1, y2, y3, ob, vs, T, oT, ts, e1, e2, e3, e4, e5, e6, e7, e8, e9⟩ := F
  exact ⟨fun b o q => kp b o (y1 b o q), y2, y3.of_keeps fun b o q _ => ⟨o, kp b o q, rfl⟩, ob, vs, T, oT, ts, kp _ _ e1, e2, e3, e4, e5, e6, kp _ _ e7, e8, e9⟩
section
variable {X : Cx} {x1 x2 x3 : Str} {c1 c2 c3 : Value} {body suite : List Stmt} {b₀ : Stmt} {p1 p2 p3 tp pos pos' : Pos} {kk : Nat} {tb : WX → TS} {ts : Addr → Value → Option Addr → TS}
theorem ps_try_tup (hst : X.stack = X.env :: X.outer) (hfl : X.env.frame = some X.env.locals) (n1 : Names X x1 c1) (n2 : Names X x2 c2) (n3 : Names X x3 c3)
    (hbody : ∀ (W : WX) (pl : List (Addr × Obj)) (xe : Value → Shared → Prop), Takes (X.tr pl xe) W → PassesOwn (model X.prog X.w) X.A X.env xe → PSs (X.tr pl xe) body (tb W))
    (hsuite : ∀ (a : Addr) (ob : Obj) (cls : Value) (d : Option Addr) (pl : List (Addr × Obj)), Zc cls d ob → (∃ vs, ob.data = .fields vs) → PSs (X.suite a ((a, ob) :: pl)) (b₀ :: suite) (ts a cls d)) :
    PS X (.Try body [.ExceptHandler (some (.Tuple [.Name x1 p1, .Name x2 p2, .Name x3 p3] kk tp)) none (b₀ :: suite) pos'] [] [] pos) (fun D τ G => tb (wTup X.K [c1, c2, c3] ts D) D τ G) := by
  refine ⟨fun pins s τ G D I h => ?_⟩
  have okX := I.ok
  have hA : X.A.frames = some (X.env :: X.outer) := by rw [okX.frames, hst]
  refine wpAny_Try_except ?_
  refine wpAny_mono ((hbody (wTup X.K [c1, c2, c3] ts D) (X.pn ++ pins) (fun e t => wpAny (model X.prog X.w) X.A (noteFrame e X.env) (fun _ t2 => wpAny (model X.prog X.w) X.A (setFlight e none) (fun _ t3 =>
    wpAny (model X.prog X.w) X.A (handleBy e X.env [.ExceptHandler (some (.Tuple [.Name x1 p1, .Name x2 p2, .Name x3 p3] kk tp)) none (b₀ :: suite) pos']) (SP X pins D) X.xe t3) X.xe t2) X.xe t) (fun u t xx => ?_) PassesOwn.looking).run [] s τ G D (I.toTry _) h) (fun f t hsp => ?_) (fun _ _ z => z)
  · obtain ⟨a, B, sI, pins', τ', G', cls, d, rfl, J0, nb, up, sky, na, os, ag, hm, hgo⟩ := xx
    have J : Inv X pins τ' G' sI := J0.ofTry okX
    have sky1 : Sky B (X.env :: X.outer) a (Zc cls d) X.env.locals t.heap := hst ▸ sky
    show wpAny (model X.prog X.w) X.A (noteFrame (.ref a) X.env) _ _ _
    refine Sky.land Zc.steady hA hfl sky1 fun h1 F1 up1 => ?_
    have J1 : Inv X pins τ' G' { t with heap := h1 } := J.landed nb F1.1 (up.trans up1) os ag
    obtain ⟨o1, v1, e1, z1, d1⟩ := F1.there
    have out : a ∉ frs (X.env :: X.outer) := fun hm => by
      obtain ⟨_, o', e', hnf⟩ := F1.2.2.1.mem hm
      rw [e1] at e'
      cases e'
      exact hnf _ d1
    have aL : a ≠ X.env.locals := fun z => out (List.mem_filterMap.mpr ⟨X.env, List.mem_cons_self, by rw [hfl, z]⟩)
    have aF : a ∉ X.fs := fun hm => by
      obtain ⟨v, hv, q⟩ := List.mem_filterMap.mp hm
      exact out (List.mem_filterMap.mpr ⟨v, List.mem_cons_of_mem _ hv, q⟩)
    have S1 := J1.suite e1 d1 na aL aF
    refine wpAny_handleBy_cons (codeAny_handlers_test ?_) (by intro q; cases q)
    have nm : ∀ {x : Str} {c : Value} {np : Pos} {Q : Value → Shared → Prop} {E : Value → Shared → Prop}, Names X x c → Q c { t with heap := h1 } → wpAny (model X.prog X.w) (X.A.mark (some (.ref a))) (eval (.Name x np) X.env) Q E { t with heap := h1 } := fun {x c np Q E} hn q => by
      obtain ⟨hg, hd, hk | ⟨hk, hv, hne⟩⟩ := hn
      · exact ld_glob (X := X.suite a ((a, o1) :: (X.pn ++ pins))) S1 hg hk q hd
      · exact ld_blt (X := X.suite a ((a, o1) :: (X.pn ++ pins))) S1 hg hk hv q hne hd
    refine wpAny_Tuple (wpAny_items_cons (nm n1 (wpAny_items_cons (nm n2 (wpAny_items_cons (nm n3 (wpAny_items_nil ⟨by size_fits, ?_⟩)))))))
    have kp : ∀ q o, h1.get? q = some o → (h1.push { cls := .type "tuple", data := .seq [c1, c2, c3].toArray }).get? q = some o := fun _ _ z => Heap.get?_push_of_some _ z
    have LT : PySem.W.Looks (model X.prog X.w) (h1.push { cls := .type "tuple", data := .seq [c1, c2, c3].toArray }) (typeOf (.ref a)) cls := fun A Q E s k q => wpAny_typeOf_ref (k _ _ (kp _ _ e1)) (by rw [z1.1]; exact q)
    refine (PySem.W.exm_tup3 (M := model X.prog X.w) (J1.kIn.keeps kp) LT (Heap.get?_push_size h1 rfl) hm).here ?_
    refine codeAny_handlers_suite ?_
    refine HandSPX.lands_againZ (fly_kept F1 kp) fun h2 F2 up2 => ?_
    have J2 : Inv X pins τ' G' { t with heap := h2 } := J.landed nb F2.1 (((up.trans up1).trans (Heap.UpToSlots.of_keeps kp)).trans up2) os ag
    obtain ⟨o2, v2, e2, z2, d2⟩ := F2.there
    refine wpAny_mono ((hsuite a o2 cls d (X.pn ++ pins) z2 ⟨_, d2⟩).run [] _ _ G' _ (J2.suite e2 d2 na aL aF) (hgo a na)) (fun f t6 hsp => ?_) (fun _ _ z => False.elim z)
    cases f with
    | ret u =>
      obtain ⟨v6, τ6, G6, S6, r6, q6⟩ := hsp
      exact ⟨_, _, _, S6.unsuite okX, r6, q6⟩
    | next =>
      obtain ⟨τ6, G6, S6, q6⟩ := hsp
      exact ⟨_, _, S6.unsuite okX, q6⟩
    | brk =>
      obtain ⟨τ6, G6, S6, q6⟩ := hsp
      exact ⟨_, _, S6.unsuite okX, q6⟩
    | cont =>
      obtain ⟨τ6, G6, S6, q6⟩ := hsp
      exact ⟨_, _, S6.unsuite okX, q6⟩
  · cases f with
    | ret u =>
      obtain ⟨v, τ', G', J', r, q⟩ := hsp
      exact ⟨v, τ', G', J'.ofTry okX, r, q⟩
    | next =>
      obtain ⟨τ', G', J', q⟩ := hsp
      exact wpAny_execs_nil ⟨τ', G', J'.ofTry okX, q⟩
    | brk =>
      obtain ⟨τ', G', J', q⟩ := hsp
      exact ⟨τ', G', J'.ofTry okX, q⟩
    | cont =>
      obtain ⟨τ', G', J', q⟩ := hsp
      exact ⟨τ', G', J'.ofTry okX, q⟩
end
/-! ### isinstance of a caught own error -/
def rIsCt (K : PySem.W.Frag) (a : Addr) (cls : Value) (d : Option Addr) : List V → Hp → VK → Prop := fun xs H Q => ∃ (C dd : Addr) (fs : List (Str × V)) (c : V) (cv : Value) (b : Bool), xs = [.ref a, c] ∧ ClsV c cv ∧ cls = .ref C ∧ d = some dd ∧ H dd = some (.xd fs) ∧ ErrC K C ∧ GetC K ∧ PySem.W.kitOne K (.ref C) cv = some b ∧ Q (.bl b) H
theorem call_isCt {X : Cx} {a : Addr} {ob : Obj} {cls : Value} {d : Option Addr} {pl : List (Addr × Obj)} (hz : Zc cls d ob) (hf : ∃ vs, ob.data = .fields vs) : CallR (X.suite a ((a, ob) :: pl)) (.builtin "isinstance") (rIsCt X.K a cls d) := by
  intro pins s σ H xs us Q I r h
  obtain ⟨C, dd, fs, c, cv, b, rfl, k, rfl, rfl, ed, T, G, e, q⟩ := h
  obtain ⟨u1, u2, rfl, r1, r2⟩ := vals2 r
  have ec := k.eq r2
  subst ec
  obtain rfl : u1 = Value.ref a := r1
  obtain ⟨ha, _⟩ := I.pin (a, ob) (List.mem_append_left _ List.mem_cons_self)
  obtain ⟨vs, hd⟩ := hf
  have hx : ObjOk X.prog X.w H s.heap dd (.xd fs) := I.hok dd _ ed
  obtain ⟨mA, hns, _⟩ := hx
  obtain ⟨od, ho, _⟩ := lookIn_ns hns
  have J : PySem.W.InstAt s.heap a ob C (some od) := ⟨ha, hz.1, by unfold PySem.W.notCls; rw [hd] <;> rfl, by rw [hz.2]; exact ho⟩
  exact PySem.W.kia_one (PySem.W.kitx_exc T.cl T.xf.ga T.xf.gg T.xf.exC T.ha G.hn G.ht T.hm) I.kIn J e (fun z => nomatch z) fun tk => ⟨.bl b, H, I.tok tk, rfl, q⟩
end HG

namespace HG
open PySem PySem.Spec PyProof.Rows L2
open C8 (pss_cut tCut)
abbrev sBag : Stmt := s_law_bag
abbrev sTake : Stmt := s_law_take
abbrev sOne : Stmt := s_law_one

/-! ### the bag of the law: [0, seed, place, cells] -/
def But (b : Addr) (H H' : Hp) : Prop := ∀ q o, H q = some o → q ≠ b → H' q = some o
theorem But.of {b : Addr} {H H' : Hp} (h : Same H H') : But b H H' := fun q o e _ => h q o e
theorem But.trans {b : Addr} {H H1 H2 : Hp} (h : But b H H1) (h' : But b H1 H2) : But b H H2 := fun q o e n => h' q o (h q o e n) n
theorem But.upd {b : Addr} {H H' : Hp} {o : HO} (h : But b H H') : But b H (upd H' b o) := fun q u e n => by
  rw [upd_ne n]
  exact h q u e n
structure Bag (H : Hp) (b k : Addr) (ns : List Int) (a c n : Int) : Prop where
  at_ : H b = some (.lst [.int a, .int c, .int n, .ref k])
  cells : H k = some (.lst (ns.map V.int))
  n0 : 0 ≤ n
  c0 : 0 ≤ c
  c1 : c < 2147483647
theorem Bag.ne {H : Hp} {b k : Addr} {ns : List Int} {a c n : Int} (B : Bag H b k ns a c n) : k ≠ b := by
  refine ne_of B.cells B.at_ fun z => ?_
  have z1 : ns.map V.int = [.int a, .int c, .int n, .ref k] := by
    have := congrArg (fun o => match o with | HO.lst xs => xs | _ => []) z
    exact this
  have z2 := congrArg (fun l : List V => l[3]?) z1
  rw [List.getElem?_map] at z2
  cases e : ns[3]? with
  | none =>
    rw [e] at z2
    cases z2
  | some y =>
    rw [e] at z2
    cases z2
theorem Bag.same {H H' : Hp} {b k : Addr} {ns : List Int} {a c n : Int} (B : Bag H b k ns a c n) (s : Same H H') : Bag H' b k ns a c n := ⟨s _ _ B.at_, s _ _ B.cells, B.n0, B.c0, B.c1⟩
/-- the bag is written anew -/
theorem Bag.put {H : Hp} {b k : Addr} {ns : List Int} {a c n a' c' n' : Int} (B : Bag H b k ns a c n) (hn : 0 ≤ n') (hc : 0 ≤ c') (hc' : c' < 2147483647) : Bag (upd H b (.lst [.int a', .int c', .int n', .ref k])) b k ns a' c' n' :=
  ⟨upd_same, by rw [upd_ne B.ne]; exact B.cells, hn, hc, hc'⟩
def ABag (H : Hp) (b k : Addr) (ns : List Int) : Prop := ∃ a c n, Bag H b k ns a c n
theorem ABag.same {H H' : Hp} {b k : Addr} {ns : List Int} (B : ABag H b k ns) (s : Same H H') : ABag H' b k ns := let ⟨a, c, n, B⟩ := B; ⟨a, c, n, B.same s⟩

def spBag (K : PySem.W.Frag) : Sp := fun vs H Q _ => ∃ (a : Addr) (ns : List Int), vs = [.ref a] ∧ SqL K H a (ns.map V.int) ∧ ns.length ≤ 1000 ∧
  ∀ H' b k ns', Same H H' → ABag H' b k ns' → H b = none → H k = none → Q (.ref b) H'
def spTake : Sp := fun vs H Q _ => ∃ (b k : Addr) (ns : List Int) (m : Int), vs = [.ref b, .int m] ∧ ABag H b k ns ∧ 0 < m ∧ m < 1073741824 ∧
  ∀ H' d, But b H H' → ABag H' b k ns → 0 ≤ d → d < m → Q (.int d) H'
def spOne (K : PySem.W.Frag) : Sp := fun vs H Q _ => ∃ (b k p : Addr) (ns : List Int) (xs : List V), vs = [.ref b, .ref p] ∧ ABag H b k ns ∧ SqL K H p xs ∧ p ≠ b ∧ xs ≠ [] ∧ xs.length < 1000 ∧
  ∀ H' x, But b H H' → ABag H' b k ns → x ∈ xs → Q x H'

theorem scBag : FnScope ["_law_script", "_law_cell"] ["_law_script"] (defScope sBag) := ⟨rfl, rfl, rfl, by decide +kernel, rfl, by decide +kernel, by decide +kernel⟩
theorem scTake : FnScope ["_law_bag_here", "_law_many", "_law_cell", "_law_mixed_here", "_law_drawn", "_law_early", "_law_second"] ["_law_bag_here", "_law_many"] (defScope sTake) := ⟨rfl, rfl, rfl, by decide +kernel, rfl, by decide +kernel, by decide +kernel⟩
theorem scOne : FnScope ["_law_bag_here", "_law_some"] ["_law_bag_here", "_law_some"] (defScope sOne) := ⟨rfl, rfl, rfl, by decide +kernel, rfl, by decide +kernel, by decide +kernel⟩
section
variable {P : Program} {w : World} {K : PySem.W.Frag} {mg : Str → Option Value} {base : Heap}
theorem but_seq {K : PySem.W.Frag} {b a : Addr} {H H' : Hp} {xs : List V} (e : But b H H') (h : SqL K H a xs) (n : a ≠ b) : SqL K H' a xs := by
  rcases h with (h | ⟨o, h⟩) | h
  · exact .inl (.inl (e _ _ h n))
  · exact .inl (.inr ⟨o, e _ _ h n⟩)
  · exact .inr h
theorem ok_take {f : Addr} {fd : FuncData} (F : Fun K "_law_take" "_law_take" sTake f fd) (ml : mg "len" = none) (mi : mg "int" = none) : FnOk P w K mg base CX0 1 f fd ["_law_bag_here", "_law_many"] spTake := by
  refine F.ok scTake (fun vs H Q E h => ?_) (fun cdv A outer s H vs Q E hr h => ?_)
  · obtain ⟨b, k, ns, m, rfl, _⟩ := h
    rfl
  · obtain ⟨b, k, ns, m, rfl, B0, hm0, hm1, q⟩ := h
    obtain ⟨a, c, n, B⟩ := B0
    have nd := scTake.nd
    refine ⟨_, pss_cut (ps_if (pt_cmpR op_eq (pe_ix ix_list (pv 0) pe_int (fun _ _ => rfl)) pe_int (nomark _))
        (pss_cons (ps_set (i := 2) nd rfl (Or.inl rfl) pe_int)
        (pss_cut (ps_if (pt_cmpR op_lt (pe_ix ix_list (pv 0) pe_int (fun _ _ => rfl)) (pe_callB call_len_seq (by rfl) ml PySem.boot_len (pa_cons (pe_ix ix_list (pv 0) pe_int (fun _ _ => rfl)) pa_nil)) (nomark _))
          (pss_one (ps_set (i := 2) nd rfl (Or.inl rfl) (pe_ix ix_list (pe_ix ix_list (pv 0) pe_int (fun _ _ => rfl)) (pe_ix ix_list (pv 0) pe_int (fun _ _ => rfl)) (fun _ _ => rfl)))) pss_nil)
        (pss_cons (ps_augS (pv 0) pe_int get_list pe_int ip_add set_list)
        (pss_cut (ps_if (pt_cmpR op_ge (pv 2) pe_int (nomark _)) (pss_one (ps_asg (pv 2) (pg_sub (pv 0) pe_int set_list))) pss_nil)
        (pss_cons (ps_set (i := 3) nd rfl (Or.inl rfl) (pe_op op_add (pe_op op_add (pe_op op_mul (pe_ix ix_list (pv 0) pe_int (fun _ _ => rfl)) pe_int) (pe_op op_mod (pe_callTy call_int1 (by rfl) mi (by decide +kernel) (pa_cons (pv 2) pa_nil)) pe_int)) (pe_op op_mul pe_int (pe_ix ix_list (pv 0) pe_int (fun _ _ => rfl)))))
        (pss_one (ps_asg (pe_op op_mod (pe_callTy call_int1 (by rfl) mi (by decide +kernel) (pa_cons (pv 3) pa_nil)) pe_int) (pg_sub (pv 0) pe_int set_list))))))))
        pss_nil)
      (pss_cons (ps_if (pt_cmpR op_gt (pe_ix ix_list (pv 0) pe_int (fun _ _ => rfl)) pe_int (nomark _))
        (pss_cons (ps_set (i := 4) nd rfl (Or.inl rfl) (pe_op op_mod (pe_callTy call_int1 (by rfl) mi (by decide +kernel) (pa_cons (pe_ix ix_list (pv 0) pe_int (fun _ _ => rfl)) pa_nil)) (pv 1)))
        (pss_cons (ps_asg (pe_op op_fdiv (pe_callTy call_int1 (by rfl) mi (by decide +kernel) (pa_cons (pe_ix ix_list (pv 0) pe_int (fun _ _ => rfl)) pa_nil)) (pv 1)) (pg_sub (pv 0) pe_int set_list))
        (pss_one (ps_ret (pv 4))))) pss_nil)
      (pss_cons (ps_set (i := 5) nd rfl (Or.inl rfl) (pe_op op_mod (pe_callTy call_int1 (by rfl) mi (by decide +kernel) (pa_cons (pe_op op_mul (pe_op op_add (pe_ix ix_list (pv 0) pe_int (fun _ _ => rfl)) pe_int) pe_int) pa_nil)) pe_int))
      (pss_cons (ps_set (i := 6) nd rfl (Or.inl rfl) (pe_op op_mod (pe_callTy call_int1 (by rfl) mi (by decide +kernel) (pa_cons (pe_op op_mul (pe_op op_mod (pe_callTy call_int1 (by rfl) mi (by decide +kernel) (pa_cons (pe_op op_mul (pv 5) (pv 5)) pa_nil)) pe_int) pe_int) pa_nil)) pe_int))
      (pss_one (ps_ret (pe_op op_mod (pe_callTy call_int1 (by rfl) mi (by decide +kernel) (pa_cons (pe_op op_fdiv (pv 6) pe_int) pa_nil)) (pv 1))))))), ?_⟩
    -- behind the first if
    refine ⟨fun σ' H' => ∃ c2 mx a' c' n', σ' = [some (.ref b), some (.int m), c2, mx, none, none, none] ∧ But b H H' ∧ Bag H' b k ns a' c' n', ?_, ?_⟩
    · refine ⟨_, rfl, b, _, _, _, rfl, rfl, SqL.of B.at_, at_of (j := 0) rfl rfl, rfl, _, rfl, ite2 (fun _ => ?_) (fun _ => ?_)⟩
      · refine ⟨fun σ' H' => ∃ z : Int, σ' = [some (.ref b), some (.int m), some (.int z), none, none, none, none] ∧ H' = H, ?_, ?_⟩
        · refine ⟨_, rfl, b, _, _, _, rfl, rfl, SqL.of B.at_, at_of (j := 2) rfl rfl, _, rfl, b, _, _, _, rfl, rfl, SqL.of B.at_, at_of (j := 3) rfl rfl, k, _, rfl, .inl (SqL.of B.cells), _, _, rfl, rfl, _, rfl, ite2 (fun hlt => ?_) (fun _ => ⟨0, rfl, rfl⟩)⟩
          have hlt' := of_decide_eq_true hlt
          rw [List.length_map] at hlt'
          have n0 := B.n0
          have hj : n.toNat < ns.length := by omega
          refine ⟨_, rfl, b, _, _, _, rfl, rfl, SqL.of B.at_, at_of (j := 3) rfl rfl, _, rfl, b, _, _, _, rfl, rfl, SqL.of B.at_, at_of (j := 2) rfl rfl, k, _, _, .int ns[n.toNat], rfl, rfl, SqL.of B.cells, at_of (j := n.toNat) (by omega) (by rw [List.getElem?_map, List.getElem?_eq_getElem hj]; rfl), ns[n.toNat], rfl, rfl⟩
        · rintro σ' H' ⟨z, rfl, rfl⟩
          -- bag[2] += 1
          refine ⟨_, rfl, b, _, _, _, rfl, rfl, SqL.of B.at_, by decide, at_of (j := 2) rfl rfl, _, _, rfl, rfl, b, _, _, 2, rfl, rfl, B.at_, rfl, ?_⟩
          have n0 := B.n0
          have B2 : Bag (upd H' b (.lst [.int a, .int c, .int (n + 1), .ref k])) b k ns a c (n + 1) := B.put (by omega) B.c0 B.c1
          have k2 : But b H' (upd H' b (.lst [.int a, .int c, .int (n + 1), .ref k])) := But.upd (But.of (Same.refl _))
          -- if cell >= ..: bag[0] = cell
          refine ⟨fun σ' H2 => ∃ a2, σ' = [some (.ref b), some (.int m), some (.int z), none, none, none, none] ∧ But b H' H2 ∧ Bag H2 b k ns a2 c (n + 1), ?_, ?_⟩
          · refine ⟨_, rfl, _, _, rfl, rfl, _, rfl, ite2 (fun _ => ?_) (fun _ => ⟨a, rfl, k2, B2⟩)⟩
            refine ⟨_, rfl, _, rfl, b, _, _, 0, rfl, rfl, B2.at_, rfl, z, rfl, But.upd k2, B2.put B2.n0 B2.c0 B2.c1⟩
          · rintro σ' H2 ⟨a2, rfl, k3, B3⟩
            have c0 := B3.c0
            have c1 := B3.c1
            refine ⟨_, rfl, b, _, _, _, rfl, rfl, SqL.of B3.at_, at_of (j := 1) rfl rfl, _, _, rfl, rfl, .inr ⟨by decide, by decide⟩, _, rfl, .inl ⟨_, rfl, _, _, rfl, rfl, (by show (0 : Int) < 2147483647; decide), _, _, rfl, rfl, _, rfl, b, _, _, _, rfl, rfl, SqL.of B3.at_, at_of (j := 2) rfl rfl, _, _, rfl, rfl, .inl ⟨by decide, by decide⟩, _, _, rfl, rfl, ?_⟩⟩
            refine ⟨_, rfl, .inl ⟨_, rfl, _, _, rfl, rfl, (by show (0 : Int) < 2147483647; decide), _, rfl, b, _, _, 1, rfl, rfl, B3.at_, rfl, ?_⟩⟩
            exact ⟨_, _, a2, _, _, rfl, But.upd k3, B3.put B3.n0 (Int.emod_nonneg _ (by decide)) (Int.emod_lt_of_pos _ (by decide))⟩
      · exact ⟨none, none, a, c, n, rfl, But.of (Same.refl _), B⟩
    · rintro σ' H' ⟨c2, mx, a', c', n', rfl, kb, B'⟩
      have c0 := B'.c0
      have c1 := B'.c1
      have n0 := B'.n0
      refine ⟨_, rfl, b, _, _, _, rfl, rfl, SqL.of B'.at_, at_of (j := 0) rfl rfl, _, _, rfl, rfl, _, rfl, ite2 (fun _ => ?_) (fun _ => ?_)⟩
      · refine ⟨_, rfl, b, _, _, _, rfl, rfl, SqL.of B'.at_, at_of (j := 0) rfl rfl, .inl ⟨_, rfl, _, rfl, _, _, rfl, rfl, hm0, ?_⟩⟩
        refine ⟨_, rfl, b, _, _, _, rfl, rfl, SqL.of B'.at_, at_of (j := 0) rfl rfl, .inl ⟨_, rfl, _, rfl, _, _, rfl, rfl, ⟨hm0, hm1⟩, _, rfl, b, _, _, 0, rfl, rfl, B'.at_, rfl, ?_⟩⟩
        refine ⟨_, rfl, q _ _ (But.upd kb) ⟨_, _, _, B'.put n0 c0 c1⟩ (Int.emod_nonneg _ (by omega)) (Int.emod_lt_of_pos _ hm0)⟩
      · refine ⟨_, rfl, b, _, _, _, rfl, rfl, SqL.of B'.at_, at_of (j := 1) rfl rfl, _, _, rfl, rfl, _, _, rfl, rfl, .inr ⟨by decide, by decide⟩, .inl ⟨_, rfl, _, _, rfl, rfl, (by show (0 : Int) < 1000000007; decide), ?_⟩⟩
        have e0 : 0 ≤ ((c' + 1) * 39373) % 1000000007 := Int.emod_nonneg _ (by decide)
        have e1 : ((c' + 1) * 39373) % 1000000007 < 1000000007 := Int.emod_lt_of_pos _ (by decide)
        refine ⟨_, rfl, _, rfl, _, _, rfl, rfl, .inl ⟨by omega, by omega⟩, .inl ⟨_, rfl, _, _, rfl, rfl, (by show (0 : Int) < 998244353; decide), _, _, rfl, rfl, .inr ⟨by decide, by decide⟩, .inl ⟨_, rfl, _, _, rfl, rfl, (by show (0 : Int) < 998244353; decide), ?_⟩⟩⟩
        refine ⟨_, rfl, _, _, rfl, rfl, ⟨by decide, by decide⟩, .inl ⟨_, rfl, _, rfl, _, _, rfl, rfl, hm0, ?_⟩⟩
        exact q _ _ kb ⟨_, _, _, B'⟩ (Int.emod_nonneg _ (by omega)) (Int.emod_lt_of_pos _ hm0)
theorem ok_one {f ft : Addr} {fd fdt : FuncData} (F : Fun K "_law_one" "_law_one" sOne f fd) (FT : Fun K "_law_take" "_law_take" sTake ft fdt) (bT : Binds K fdt ["_law_bag_here", "_law_many"] []) (gT : mg "_law_take" = some (.ref ft))
    (ml : mg "len" = none) (mi : mg "int" = none) : FnOk P w K mg base CX0 2 f fd ["_law_bag_here", "_law_some"] (spOne K) := by
  refine F.ok scOne (fun vs H Q E h => ?_) (fun cdv A outer s H vs Q E hr h => ?_)
  · obtain ⟨b, k, p, ns, xs, rfl, _⟩ := h
    rfl
  · obtain ⟨b, k, p, ns, xs, rfl, B, hs, hpb, h0, hl, q⟩ := h
    refine ⟨_, pss_one (ps_ret (pe_ix ix_list (pv 1) (pe_call (ok_take FT ml mi) hr (by rfl) gT FT.kp bT .nil pass0 (pa_cons (pv 0) (pa_cons (pe_callB call_len_seq (by rfl) ml PySem.boot_len (pa_cons (pv 1) pa_nil)) pa_nil))) (fun _ _ => rfl))), ?_⟩
    have hlen : 0 < xs.length := List.length_pos_iff.mpr h0
    refine ⟨_, rfl, _, rfl, _, rfl, p, xs, rfl, .inl hs, b, k, ns, _, rfl, B, (by omega), (by omega), fun H' d kb B' d0 d1 => ?_⟩
    have hj : d.toNat < xs.length := by omega
    exact ⟨p, xs, d, xs[d.toNat], rfl, rfl, but_seq kb hs hpb, at_of (j := d.toNat) (by omega) (List.getElem?_eq_getElem hj), q _ _ kb B' (List.getElem_mem hj)⟩
theorem cut63 (xs : List V) : (cutV xs none (some 63)).length ≤ xs.length := cutV_length xs _ _
theorem cut_ints (ns : List Int) (lo hi : Option Int) : ∃ ms : List Int, cutV (ns.map V.int) lo hi = ms.map V.int ∧ ms.length ≤ ns.length := by
  unfold cutV
  refine ⟨(ns.drop _).take _, by rw [← List.map_drop, ← List.map_take], ?_⟩
  rw [List.length_take, List.length_drop]
  omega
theorem ok_bag {f : Addr} {fd : FuncData} (F : Fun K "_law_bag" "_law_bag" sBag f fd) (ma : mg "abs" = none) : FnOk P w K mg base CX0 1 f fd ["_law_script"] (spBag K) := by
  refine F.ok scBag (fun vs H Q E h => ?_) (fun cdv A outer s H vs Q E hr h => ?_)
  · obtain ⟨a, ns, rfl, _⟩ := h
    rfl
  · obtain ⟨a, ns, rfl, hS, hl, q⟩ := h
    have nd := scBag.nd
    refine ⟨_, pss_one (ps_ret (pe_lst (pa_cons pe_int (pa_cons pe_int (pa_cons pe_int (pa_cons
      (pe_lc (own := [("_law_cell", 1)]) (g := gName 1) (tt := tYes) rfl nd (pi_list (pe_slice sl_list (pv 0) po_none (po_some pe_int))) (blkOk_by (N := ["_law_script", "_law_cell"]) (sc := defScope sBag) (by decide +kernel)) (fun _ _ _ _ _ => pg_name (i := 1) nd rfl (Or.inl rfl)) (fun _ _ _ _ _ => pts_nil)
        (fun _ _ _ _ _ => pe_callB call_abs (by rfl) ma (by decide +kernel) (pa_cons (pv 1) pa_nil))) pa_nil)))))), ?_⟩
    obtain ⟨ms, em, hml⟩ := cut_ints ns none (some 63)
    refine ⟨_, rfl, 63, rfl, a, _, rfl, hS, fun p hp => ?_⟩
    rw [em]
    refine ⟨p, rfl, ⟨_, SqL.of upd_same⟩, fun D hD => ?_⟩
    refine lc_list (K := K) (a := p) (xs := ms.map V.int) (fun i H' => ∃ zs : List Int, H' D = some (.lst (zs.map V.int)) ∧ zs.length = i ∧ (∀ r o, (upd H p (.lst (ms.map V.int))) r = some o → H' r = some o)) ⟨[], upd_same, rfl, same_upd hD⟩
      (fun i H' _ ⟨zs, _, _, sm⟩ => SqL.of (sm _ _ upd_same)) ?_ ?_
    · rintro i x H' hi ⟨zs, hz, hzl, sm⟩
      obtain ⟨y, rfl⟩ : ∃ y, x = V.int y := by
        rw [List.getElem?_map] at hi
        cases e : ms[i]? with
        | none =>
          rw [e] at hi
          cases hi
        | some z =>
          rw [e] at hi
          exact ⟨z, (Option.some.inj hi).symm⟩
      have hil : i < ms.length := by
        have := (List.getElem?_eq_some_iff.mp hi).1
        rwa [List.length_map] at this
      refine ⟨rfl, _, rfl, y, rfl, _, hz, small1000 (by rw [List.length_map]; omega), zs ++ [if y < 0 then -y else y], by rw [upd_same, List.map_append]; rfl, by rw [List.length_append, hzl]; rfl, fun r o e => ?_⟩
      rw [upd_ne (ne_of_none e hD)]
      exact sm _ _ e
    · rintro H' ⟨zs, hz, hzl, sm⟩
      refine ⟨(by show 4 ≤ sizeLine; decide), fun b hb => ?_⟩
      have sH : Same H H' := fun r o e => sm r o (same_upd hp r o e)
      have nDb : D ≠ b := ne_of_none hz hb
      refine q _ b D zs (sH.trans (same_upd hb)) ⟨0, 1234567891, 0, upd_same, by rw [upd_ne nDb]; exact hz, by decide, by decide, by decide⟩ (sH.free hb) (Same.free (same_upd hp) hD)
end
end HG

namespace HG
open PySem PySem.Spec PyProof.Rows L2
open C8 (pss_cut tCut)
/-- the bag's functions, as the text has them -/
structure BT (K : PySem.W.Frag) (mg : Str → Option Value) (fT fO : Addr) (dT dO : FuncData) : Prop where
  ml : mg "len" = none
  mi : mg "int" = none
  T : Fun K "_law_take" "_law_take" sTake fT dT
  bT : Binds K dT ["_law_bag_here", "_law_many"] []
  gT : mg "_law_take" = some (.ref fT)
  O : Fun K "_law_one" "_law_one" sOne fO dO
  bO : Binds K dO ["_law_bag_here", "_law_some"] []
  gO : mg "_law_one" = some (.ref fO)
def spMixed (K : PySem.W.Frag) : Sp := fun args H Q _ => ∃ (b k p : Addr) (ns : List Int) (xs : List V), args = [.ref b, .ref p] ∧ ABag H b k ns ∧ SqL K H p xs ∧ p ≠ b ∧ xs.length ≤ 256 ∧
  ∀ H' q ys, But b H H' → ABag H' b k ns → H q = none → H' q = some (.lst ys) → ys.Perm xs → Q (.ref q) H'
theorem abag_ne {H : Hp} {b k : Addr} {ns : List Int} (B : ABag H b k ns) : ∃ xs, H b = some (.lst xs) := let ⟨_, _, _, B⟩ := B; ⟨_, B.at_⟩
theorem abag_upd {H : Hp} {b k : Addr} {ns : List Int} {q : Addr} {o : HO} (B : ABag H b k ns) (h1 : q ≠ b) (h2 : q ≠ k) : ABag (upd H q o) b k ns := by
  obtain ⟨a, c, n, B⟩ := B
  exact ⟨a, c, n, by rw [upd_ne h1.symm]; exact B.at_, by rw [upd_ne h2.symm]; exact B.cells, B.n0, B.c0, B.c1⟩
theorem abag_k {H : Hp} {b k : Addr} {ns : List Int} (B : ABag H b k ns) : H k = some (.lst (ns.map V.int)) := let ⟨_, _, _, B⟩ := B; B.cells
section
variable {P : Program} {w : World} {K : PySem.W.Frag} {mg : Str → Option Value} {base : Heap}
variable {fT fO : Addr} {dT dO : FuncData}
theorem ok_mixed {f : Addr} {fd : FuncData} (B : BT K mg fT fO dT dO) (F : Fun K "_law_mixed" "_law_mixed" s_law_mixed f fd) : FnOk P w K mg base CX0 2 f fd ["_law_bag_here", "_law_things"] (spMixed K) := by
  have S : FnScope ["_law_bag_here", "_law_things", "_law_found", "_law_thing"] ["_law_bag_here", "_law_things"] (defScope s_law_mixed) := ⟨rfl, rfl, rfl, by decide +kernel, rfl, by decide +kernel, by decide +kernel⟩
  have nd := S.nd
  refine F.ok S (fun vs H Q E h => ?_) (fun cdv A outer s H vs Q E hr h => ?_)
  · obtain ⟨b, k, p, ns, xs, rfl, _⟩ := h
    rfl
  · obtain ⟨b, k, p, ns, xs, rfl, B0, hs, hpb, hz, q⟩ := h
    refine ⟨_, pss_cons (ps_set (i := 2) nd rfl (Or.inl rfl) (pe_lst pa_nil))
      (pss_cons (ps_for PassesOwn.never rfl (pi_list (pv 1)) (pg_name (i := 3) nd rfl (Or.inl rfl))
        (pss_one (ps_expr (pe_bm PySem.F.plainAttrs_list PySem.F.slot_list_insert PySem.F.type_list_insert mt_insert (pv 2) (pa_cons (pe_call (ok_take B.T B.ml B.mi) (hr.mono (by decide)) (by rfl) B.gT B.T.kp B.bT .nil pass0 (pa_cons (pv 0) (pa_cons (pe_op op_add (pe_callB call_len_seq (by rfl) B.ml PySem.boot_len (pa_cons (pv 2) pa_nil)) pe_int) pa_nil))) (pa_cons (pv 3) pa_nil))))))
      (pss_one (ps_ret (pv 2)))), ?_⟩
    refine ⟨(by show 0 ≤ sizeLine; decide), fun q0 n0 => ?_⟩
    have s0 := same_upd (o := .lst []) n0
    have hqb : q0 ≠ b := fun z => by
      obtain ⟨xs, e⟩ := abag_ne B0
      rw [z, e] at n0
      cases n0
    have hqk : q0 ≠ k := fun z => by rw [z, abag_k B0] at n0; cases n0
    have hqp : p ≠ q0 ∨ True := .inr trivial
    refine ⟨_, rfl, p, rfl, ⟨_, s0.seq hs⟩, for_it (walk_list (K := K) (a := p) (xs := xs)) (fun i σ H' => ∃ ys v3, σ = [some (.ref b), some (.ref p), some (.ref q0), v3] ∧ But b H H' ∧ ABag H' b k ns ∧ H' q0 = some (.lst ys) ∧ ys.Perm (xs.take i)) ⟨[], none, rfl, But.of s0, B0.same s0, upd_same, by simp⟩ (fun i σ H' _ ⟨_, _, _, kb, _, _, _⟩ => but_seq kb hs hpb) ?_ ?_⟩
    · rintro i x σ H1 H2 hi ⟨ys, v3, rfl, kb, B1, hq, hp⟩ ⟨rfl, hx⟩
      have hyl : ys.length ≤ 256 := by
        rw [hp.length_eq, List.length_take]
        omega
      refine ⟨_, rfl, .inl ⟨rfl, _, SqL.of hq⟩, _, rfl, _, rfl, q0, ys, rfl, .inl (SqL.of hq), _, _, rfl, rfl, b, k, ns, _, rfl, B1, by omega, by omega, fun H3 d kb3 B3 d0 d1 => ?_⟩
      have hq3 := kb3 _ _ hq hqb
      refine ⟨_, rfl, q0, ys, d, x, rfl, rfl, hq3, Nat.lt_of_le_of_lt hyl (by rw [sizeLine_eq]; decide), d0, by omega, ?_⟩
      refine ⟨_, _, rfl, fun r o e hr => ?_, abag_upd B3 hqb hqk, upd_same, ?_⟩
      · have hrq : r ≠ q0 := ne_of_none e n0
        rw [upd_ne hrq]
        exact kb3 _ _ (kb _ _ e hr) hr
      · have e2 : xs.take (i + 1) = xs.take i ++ [x] := by
          rw [List.take_add_one, hx]
          rfl
        rw [e2]
        refine List.Perm.trans ?_ (hp.append_right [x])
        rw [List.append_assoc]
        refine List.Perm.trans List.perm_middle ?_
        show (x :: (ys.take d.toNat ++ ys.drop d.toNat)).Perm (ys ++ [x])
        rw [List.take_append_drop]
        exact (List.perm_append_singleton x ys).symm
    · rintro σ H' ⟨ys, v3, rfl, kb, B1, hq, hp⟩
      rw [List.take_length] at hp
      exact ⟨_, rfl, q _ q0 ys kb B1 n0 hq hp⟩
end
end HG

namespace HG
open PySem PySem.Spec PyProof.Rows L2
open C8 (pss_cut tCut)
/-! ### lists of lists of small numbers, written out -/
theorem pa_imp {X : Cx} {es : List Expr} {t t' : TA} (p : PA X es t) (f : ∀ σ H Q, t' σ H Q → t σ H Q) : PA X es t' := ⟨fun pos pins s σ H Q I h => p.run pos pins s σ H Q I (f _ _ _ h)⟩
def intsOf : List Expr → Option (List Int)
  | [] => some []
  | .Constant (.int i) _ _ :: r => (intsOf r).map (i :: ·)
  | _ :: _ => none
def litsOf : List Expr → Option (List (List Int))
  | [] => some []
  | .List es _ :: r => (intsOf es).bind fun is => (litsOf r).map (is :: ·)
  | _ :: _ => none
def tInts (is : List Int) : TA := fun _ H Q => Q (is.map V.int) H
def LstAt (H0 H : Hp) (is : List Int) (v : V) : Prop := ∃ a, v = .ref a ∧ H0 a = none ∧ H a = some (.lst (is.map V.int))
def tLits (iss : List (List Int)) : TA := fun _ H Q => ∀ H' vs, Same H H' → Paired (LstAt H H') iss vs → Q vs H'
theorem pa_ints {X : Cx} : ∀ {es : List Expr} {is : List Int}, intsOf es = some is → PA X es (tInts is)
  | [], is, h => by
    cases h
    exact pa_nil
  | e :: r, is, h => by
    unfold intsOf at h
    split at h
    · rename_i h0
      cases h0
    · rename_i i j p r' h0
      cases h0
      obtain ⟨is', h1, rfl⟩ := Option.map_eq_some_iff.mp h
      exact pa_imp (pa_cons pe_int (pa_ints h1)) fun σ H Q q => q
    · cases h
theorem pa_lits {X : Cx} : ∀ {es : List Expr} {iss : List (List Int)}, litsOf es = some iss → (∀ is ∈ iss, is.length ≤ sizeLine) → PA X es (tLits iss)
  | [], iss, h, _ => by
    cases h
    exact pa_imp pa_nil fun σ H Q q => q H [] (Same.refl H) .nil
  | e :: r, iss, h, hz => by
    unfold litsOf at h
    split at h
    · rename_i h0
      cases h0
    · rename_i es p r' h0
      cases h0
      obtain ⟨is, h1, h2⟩ := Option.bind_eq_some_iff.mp h
      obtain ⟨iss', h3, rfl⟩ := Option.map_eq_some_iff.mp h2
      refine pa_imp (pa_cons (pe_lst (pa_ints h1)) (pa_lits h3 fun is hi => hz is (List.mem_cons_of_mem _ hi))) fun σ H Q q => ?_
      refine ⟨by rw [List.length_map]; exact hz is List.mem_cons_self, fun p np H' vs s' hp => ?_⟩
      have sp := same_upd (o := .lst (is.map V.int)) np
      exact q H' (.ref p :: vs) (sp.trans s') (.cons ⟨p, rfl, np, s' _ _ upd_same⟩ (paired_imp hp fun _ _ ⟨a, e, n, h⟩ => ⟨a, e, sp.free n, h⟩))
    · cases h
/-! ### texts, written out -/
def strsOf : List Expr → Option (List Str)
  | [] => some []
  | .Constant (.str z) _ _ :: r => (strsOf r).map (z :: ·)
  | _ :: _ => none
def tStrs (zs : List Str) : TA := fun _ H Q => Q (zs.map V.str) H
theorem pa_strs {X : Cx} : ∀ {es : List Expr} {zs : List Str}, strsOf es = some zs → PA X es (tStrs zs)
  | [], zs, h => by
    cases h
    exact pa_nil
  | e :: r, zs, h => by
    unfold strsOf at h
    split at h
    · rename_i h0
      cases h0
    · rename_i i j p r' h0
      cases h0
      obtain ⟨is', h1, rfl⟩ := Option.map_eq_some_iff.mp h
      exact pa_imp (pa_cons pe_str (pa_strs h1)) fun σ H Q q => q
    · cases h
def menuN : List Str := ["a", "b", "ab", "ba", "m", "same", "x", "z", "zz", "zzzzzzzz"]
theorem menuN_ok : (menuN.all isNm && decide menuN.Nodup) = true := by decide +kernel
/-- names drawn -/
structure NamesOk (zs : List Str) (n : Nat) : Prop where
  len : zs.length = n
  nd : zs.Nodup
  nm : ∀ z ∈ zs, isNm z = true
  me : ∀ z ∈ zs, z ∈ menuN
def spNames : Sp := fun args H Q _ => ∃ (b k : Addr) (ns : List Int) (n : Nat), args = [.ref b, .int (n : Int)] ∧ ABag H b k ns ∧ n ≤ 10 ∧ ∀ H' q zs, But b H H' → ABag H' b k ns → H q = none → H' q = some (.lst (zs.map V.str)) → NamesOk zs n → Q (.ref q) H'
structure MxT (K : PySem.W.Frag) (mg : Str → Option Value) (fM : Addr) (dM : FuncData) : Prop where
  F : Fun K "_law_mixed" "_law_mixed" s_law_mixed fM dM
  b : Binds K dM ["_law_bag_here", "_law_things"] []
  g : mg "_law_mixed" = some (.ref fM)
theorem strs_of_perm {ys : List V} {zs : List Str} (h : ys.Perm (zs.map V.str)) : ∃ ws : List Str, ys = ws.map V.str ∧ ws.Perm zs := by
  have key : ∀ {xs ys : List V}, ys.Perm xs → ∀ zs : List Str, xs = zs.map V.str → ∃ ws : List Str, ys = ws.map V.str ∧ ws.Perm zs := by
    intro xs ys h
    induction h with
    | nil => exact fun zs e => ⟨[], rfl, by cases zs with | nil => exact .nil | cons a r => cases e⟩
    | cons x p ih =>
      intro zs e
      cases zs with
      | nil => cases e
      | cons a r =>
        rw [List.map_cons, List.cons.injEq] at e
        obtain ⟨ws, e1, p1⟩ := ih r e.2
        exact ⟨a :: ws, by rw [e1, e.1]; rfl, p1.cons a⟩
    | swap x y l =>
      intro zs e
      match zs, e with
      | a :: c :: r, e =>
        rw [List.map_cons, List.map_cons, List.cons.injEq, List.cons.injEq] at e
        exact ⟨c :: a :: r, by rw [e.1, e.2.1, e.2.2]; rfl, List.Perm.swap a c r⟩
    | trans p1 p2 ih1 ih2 =>
      intro zs e
      obtain ⟨ws, e1, q1⟩ := ih2 zs e
      obtain ⟨us, e2, q2⟩ := ih1 ws e1
      exact ⟨us, e2, q2.trans q1⟩
  exact key h zs rfl
section
variable {P : Program} {w : World} {K : PySem.W.Frag} {mg : Str → Option Value} {base : Heap}
variable {fT fO fM : Addr} {dT dO dM : FuncData}
theorem ok_names {f : Addr} {fd : FuncData} (B : BT K mg fT fO dT dO) (M : MxT K mg fM dM) (F : Fun K "_law_names" "_law_names" s_law_names f fd) : FnOk P w K mg base CX0 3 f fd ["_law_bag_here", "_law_size"] spNames := by
  have S : FnScope ["_law_bag_here", "_law_size", "_law_menu"] ["_law_bag_here", "_law_size"] (defScope s_law_names) := ⟨rfl, rfl, rfl, by decide +kernel, rfl, by decide +kernel, by decide +kernel⟩
  have nd := S.nd
  refine F.ok S (fun vs H Q E h => ?_) (fun cdv A outer s H vs Q E hr h => ?_)
  · obtain ⟨b, k, ns, n, rfl, _⟩ := h
    rfl
  · obtain ⟨b, k, ns, n, rfl, B0, hn, q⟩ := h
    refine ⟨_, pss_cons (ps_set (i := 2) nd rfl (Or.inl rfl) (pe_lst (pa_strs (zs := menuN) (by decide +kernel))))
      (pss_one (ps_ret (pe_slice sl_list (pe_call (ok_mixed B M.F) hr (by rfl) M.g M.F.kp M.b .nil pass0 (pa_cons (pv 0) (pa_cons (pv 2) pa_nil))) po_none (po_some (pv 1))))), ?_⟩
    refine ⟨(by show 10 ≤ sizeLine; decide), fun q0 n0 => ?_⟩
    have s0 := same_upd (o := .lst (menuN.map V.str)) n0
    have hqb : q0 ≠ b := fun z => by
      obtain ⟨xs, e⟩ := abag_ne B0
      rw [z, e] at n0
      cases n0
    refine ⟨_, rfl, _, rfl, b, k, q0, ns, _, rfl, B0.same s0, SqL.of upd_same, hqb, (by show 10 ≤ 256; decide), fun H1 p1 ys kb B1 np h1 hp => ?_⟩
    obtain ⟨ws, rfl, hw⟩ := strs_of_perm hp
    refine ⟨_, rfl, n, rfl, p1, _, rfl, SqL.of h1, fun p2 n2 => ?_⟩
    have s2 := same_upd (o := .lst (cutV (ws.map V.str) none (some (n : Int)))) n2
    have ok := menuN_ok
    rw [Bool.and_eq_true, List.all_eq_true, decide_eq_true_iff] at ok
    refine q _ p2 (ws.take n) ((But.of s0).trans (kb.trans (But.of s2))) (B1.same s2) ?_ (by rw [upd_same, cut_to, List.map_take]) ⟨?_, ?_, ?_, ?_⟩
    · have k1 : But b H H1 := (But.of s0).trans kb
      cases e : H p2 with
      | none => rfl
      | some o =>
        by_cases hb : p2 = b
        · subst hb
          obtain ⟨xs, e1⟩ := abag_ne B1
          rw [e1] at n2
          cases n2
        · rw [k1 _ _ e hb] at n2
          cases n2
    · rw [List.length_take, hw.length_eq]
      exact Nat.min_eq_left hn
    · exact (hw.nodup_iff.mpr ok.2).sublist (List.take_sublist _ _)
    · exact fun z hz => ok.1 z (hw.mem_iff.mp (List.mem_of_mem_take hz))
    · exact fun z hz => hw.mem_iff.mp (List.mem_of_mem_take hz)
end
end HG

namespace HG
open PySem PySem.Spec PyProof.Rows L2
open C8 (pss_cut tCut)
theorem but_free {b k : Addr} {ns : List Int} {H H' : Hp} {p : Addr} (kb : But b H H') (B : ABag H' b k ns) (n : H' p = none) : H p = none := by
  cases e : H p with
  | none => rfl
  | some o =>
    by_cases hb : p = b
    · subst hb
      obtain ⟨xs, e1⟩ := abag_ne B
      rw [e1] at n
      cases n
    · rw [kb _ _ e hb] at n
      cases n
theorem abag_not {b k : Addr} {ns : List Int} {H : Hp} {p : Addr} (B : ABag H b k ns) (n : H p = none) : p ≠ b := fun z => by
  obtain ⟨xs, e⟩ := abag_ne B
  rw [z, e] at n
  cases n
def prodI (is : List Int) : Int := is.foldl (fun m i => m * i) 1
theorem prodI_more {is : List Int} {i : Nat} {x : Int} (h : is[i]? = some x) : prodI (is.take (i + 1)) = prodI (is.take i) * x := by
  unfold prodI
  rw [List.take_add_one, h, List.foldl_append]
  rfl
def spProd (K : PySem.W.Frag) : Sp := fun args H Q _ => ∃ (p : Addr) (is : List Int), args = [.ref p] ∧ SqL K H p (is.map V.int) ∧ (∀ i ∈ is, 1 ≤ i ∧ i ≤ 4) ∧ Q (.int (prodI is)) H
def menuS1 : List (List Int) := [[2, 2], [1], [3], [2, 3], [3, 2], [2, 2, 2], [3, 3], [1, 2], [4, 4], [2, 1, 3], [2, 2, 2, 2], [4]]
def menuS2 : List (List Int) := [[3, 3, 3], [2, 3, 2, 2], [4, 4, 4], [3, 3, 3, 3], [1, 1, 1, 1], [4, 2, 3, 3]]
def menuS : List (List Int) := menuS1 ++ menuS2
structure SzOk (is : List Int) (most : Int) : Prop where
  me : is ∈ menuS
  pr : prodI is ≤ most
theorem menuS_ok : (menuS.all fun is => decide (1 ≤ is.length) && decide (is.length ≤ 4) && is.all fun i => decide (1 ≤ i) && decide (i ≤ 4)) = true := by decide +kernel
theorem menuS_at {is : List Int} (h : is ∈ menuS) : 1 ≤ is.length ∧ is.length ≤ 4 ∧ ∀ i ∈ is, 1 ≤ i ∧ i ≤ 4 := by
  have := List.all_eq_true.mp menuS_ok is h
  rw [Bool.and_eq_true, Bool.and_eq_true, decide_eq_true_iff, decide_eq_true_iff, List.all_eq_true] at this
  refine ⟨this.1.1, this.1.2, fun i hi => ?_⟩
  have := this.2 i hi
  rw [Bool.and_eq_true, decide_eq_true_iff, decide_eq_true_iff] at this
  exact this
def spSizes (K : PySem.W.Frag) : Sp := fun args H Q _ => ∃ (b k : Addr) (ns : List Int) (most : Int), args = [.ref b, .int most] ∧ ABag H b k ns ∧ 4 ≤ most ∧
  ∀ H' p is, But b H H' → ABag H' b k ns → H p = none → H' p = some (.lst (is.map V.int)) → SzOk is most → Q (.ref p) H'
section
variable {P : Program} {w : World} {K : PySem.W.Frag} {mg : Str → Option Value} {base : Heap}
variable {fT fO fM fP : Addr} {dT dO dM dP : FuncData}
theorem ok_product {f : Addr} {fd : FuncData} (F : Fun K "_law_product" "_law_product" s_law_product f fd) : FnOk P w K mg base CX0 1 f fd ["_law_numbers"] (spProd K) := by
  have S : FnScope ["_law_numbers", "_law_found", "_law_number_here"] ["_law_numbers"] (defScope s_law_product) := ⟨rfl, rfl, rfl, by decide +kernel, rfl, by decide +kernel, by decide +kernel⟩
  have nd := S.nd
  refine F.ok S (fun vs H Q E h => ?_) (fun cdv A outer s H vs Q E hr h => ?_)
  · obtain ⟨p, is, rfl, _⟩ := h
    rfl
  · obtain ⟨p, is, rfl, hs, hi4, q⟩ := h
    refine ⟨_, pss_cons (ps_set (i := 1) nd rfl (Or.inl rfl) pe_int)
      (pss_cons (ps_for PassesOwn.never rfl (pi_list (pv 0)) (pg_name (i := 2) nd rfl (Or.inl rfl))
        (pss_one (ps_set (i := 1) nd rfl (Or.inl rfl) (pe_op op_mul (pv 1) (pv 2)))))
      (pss_one (ps_ret (pv 1)))), ?_⟩
    refine ⟨_, rfl, p, rfl, ⟨_, hs⟩, for_it (walk_list (K := K) (a := p) (xs := is.map V.int)) (fun i σ H' => ∃ v2, σ = [some (.ref p), some (.int (prodI (is.take i))), v2] ∧ H' = H) ⟨none, rfl, rfl⟩ (fun i σ H' _ ⟨_, _, e⟩ => e ▸ hs) ?_ ?_⟩
    · rintro i x σ H1 H2 hi ⟨v2, rfl, rfl⟩ ⟨rfl, hx⟩
      rw [List.getElem?_map] at hx
      obtain ⟨y, hy, rfl⟩ := Option.map_eq_some_iff.mp hx
      have h4 := hi4 y (List.mem_of_getElem? hy)
      refine ⟨_, rfl, _, rfl, _, _, rfl, rfl, .inr ⟨by omega, by omega⟩, ?_⟩
      exact ⟨_, by rw [prodI_more hy]; rfl, rfl⟩
    · rintro σ H' ⟨v2, rfl, rfl⟩
      rw [List.length_map, List.take_length]
      exact ⟨_, rfl, q⟩
theorem ok_sizes {f : Addr} {fd : FuncData} (B : BT K mg fT fO dT dO) (FP : Fun K "_law_product" "_law_product" s_law_product fP dP) (bP : Binds K dP ["_law_numbers"] []) (gP : mg "_law_product" = some (.ref fP)) (F : Fun K "_law_sizes" "_law_sizes" s_law_sizes f fd) : FnOk P w K mg base CX0 3 f fd ["_law_bag_here", "_law_most"] (spSizes K) := by
  have S : FnScope ["_law_bag_here", "_law_most", "_law_menu", "_law_fine", "_law_sizes_here"] ["_law_bag_here", "_law_most"] (defScope s_law_sizes) := ⟨rfl, rfl, rfl, by decide +kernel, rfl, by decide +kernel, by decide +kernel⟩
  have nd := S.nd
  refine F.ok S (fun vs H Q E h => ?_) (fun cdv A outer s H vs Q E hr h => ?_)
  · obtain ⟨b, k, ns, most, rfl, _⟩ := h
    rfl
  · obtain ⟨b, k, ns, most, rfl, B0, hm, q⟩ := h
    refine ⟨_, pss_cons (ps_set (i := 2) nd rfl (Or.inl rfl) (pe_lst (pa_lits (iss := menuS1) (by decide +kernel) (by intro is hi; exact Nat.le_trans (menuS_at (List.mem_append_left _ hi)).2.1 (by rw [sizeLine_eq]; decide)))))
      (pss_cons (ps_set (i := 2) nd rfl (Or.inl rfl) (pe_op op_cat (pv 2) (pe_lst (pa_lits (iss := menuS2) (by decide +kernel) (by intro is hi; exact Nat.le_trans (menuS_at (List.mem_append_right _ hi)).2.1 (by rw [sizeLine_eq]; decide))))))
      (pss_cons (ps_setLc (i := 3) (own := [("_law_sizes_here", 4)]) (g := gName 4) rfl nd rfl rfl (sw_true rfl rfl rfl (by decide +kernel)) (pi_list (pv 2)) (blkOk_by (N := ["_law_bag_here", "_law_most", "_law_menu", "_law_fine", "_law_sizes_here"]) (sc := defScope s_law_sizes) (by decide +kernel)) (fun _ _ _ _ _ => pg_name (i := 4) nd rfl (Or.inl rfl))
        (fun _ _ _ _ _ => pts_one (pt_cmpR op_le (pe_call (ok_product FP) (hr.mono (by decide)) (by rfl) gP FP.kp bP .nil pass0 (pa_cons (pv 4) pa_nil)) (pv 1) (nomark _))) (fun _ _ _ _ _ => pv 4))
      (pss_one (ps_ret (pe_call (ok_one B.O B.T B.bT B.gT B.ml B.mi) (hr.mono (by decide)) (by rfl) B.gO B.O.kp B.bO .nil pass0 (pa_cons (pv 0) (pa_cons (pv 3) pa_nil))))))), ?_⟩
    refine fun H1 vs1 s1 p1 => ⟨?_, fun q1 n1 => ?_⟩
    · rw [← Paired.length p1]
      show 12 ≤ sizeLine
      decide
    have t1 := same_upd (o := .lst vs1) n1
    refine ⟨_, rfl, fun H2 vs2 s2 p2 => ⟨?_, fun q2 n2 => ?_⟩⟩
    · rw [← Paired.length p2]
      show 6 ≤ sizeLine
      decide
    have t2 := same_upd (o := .lst vs2) n2
    refine ⟨q1, q2, vs1, vs2, rfl, rfl, t2 _ _ (s2 _ _ upd_same), upd_same, ?_, fun q3 n3 => ?_⟩
    · rw [← Paired.length p1, ← Paired.length p2]
      show 18 ≤ sizeLine
      decide
    have t3 := same_upd (o := .lst (vs1 ++ vs2)) n3
    have s12 : Same H H2 := s1.trans (t1.trans s2)
    have s13 : Same H (upd (upd H2 q2 (.lst vs2)) q3 (.lst (vs1 ++ vs2))) := s12.trans (t2.trans t3)
    have p12 : Paired (LstAt H (upd (upd H2 q2 (.lst vs2)) q3 (.lst (vs1 ++ vs2)))) menuS (vs1 ++ vs2) :=
      paired_append (paired_imp p1 fun _ _ ⟨a, e, n, h⟩ => ⟨a, e, n, t3 _ _ (t2 _ _ (s2 _ _ (t1 _ _ h)))⟩) (paired_imp p2 fun _ _ ⟨a, e, n, h⟩ => ⟨a, e, (s1.trans t1).free n, t3 _ _ (t2 _ _ h)⟩)
    have h3 : (upd (upd H2 q2 (.lst vs2)) q3 (.lst (vs1 ++ vs2))) q3 = some (.lst (vs1 ++ vs2)) := upd_same
    generalize upd (upd H2 q2 (.lst vs2)) q3 (.lst (vs1 ++ vs2)) = H3 at s13 p12 h3
    have B3 := B0.same s13
    have hvl : menuS.length = (vs1 ++ vs2).length := Paired.length p12
    refine ⟨_, rfl, q3, rfl, ⟨_, SqL.of h3⟩, fun D nD => ?_⟩
    have sD := same_upd (o := .lst []) nD
    refine lc_it (walk_list (K := K) (a := q3) (xs := vs1 ++ vs2)) (fun i H' => ∃ fs, H' D = some (.lst fs) ∧ Paired (LstAt H H3) ((menuS.take i).filter fun is => decide (prodI is ≤ most)) fs ∧ Same H3 H') ⟨[], upd_same, .nil, sD⟩ (fun i H' _ ⟨_, _, _, sm⟩ => SqL.of (sm _ _ h3)) ?_ ?_
    · rintro i x H4 H5 hi ⟨fs, hD, hfs, sm⟩ ⟨rfl, hx⟩
      obtain ⟨is, his, a, rfl, na, ha⟩ := paired_get p12 hx
      have hmem := List.mem_of_getElem? his
      have ha5 := sm _ _ ha
      refine ⟨rfl, _, rfl, a, is, rfl, SqL.of ha5, (menuS_at hmem).2.2, _, rfl, _, _, rfl, rfl, _, rfl, ?_⟩
      cases e : decide (prodI is ≤ most) with
      | false =>
        refine iteF ⟨fs, hD, ?_, sm⟩
        rw [List.take_add_one, his, List.filter_append, show List.filter (fun is => decide (prodI is ≤ most)) (some is).toList = [] by show List.filter _ [is] = []; rw [List.filter_cons, e]; rfl, List.append_nil]
        exact hfs
      | true =>
        have hfl : fs.length ≤ 18 := by
          rw [← Paired.length hfs]
          exact Nat.le_trans (List.length_filter_le _ _) (by rw [List.length_take]; exact Nat.le_trans (Nat.min_le_right _ _) (by decide))
        refine iteT ⟨_, rfl, fs, hD, small1000 (by omega), _, upd_same, ?_, fun r o e => ?_⟩
        · rw [List.take_add_one, his, List.filter_append, show List.filter (fun is => decide (prodI is ≤ most)) (some is).toList = [is] by show List.filter _ [is] = [is]; rw [List.filter_cons, e]; rfl]
          exact paired_append hfs (.cons ⟨a, rfl, na, ha⟩ .nil)
        · rw [upd_ne (ne_of_none e nD)]
          exact sm _ _ e
    · rintro H' ⟨fs, hD, hfs, sm⟩
      rw [← hvl, List.take_length] at hfs
      have nDH : H D = none := s13.free nD
      refine ⟨_, rfl, _, rfl, b, k, D, ns, fs, rfl, B3.same sm, SqL.of hD, abag_not B3 nD, ?_, ?_, fun H6 x kb B6 hx => ?_⟩
      · intro z
        subst z
        have h0 := Paired.length hfs
        have hm2 : [2, 2] ∈ menuS.filter fun is => decide (prodI is ≤ most) := List.mem_filter.mpr ⟨by decide, decide_eq_true (by show (4 : Int) ≤ most; exact hm)⟩
        rw [List.length_nil] at h0
        rw [List.length_eq_zero_iff.mp h0] at hm2
        cases hm2
      · have h0 := Paired.length hfs
        have := List.length_filter_le (fun is => decide (prodI is ≤ most)) menuS
        have : menuS.length = 18 := rfl
        omega
      · obtain ⟨j, hj⟩ := List.mem_iff_getElem?.mp hx
        obtain ⟨is, his, a, rfl, na, ha⟩ := paired_get hfs hj
        have hmf := List.mem_filter.mp (List.mem_of_getElem? his)
        have hab : a ≠ b := abag_not B0 na
        refine q H6 a is ((But.of (s13.trans sm)).trans kb) B6 na (kb _ _ (sm _ _ ha) hab) ⟨hmf.1, of_decide_eq_true hmf.2⟩
end
end HG

namespace HG
open PySem PySem.Spec PyProof.Rows L2
open C8 (pss_cut tCut)
theorem for_enum {K : PySem.W.Frag} {a : Addr} {xs : List V} {g : TG} {tb : TS} {D : Ends} {σ : L2.St} {H : Hp} (Pv : Nat → L2.St → Hp → Prop) (h0 : Pv 0 σ H) (hq : ∀ i σ H, Pv i σ H → SqL K H a xs)
    (hs : ∀ (i : Nat) (x : V) (T : Addr) (σ : L2.St) (H : Hp), xs[i]? = some x → Pv i σ H → H T = none → g (.ref T) σ (upd H T (.tup [.int (i : Nat), x])) fun σ2 H2 => tb { D with nx := Pv (i + 1), ct := Pv (i + 1), bk := D.nx } σ2 H2) (hd : ∀ σ H, Pv xs.length σ H → D.nx σ H) :
    ∃ W : Nat → Nat → L2.St → Hp → Prop, (∃ m, W 0 m σ H) ∧ ∀ i m σ H, W i m σ H →
      ((Ite K a).stop i H ∧ D.nx σ H) ∨ ((Ite K a).go i H ∧ ∃ N : L2.St → Hp → Prop, (∀ σ' H', N σ' H' → ∃ m', m' < m ∧ W (i + 1) m' σ' H') ∧ ∀ v H', (Ite K a).yld i H v H' → g v σ H' fun σ2 H2 => tb { D with nx := N, ct := N, bk := D.nx } σ2 H2) := by
  refine ⟨fun i m σ H => m = xs.length - i ∧ i ≤ xs.length ∧ Pv i σ H, ⟨xs.length, rfl, Nat.zero_le _, h0⟩, ?_⟩
  rintro i m σ H ⟨rfl, hi, p⟩
  have qx := hq i σ H p
  by_cases hlt : i < xs.length
  · refine .inr ⟨⟨xs, xs[i], qx, List.getElem?_eq_getElem hlt⟩, Pv (i + 1), fun σ' H' p' => ⟨xs.length - (i + 1), by omega, rfl, hlt, p'⟩, fun v H' y => ?_⟩
    obtain ⟨T, x', rfl, hT, rfl, f1⟩ := y
    exact hs i x' T σ H (f1 xs qx) p hT
  · have e : i = xs.length := by omega
    subst e
    exact .inl ⟨⟨xs, qx, Nat.le_refl _⟩, hd σ H p⟩
/-- all names of a shape are of the menu -/
def MenuW (W : List Way) : Prop := ∀ q ∈ W, q.1 ∈ menuN ∧ ∀ z ∈ q.2, z ∈ menuN
def spLShape (K : PySem.W.Frag) : Sp := fun args H Q _ => ∃ (b k : Addr) (ns : List Int) (most : Int), args = [.ref b, .int most] ∧ ABag H b k ns ∧ 4 ≤ most ∧ most ≤ 81 ∧
  ∀ H' d W, But b H H' → ABag H' b k ns → H d = none → ShL (fun a => H a = none) H' d W → WOk W → wprod W ≤ most → MenuW W → Q (.ref d) H'
theorem wprod_prodI (W : List Way) : wprod W = prodI (W.map fun q => (q.2.length : Int)) := by
  unfold wprod prodI
  rw [List.foldl_map]
theorem not_take {α : Type} {zs : List α} (nd : zs.Nodup) {i : Nat} {z : α} (h : zs[i]? = some z) : z ∉ zs.take i := by
  intro hm
  obtain ⟨j, hj, ej⟩ := List.getElem_of_mem hm
  rw [List.length_take] at hj
  rw [List.getElem_take] at ej
  obtain ⟨hi, ei⟩ := List.getElem?_eq_some_iff.mp h
  have := (List.getElem_inj nd).mp (ej.trans ei.symm)
  omega
structure NmT (K : PySem.W.Frag) (mg : Str → Option Value) (fN fS fP : Addr) (dN dS dP : FuncData) : Prop where
  N : Fun K "_law_names" "_law_names" s_law_names fN dN
  bN : Binds K dN ["_law_bag_here", "_law_size"] []
  gN : mg "_law_names" = some (.ref fN)
  S : Fun K "_law_sizes" "_law_sizes" s_law_sizes fS dS
  bS : Binds K dS ["_law_bag_here", "_law_most"] []
  gS : mg "_law_sizes" = some (.ref fS)
  P : Fun K "_law_product" "_law_product" s_law_product fP dP
  bP : Binds K dP ["_law_numbers"] []
  gP : mg "_law_product" = some (.ref fP)
section
variable {P : Program} {w : World} {K : PySem.W.Frag} {mg : Str → Option Value} {base : Heap}
variable {fT fO fM fN fS fP : Addr} {dT dO dM dN dS dP : FuncData}
theorem ok_lshape {f : Addr} {fd : FuncData} (B : BT K mg fT fO dT dO) (M : MxT K mg fM dM) (N : NmT K mg fN fS fP dN dS dP) (me : mg "enumerate" = none) (F : Fun K "_law_shape" "_law_shape" s_law_shape f fd) : FnOk P w K mg base CX0 4 f fd ["_law_bag_here", "_law_most"] (spLShape K) := by
  have S : FnScope ["_law_bag_here", "_law_most", "_law_sizes_here", "_law_choosers", "_law_found", "_law_k", "_law_chooser"] ["_law_bag_here", "_law_most"] (defScope s_law_shape) := ⟨rfl, rfl, rfl, by decide +kernel, rfl, by decide +kernel, by decide +kernel⟩
  have nd := S.nd
  refine F.ok S (fun vs H Q E h => ?_) (fun cdv A outer s H vs Q E hr h => ?_)
  · obtain ⟨b, k, ns, most, rfl, _⟩ := h
    rfl
  · obtain ⟨b, k, ns, most, rfl, B0, hm, hm81, q⟩ := h
    have hu := hu_of hr
    refine ⟨_, pss_cons (ps_set (i := 2) nd rfl (Or.inl rfl) (pe_call (ok_sizes B N.P N.bP N.gP N.S) hr (by rfl) N.gS N.S.kp N.bS .nil pass0 (pa_cons (pv 0) (pa_cons (pv 1) pa_nil))))
      (pss_cons (ps_par (i := 3) (j := 4) (by rfl) nd rfl rfl (by decide) rfl rfl (pa_cons (pe_call (ok_names B M N.N) hr (by rfl) N.gN N.N.kp N.bN .nil pass0 (pa_cons (pv 0) (pa_cons (pe_callB call_len_seq (by rfl) B.ml PySem.boot_len (pa_cons (pv 2) pa_nil)) pa_nil))) (pa_cons pe_dnewK pa_nil)) (by rfl))
      (pss_cons (ps_for PassesOwn.never rfl (pi_enum (by rfl) me (pa_cons (pv 3) pa_nil)) (pg_tup rfl (pgs_cons (pg_name (i := 5) nd rfl (Or.inl rfl)) (pgs_cons (pg_name (i := 6) nd rfl (Or.inl rfl)) pgs_nil)))
        (pss_one (ps_dput hu (pv 4) (pv 6) (pe_call (ok_names B M N.N) hr (by rfl) N.gN N.N.kp N.bN .nil pass0 (pa_cons (pv 0) (pa_cons (pe_ix ix_list (pv 2) (pv 5) (fun _ _ => rfl)) pa_nil))) rfl)))
      (pss_one (ps_ret (pv 4))))), ?_⟩
    refine ⟨_, rfl, _, rfl, b, k, ns, most, rfl, B0, hm, fun H1 ps is kb1 B1 nps hps hsz => ?_⟩
    obtain ⟨l1, l4, hi4⟩ := menuS_at hsz.me
    refine ⟨_, rfl, _, rfl, ps, _, rfl, .inl (SqL.of hps), b, k, ns, is.length, by rw [List.length_map]; rfl, B1, by omega, fun H2 pz zs kb2 B2 npz hpz hzs => ?_⟩
    refine fun d nd2 => ⟨_, _, rfl, ?_⟩
    have s3 := same_upd (o := .dK []) nd2
    have kb02 := kb1.trans kb2
    have hpsb : ps ≠ b := abag_not B0 nps
    have hpzb : pz ≠ b := abag_not B1 npz
    have nd0 : H d = none := but_free kb02 B2 nd2
    refine ⟨_, rfl, pz, _, rfl, SqL.of (s3 _ _ hpz), for_enum (K := K) (a := pz) (xs := zs.map V.str) (fun i σ H' => ∃ W kvs v5 v6, σ = [some (.ref b), some (.int most), some (.ref ps), some (.ref pz), some (.ref d), v5, v6] ∧ But b H H' ∧ ABag H' b k ns ∧ H' d = some (.dK kvs) ∧ Paired (KvL (fun a => H a = none) H') W kvs ∧
      W.map (·.1) = zs.take i ∧ (W.map fun q => (q.2.length : Int)) = is.take i ∧ (∀ q ∈ W, (q.2.Nodup ∧ ∀ z ∈ q.2, isNm z = true) ∧ ∀ z ∈ q.2, z ∈ menuN) ∧ H' pz = some (.lst (zs.map V.str)) ∧ H' ps = some (.lst (is.map V.int)))
      ⟨[], [], none, none, rfl, kb02.trans (But.of s3), B2.same s3, upd_same, .nil, rfl, rfl, (fun _ h => nomatch h), s3 _ _ hpz, s3 _ _ (kb2 _ _ hps hpsb)⟩ (fun i σ H' ⟨_, _, _, _, _, _, _, _, _, _, _, _, hz, _⟩ => SqL.of hz) ?_ ?_⟩
    · rintro i y t σ H3 hi ⟨W, kvs, v5, v6, rfl, kb3, B3, hd, hW, e1, e2, hok, hz3, hs3⟩ nt
      rw [List.getElem?_map] at hi
      obtain ⟨z, hz, rfl⟩ := Option.map_eq_some_iff.mp hi
      have st := same_upd (o := .tup [.int (i : Nat), .str z]) nt
      have hil : i < is.length := by
        have := (List.getElem?_eq_some_iff.mp hz).1
        rw [hzs.len] at this
        exact this
      have hisi : is[i]? = some is[i] := List.getElem?_eq_getElem hil
      obtain ⟨m1, m4⟩ := hi4 is[i] (List.getElem_mem hil)
      refine ⟨t, _, rfl, SqT.of upd_same, rfl, _, _, rfl, _, _, rfl, rfl, ?_⟩
      refine ⟨_, rfl, _, rfl, _, rfl, ps, _, _, .int is[i], rfl, rfl, SqL.of (st _ _ hs3), atI_nat (by rw [List.getElem?_map, hisi]; rfl), b, k, ns, is[i].toNat, by rw [Int.toNat_of_nonneg (by omega)]; rfl, B3.same st, by omega, fun H4 pw ws kb4 B4 npw hpw hws => ?_⟩
      have kb34 : But b H3 H4 := (But.of st).trans kb4
      have hdb : d ≠ b := abag_not B0 nd0
      have hd4 := kb34 _ _ hd hdb
      have hlk : kvs.length = W.length := (Paired.length hW).symm
      have hWl : W.length ≤ 4 := by
        have := congrArg List.length e1
        rw [List.length_map, List.length_take, hzs.len] at this
        omega
      refine ⟨_, rfl, _, rfl, d, _, rfl, DPut.k (k := Sum.inr z) hd4 (small1000 (by omega)), ?_⟩
      have hnew : (Sum.inr z : Key) ∉ kvs.map (·.1) := by
        rw [keysL hW, e1]
        intro hmem
        obtain ⟨u, hu', eu⟩ := List.mem_map.mp hmem
        cases eu
        exact not_take hzs.nd hz hu'
      have npw0 : H pw = none := but_free (kb3.trans (But.of st)) (B3.same st) npw
      have up : ∀ (q : Way) (kv : Key × V), KvL (fun a => H a = none) H4 q kv → KvL (fun a => H a = none) (upd H4 d (.dK (putK kvs (Sum.inr z) (.ref pw)))) q kv := fun q kv ⟨e, c, ev, n, h⟩ => ⟨e, c, ev, n, by
        rw [upd_ne (ne_of h hd4 (by intro z; cases z))]
        exact h⟩
      refine ⟨W ++ [(z, ws)], kvs ++ [(Sum.inr z, .ref pw)], _, _, rfl, fun r o e hr => ?_, ?_, ?_, ?_, ?_, ?_, ?_, ?_, ?_⟩
      · rw [upd_ne (ne_of_none e nd0)]
        exact kb34 _ _ (kb3 _ _ e hr) hr
      · refine abag_upd B4 hdb fun z => ?_
        rw [z, abag_k B4] at hd4
        cases hd4
      · rw [upd_same, putK_new hnew]
      · rw [← putK_new hnew (v := .ref pw)]
        rw [putK_new hnew] at up ⊢
        refine paired_append (paired_imp hW fun q kv ⟨e, c, ev, n, h⟩ => up q kv ⟨e, c, ev, n, kb34 _ _ h (abag_not B0 n)⟩) (.cons (up _ _ ⟨rfl, pw, rfl, npw0, hpw⟩) .nil)
      · rw [List.map_append, e1, List.take_add_one, hz]
        rfl
      · rw [List.map_append, e2, List.take_add_one, hisi]
        show is.take i ++ [(ws.length : Int)] = _
        rw [hws.len, Int.toNat_of_nonneg (by omega)]
        rfl
      · intro q hq
        rcases List.mem_append.mp hq with hq | hq
        · exact hok q hq
        · rw [List.mem_singleton.mp hq]
          exact ⟨⟨hws.nd, hws.nm⟩, hws.me⟩
      · rw [upd_ne (ne_of hz3 hd (by intro z; cases z))]
        exact kb34 _ _ hz3 hpzb
      · rw [upd_ne (ne_of hs3 hd (by intro z; cases z))]
        exact kb34 _ _ hs3 hpsb
    · rintro σ H' ⟨W, kvs, v5, v6, rfl, kb, B', hd, hW, e1, e2, hok, hz3, hs3⟩
      rw [List.length_map, List.take_length] at e1
      rw [List.length_map, hzs.len, List.take_length] at e2
      have hWl : W.length = is.length := by
        rw [← e2, List.length_map]
      have hsz4 : ∀ q ∈ W, 1 ≤ q.2.length ∧ q.2.length ≤ 4 := fun q hq => by
        have hm : (q.2.length : Int) ∈ is := by
          rw [← e2]
          exact List.mem_map.mpr ⟨q, hq, rfl⟩
        have := hi4 _ hm
        omega
      have hpr : wprod W ≤ most := by
        rw [wprod_prodI, e2]
        exact hsz.pr
      refine ⟨_, rfl, q H' d W kb B' nd0 ⟨kvs, hd, hW⟩ ⟨by rw [e1]; exact hzs.nd, by omega, by omega, fun x hx => ?_, fun x hx => (hok x hx).1.1, fun x hx => (hsz4 x hx).1, fun x hx => (hsz4 x hx).2, fun x hx => (hok x hx).1.2, by omega⟩ hpr (fun x hx => ⟨hzs.me _ (by rw [← e1]; exact List.mem_map.mpr ⟨x, hx, rfl⟩), (hok x hx).2⟩)⟩
      refine hzs.nm _ ?_
      rw [← e1]
      exact List.mem_map.mpr ⟨x, hx, rfl⟩
end
end HG

namespace HG
open PySem PySem.Spec PyProof.Rows L2
open C8 (pss_cut tCut)
def spWider (K : PySem.W.Frag) : Sp := fun args H Q _ => ∃ (p r : Addr) (sts : List (List Str)) (vs : List V) (ws : List Str), args = [.ref p, .ref r] ∧ H p = some (.lst vs) ∧ TupsAt H sts vs ∧ H r = some (.lst (ws.map V.str)) ∧ sts.length * ws.length ≤ 256 ∧ sts.length ≤ 256 ∧ ws.length ≤ 4 ∧ (∀ st ∈ sts, st.length ≤ 4) ∧
  ∀ H' q us, Same H H' → H q = none → H' q = some (.lst us) → TupsAt H' (mul1 sts ws) us → Q (.ref q) H'
theorem mul1_take {sts : List (List Str)} {ws : List Str} {i : Nat} (hi : i ≤ sts.length) : (mul1 (sts.take i) ws).length = i * ws.length := by
  rw [mul1_len, List.length_take, Nat.min_eq_left hi]
section
variable {P : Program} {w : World} {K : PySem.W.Frag} {mg : Str → Option Value} {base : Heap}
theorem ok_wider {f : Addr} {fd : FuncData} (F : Fun K "_law_wider" "_law_wider" s_law_wider f fd) : FnOk P w K mg base CX0 1 f fd ["_law_some", "_law_ways"] (spWider K) := by
  have S : FnScope ["_law_some", "_law_ways", "_law_found", "_law_one_here", "_law_way"] ["_law_some", "_law_ways"] (defScope s_law_wider) := ⟨rfl, rfl, rfl, by decide +kernel, rfl, by decide +kernel, by decide +kernel⟩
  have nd := S.nd
  refine F.ok S (fun vs H Q E h => ?_) (fun cdv A outer s H vs Q E hr h => ?_)
  · obtain ⟨p, r, sts, vs, ws, rfl, _⟩ := h
    rfl
  · obtain ⟨p, r, sts, vs, ws, rfl, hp, ht, hr0, hsz, hs1, hw4, hst4, q⟩ := h
    refine ⟨_, pss_cons (ps_set (i := 2) nd rfl (Or.inl rfl) (pe_lst pa_nil))
      (pss_cons (ps_for PassesOwn.never rfl (pi_list (pv 0)) (pg_name (i := 3) nd rfl (Or.inr rfl))
        (pss_one (ps_expr (pe_bm PySem.F.plainAttrs_list PySem.F.slot_list_extend PySem.F.type_list_extend mt_extend (pv 2) (pa_cons
          (pe_lc (own := [("_law_way", 4)]) (g := gName 4) (tt := tYes) rfl nd (pi_list (pv 1)) (blkOk_by (N := ["_law_some", "_law_ways", "_law_found", "_law_one_here", "_law_way"]) (sc := defScope s_law_wider) (by decide +kernel)) (fun _ _ _ _ _ => pg_name (i := 4) nd rfl (Or.inl rfl)) (fun _ _ _ _ _ => pts_nil)
            (fun _ _ _ _ _ => pe_op op_catB (pv 3) (pe_tup (pa_cons (pv 4) pa_nil)))) pa_nil)))))
      (pss_one (ps_ret (pv 2)))), ?_⟩
    refine ⟨(by show 0 ≤ sizeLine; decide), fun q0 n0 => ?_⟩
    have s0 := same_upd (o := .lst []) n0
    have hl : sts.length = vs.length := Paired.length ht
    refine ⟨_, rfl, p, rfl, ⟨_, SqL.of (s0 _ _ hp)⟩, for_it (walk_list (K := K) (a := p) (xs := vs)) (fun i σ H' => ∃ us v3 v4, σ = [some (.ref p), some (.ref r), some (.ref q0), v3, v4] ∧ Same H H' ∧ H' q0 = some (.lst us) ∧ TupsAt H' (mul1 (sts.take i) ws) us) ⟨[], none, none, rfl, s0, upd_same, .nil⟩ (fun i σ H' _ ⟨_, _, _, _, sm, _⟩ => SqL.of (sm _ _ hp)) ?_ ?_⟩
    · rintro i x σ H1 H2 hi ⟨us, v3, v4, rfl, sm, hq, hus⟩ ⟨rfl, hx⟩
      obtain ⟨st, hst, c, rfl, hc⟩ := paired_get ht hx
      have hc2 := sm _ _ hc
      refine ⟨_, rfl, .inl ⟨rfl, _, SqL.of hq⟩, ?_⟩
      refine ⟨_, rfl, r, rfl, ⟨_, SqL.of (sm _ _ hr0)⟩, fun D nD => ?_⟩
      have sD := same_upd (o := .lst []) nD
      refine lc_it (walk_list (K := K) (a := r) (xs := ws.map V.str)) (fun j H' => ∃ zs, H' D = some (.lst zs) ∧ TupsAt H' ((ws.take j).map fun w => st ++ [w]) zs ∧ Same H2 H') ⟨[], upd_same, .nil, sD⟩ (fun j H' _ ⟨_, _, _, s'⟩ => SqL.of (s' _ _ (sm _ _ hr0))) ?_ ?_
      · rintro j x H3 H4 hj ⟨zs, hD, hzs, s3⟩ ⟨rfl, hx'⟩
        rw [List.length_map] at hj
        have ex : x = .str (ws[j]) := by
          rw [List.getElem?_map, List.getElem?_eq_getElem hj] at hx'
          exact (Option.some.inj hx').symm
        subst ex
        have hl4 := hst4 st (List.mem_of_getElem? hst)
        refine ⟨rfl, _, rfl, _, rfl, (by show 1 ≤ sizeLine; decide), fun p5 n5 => ?_⟩
        have s5 := same_upd (o := .tup [V.str (ws[j])]) n5
        refine ⟨c, p5, _, _, rfl, rfl, s5 _ _ (s3 _ _ hc2), upd_same, (by rw [List.length_map]; show st.length + 1 ≤ 1000; omega), fun H6 p6 s6 h6 => ?_⟩
        have hD6 := s6 _ _ (s5 _ _ hD)
        have ht6 := (hzs.same (s5.trans s6)).upd (o := .lst (zs ++ [.ref p6])) hD6
        refine ⟨zs, hD6, small1000 ?_, _, upd_same, ?_, fun b o e => ?_⟩
        · rw [← Paired.length hzs, List.length_map, List.length_take]
          omega
        · rw [List.take_add_one, List.getElem?_eq_getElem hj, List.map_append]
          refine paired_append ht6 (.cons ⟨p6, rfl, ?_⟩ .nil)
          rw [upd_ne (ne_of h6 hD6 (by intro z; cases z)), h6, List.map_append]
          rfl
        · rw [upd_ne (ne_of_none e nD)]
          exact s6 _ _ (s5 _ _ (s3 _ _ e))
      · rintro H3 ⟨zs, hD, hzs, s3⟩
        rw [List.length_map, List.take_length] at hzs
        have hq3 := s3 _ _ hq
        have e1 : us.length = i * ws.length := by rw [← Paired.length hus, mul1_take (by omega)]
        have e2 : zs.length = ws.length := by rw [← Paired.length hzs, List.length_map]
        have hb : us.length + zs.length ≤ 256 := by
          rw [e1, e2]
          calc i * ws.length + ws.length = (i + 1) * ws.length := (Nat.succ_mul _ _).symm
            _ ≤ sts.length * ws.length := Nat.mul_le_mul_right _ (by omega)
            _ ≤ 256 := hsz
        refine ⟨q0, D, us, zs, rfl, rfl, hq3, hD, Nat.le_trans hb (by rw [sizeLine_eq]; decide), ?_⟩
        refine ⟨_, _, _, rfl, fun b o e => ?_, upd_same, ?_⟩
        · rw [upd_ne (ne_of_none e n0)]
          exact s3 _ _ (sm _ _ e)
        · rw [mul1_more hst]
          exact paired_append ((hus.same s3).upd hq3) (hzs.upd hq3)
    · rintro σ H' ⟨us, v3, v4, rfl, sm, hq, hus⟩
      rw [← hl, List.take_length] at hus
      exact ⟨_, rfl, q H' q0 us sm n0 hq hus⟩
end
end HG

namespace HG
open PySem PySem.Spec PyProof.Rows L2
open C8 (pss_cut tCut)
def spLStds (K : PySem.W.Frag) : Sp := fun args H Q _ => ∃ (d : Addr) (W : List Way), args = [.ref d] ∧ ShAt H d W ∧ WOk W ∧ ∀ H' p vs, Same H H' → H p = none → H' p = some (.lst vs) → TupsAt H' (stds (sh W)) vs → Q (.ref p) H'
section
variable {P : Program} {w : World} {K : PySem.W.Frag} {mg : Str → Option Value} {base : Heap}
variable {fW : Addr} {dW : FuncData}
theorem ok_lstandings {f : Addr} {fd : FuncData} (ms : mg "sorted" = none) (FW : Fun K "_law_wider" "_law_wider" s_law_wider fW dW) (bW : Binds K dW ["_law_some", "_law_ways"] []) (gW : mg "_law_wider" = some (.ref fW)) (F : Fun K "_law_standings" "_law_standings" s_law_standings f fd) :
    FnOk P w K mg base CX0 2 f fd ["_law_ways"] (spLStds K) := by
  have S : FnScope ["_law_ways", "_law_found", "_law_chooser"] ["_law_ways"] (defScope s_law_standings) := ⟨rfl, rfl, rfl, by decide +kernel, rfl, by decide +kernel, by decide +kernel⟩
  have nd := S.nd
  refine F.ok S (fun vs H Q E h => ?_) (fun cdv A outer s H vs Q E hr h => ?_)
  · obtain ⟨d, W, rfl, _⟩ := h
    rfl
  · obtain ⟨d, W, rfl, hsh, ok, q⟩ := h
    have hu := hu_of hr
    obtain ⟨kvs, hd, hp⟩ := id hsh
    have sok := ok.sok
    refine ⟨_, pss_cons (ps_set (i := 1) nd rfl (Or.inl rfl) (pe_lst (pa_cons (pe_tup pa_nil) pa_nil)))
      (pss_cons (ps_for PassesOwn.never rfl (pi_list (pe_callB (call_srtD rfl) (by rfl) ms (by decide +kernel) (pa_cons (pv 0) pa_nil))) (pg_name (i := 2) nd rfl (Or.inl rfl))
        (pss_one (ps_set (i := 1) nd rfl (Or.inl rfl) (pe_call (ok_wider FW) hr (by rfl) gW FW.kp bW .nil pass0 (pa_cons (pv 1) (pa_cons (pe_callB (id := "sorted") (r := rSrt K) call_srt (by rfl) ms (by decide +kernel) (pa_cons (pe_dget hu (pv 0) (pv 2) (fun _ _ => rfl)) pa_nil)) pa_nil))))))
      (pss_one (ps_ret (pv 1)))), ?_⟩
    refine ⟨(by show 0 ≤ sizeLine; decide), fun p0 n0 => ?_⟩
    have s0 := same_upd (o := .tup []) n0
    refine ⟨(by show 1 ≤ sizeLine; decide), fun p1 n1 => ?_⟩
    have s1 := same_upd (o := .lst [V.ref p0]) n1
    have s01 := s0.trans s1
    refine ⟨_, rfl, d, kvs, W.map (·.1), rfl, s01 _ _ hd, keysK hp, (by rw [List.length_map]; exact Nat.lt_of_le_of_lt ok.n4 (by decide)), fun p2 n2 => ?_⟩
    have s2 := same_upd (o := .lst ((srt (W.map (·.1))).map V.str)) n2
    have s02 := s01.trans s2
    have hl2 : (upd (upd (upd H p0 (.tup [])) p1 (.lst [V.ref p0])) p2 (.lst ((srt (W.map (·.1))).map V.str))) p2 = some (.lst ((srt (W.map (·.1))).map V.str)) := upd_same
    have hl1 : (upd (upd (upd H p0 (.tup [])) p1 (.lst [V.ref p0])) p2 (.lst ((srt (W.map (·.1))).map V.str))) p1 = some (.lst [V.ref p0]) := s2 _ _ upd_same
    have hl0 : (upd (upd (upd H p0 (.tup [])) p1 (.lst [V.ref p0])) p2 (.lst ((srt (W.map (·.1))).map V.str))) p0 = some (.tup []) := s2 _ _ (s1 _ _ upd_same)
    generalize upd (upd (upd H p0 (.tup [])) p1 (.lst [V.ref p0])) p2 (.lst ((srt (W.map (·.1))).map V.str)) = H2 at s02 hl2 hl1 hl0
    refine ⟨p2, rfl, ⟨_, SqL.of hl2⟩, for_it (walk_list (K := K) (a := p2) (xs := (srt (W.map (·.1))).map V.str)) (fun i σ H' => ∃ p vs v2, σ = [some (.ref d), some (.ref p), v2] ∧ Same H2 H' ∧ H p = none ∧ H' p = some (.lst vs) ∧ TupsAt H' (stds ((sh W).take i)) vs) ⟨p1, [.ref p0], none, rfl, Same.refl _, s0.free n1, hl1, .cons ⟨p0, rfl, hl0⟩ .nil⟩ (fun i σ H' _ ⟨_, _, _, _, sm, _⟩ => SqL.of (sm _ _ hl2)) ?_ ?_⟩
    · rintro i x σ H3 H4 hi ⟨p, vs, v2, rfl, sm, np, hpv, hvs⟩ ⟨rfl, hx⟩
      rw [List.length_map] at hi
      have ex : x = .str (srt (W.map (·.1)))[i] := by
        rw [List.getElem?_map, List.getElem?_eq_getElem hi] at hx
        exact (Option.some.inj hx).symm
      subst ex
      obtain ⟨qw, hqw, ek⟩ := List.mem_map.mp (srt_mem.mp (List.getElem_mem hi))
      have e0 : (sh W)[i]? = some (qw.1, srt qw.2) := by
        unfold sh
        rw [List.getElem?_map, List.getElem?_eq_getElem hi, ← ek]
        show some (qw.1, srt (lookW W qw.1)) = _
        rw [lookW_of ok.nd hqw]
      have s03 := s02.trans sm
      have hp4 := paired_imp hp fun a b (q : KvW H a b) => (⟨q.1, q.2.same s03⟩ : KvW H4 a b)
      obtain ⟨v, hv, hw1⟩ := valV_of hp4 ok.nd hqw
      obtain ⟨a, rfl, ha⟩ := hw1.sq (K := K)
      have hg : DGet H4 d (.str (srt (W.map (·.1)))[i]) (some (.ref a)) := by
        rw [← ek, ← hv]
        exact DGet.k (k := Sum.inr qw.1) (s03 _ _ hd)
      refine ⟨_, rfl, _, rfl, _, rfl, d, _, rfl, hg, a, qw.2, rfl, ha, Nat.lt_of_le_of_lt (ok.w4 qw hqw) (by decide), fun a2 n2 => ?_⟩
      have s4 := same_upd (o := .lst ((srt qw.2).map V.str)) n2
      have hi' : i < (sh W).length := (List.getElem?_eq_some_iff.mp e0).1
      have hb1 : (stds ((sh W).take (i + 1))).length ≤ 256 := sok.take (i + 1)
      rw [stds_more e0, mul1_len] at hb1
      refine ⟨p, a2, stds ((sh W).take i), vs, srt qw.2, rfl, s4 _ _ hpv, hvs.same s4, upd_same, hb1, sok.take i, by rw [srt_len]; exact ok.w4 qw hqw, fun st hst => ?_, fun H5 p5 us s5 n5 h5 hus => ?_⟩
      · rw [stds_mem hst, List.length_take]
        have := sok.n4
        omega
      · exact ⟨p5, us, _, rfl, sm.trans (s4.trans s5), (s03.trans s4).free n5, h5, by rw [stds_more e0]; exact hus⟩
    · rintro σ H' ⟨p, vs, v2, rfl, sm, np, hpv, hvs⟩
      rw [List.length_map, show (srt (W.map (·.1))).length = (sh W).length from (List.length_map ..).symm, List.take_length] at hvs
      exact ⟨_, rfl, q H' p vs (s02.trans sm) np hpv hvs⟩
end
end HG

namespace HG
open PySem PySem.Spec PyProof.Rows L2
open C8 (pss_cut tCut)
def NumOk (z : Int) : Prop := -(10 ^ 60) ≤ z ∧ z ≤ 10 ^ 60
def spNumber : Sp := fun args H Q _ => ∃ (b k : Addr) (ns : List Int) (y : Int), args = [.ref b, .int y] ∧ ABag H b k ns ∧ ∀ H' z, But b H H' → ABag H' b k ns → NumOk z → Q (.int z) H'
section
variable {P : Program} {w : World} {K : PySem.W.Frag} {mg : Str → Option Value} {base : Heap}
variable {fT fO : Addr} {dT dO : FuncData}
theorem ok_number {f : Addr} {fd : FuncData} (B : BT K mg fT fO dT dO) (F : Fun K "_law_number" "_law_number" s_law_number f fd) : FnOk P w K mg base CX0 2 f fd ["_law_bag_here", "_law_style"] spNumber := by
  have S : FnScope ["_law_bag_here", "_law_style"] ["_law_bag_here", "_law_style"] (defScope s_law_number) := ⟨rfl, rfl, rfl, by decide +kernel, rfl, by decide +kernel, by decide +kernel⟩
  refine F.ok S (fun vs H Q E h => ?_) (fun cdv A outer s H vs Q E hr h => ?_)
  · obtain ⟨b, k, ns, y, rfl, _⟩ := h
    rfl
  · obtain ⟨b, k, ns, y, rfl, B0, q⟩ := h
    have T := ok_take (P := P) (w := w) (base := base) B.T B.ml B.mi
    refine ⟨_, pss_cons (ps_if (pt_cmpR op_eq (pv 1) pe_int (nomark _)) (pss_one (ps_ret (pe_op op_sub (pe_call T (hr.mono (by decide)) (by rfl) B.gT B.T.kp B.bT .nil pass0 (pa_cons (pv 0) (pa_cons pe_int pa_nil))) pe_int))) pss_nil)
      (pss_cons (ps_if (pt_cmpR op_eq (pv 1) pe_int (nomark _)) (pss_one (ps_ret (pe_op op_sub (pe_call T (hr.mono (by decide)) (by rfl) B.gT B.T.kp B.bT .nil pass0 (pa_cons (pv 0) (pa_cons pe_int pa_nil))) pe_int))) pss_nil)
      (pss_cons (ps_if (pt_cmpR op_eq (pv 1) pe_int (nomark _)) (pss_one (ps_ret (pe_op op_add (pe_op op_mul (pe_op op_sub (pe_call T (hr.mono (by decide)) (by rfl) B.gT B.T.kp B.bT .nil pass0 (pa_cons (pv 0) (pa_cons pe_int pa_nil))) pe_int) (pe_op op_pow pe_int pe_int))
          (pe_call T (hr.mono (by decide)) (by rfl) B.gT B.T.kp B.bT .nil pass0 (pa_cons (pv 0) (pa_cons pe_int pa_nil)))))) pss_nil)
      (pss_one (ps_ret (pe_ix ix_list (pe_lst (pa_cons pe_int (pa_cons pe_int (pa_cons (pe_un un_neg pe_int) (pa_cons (pe_op op_pow pe_int pe_int) (pa_cons (pe_un un_neg (pe_op op_pow pe_int pe_int)) pa_nil))))))
        (pe_call T (hr.mono (by decide)) (by rfl) B.gT B.T.kp B.bT .nil pass0 (pa_cons (pv 0) (pa_cons pe_int pa_nil))) (fun _ _ => rfl)))))), ?_⟩
    refine ⟨_, rfl, rfl, _, rfl, ite2 (fun _ => ?_) (fun _ => ?_)⟩
    · exact ⟨_, rfl, b, k, ns, _, rfl, B0, by decide, by decide, fun H1 d kb B1 d0 d1 => ⟨_, _, rfl, rfl, q _ _ kb B1 ⟨by omega, by omega⟩⟩⟩
    refine ⟨_, rfl, rfl, _, rfl, ite2 (fun _ => ?_) (fun _ => ?_)⟩
    · exact ⟨_, rfl, b, k, ns, _, rfl, B0, by decide, by decide, fun H1 d kb B1 d0 d1 => ⟨_, _, rfl, rfl, q _ _ kb B1 ⟨by omega, by omega⟩⟩⟩
    refine ⟨_, rfl, rfl, _, rfl, ite2 (fun _ => ?_) (fun _ => ?_)⟩
    · refine ⟨_, rfl, b, k, ns, _, rfl, B0, by decide, by decide, fun H1 d kb B1 d0 d1 => ⟨_, _, rfl, rfl, _, _, rfl, rfl, ⟨by decide, by decide, by decide⟩, _, _, rfl, rfl, .inl ⟨by omega, by omega⟩, ?_⟩⟩
      have e20 : (10 : Int) ^ (20 : Int).toNat = 100000000000000000000 := by decide
      refine ⟨_, rfl, b, k, ns, _, rfl, B1, by decide, by decide, fun H2 d2 kb2 B2 e0 e1 => ⟨_, _, rfl, rfl, q _ _ (kb.trans kb2) B2 ?_⟩⟩
      rw [e20]
      exact ⟨by omega, by omega⟩
    · refine ⟨_, rfl, _, _, rfl, rfl, ⟨by decide, by decide, by decide⟩, _, _, rfl, rfl, ⟨by decide, by decide, by decide⟩, _, rfl, (by show 5 ≤ sizeLine; decide), fun p np => ?_⟩
      generalize hxs : [V.int 0, V.int 1, V.int (-1), V.int (10 ^ (60 : Int).toNat), V.int (-10 ^ (60 : Int).toNat)] = xs
      have hxl : xs.length = 5 := by rw [← hxs]; rfl
      have hxi : ∀ x ∈ xs, ∃ z, x = V.int z ∧ NumOk z := by
        subst hxs
        intro x hx
        simp only [List.mem_cons, List.not_mem_nil, or_false] at hx
        rcases hx with rfl | rfl | rfl | rfl | rfl <;> exact ⟨_, rfl, by unfold NumOk; decide⟩
      have sp := same_upd (o := .lst xs) np
      refine ⟨_, rfl, b, k, ns, _, rfl, B0.same sp, by decide, by decide, fun H1 d kb B1 d0 d1 => ?_⟩
      have hpb : p ≠ b := abag_not B0 np
      have hj : d.toNat < xs.length := by omega
      obtain ⟨z, hz, hzo⟩ := hxi xs[d.toNat] (List.getElem_mem hj)
      exact ⟨p, xs, d, .int z, rfl, rfl, SqL.of (kb _ _ upd_same hpb), at_of (j := d.toNat) (by omega) (by rw [List.getElem?_eq_getElem hj, hz]), q _ _ ((But.of sp).trans kb) B1 hzo⟩
end
end HG

namespace HG
open PySem PySem.Spec PyProof.Rows L2
/-! ### a dict whose keys are (number, tuple of texts), its values numbers -/
abbrev Line := Int × List Str
def lineK (k : Line) : NestedKey := .tup [.num k.1, .tup (k.2.map NestedKey.text)]
theorem lineK_inj {a b : Line} (h : lineK a = lineK b) : a = b := by
  obtain ⟨i, s⟩ := a
  obtain ⟨j, t⟩ := b
  simp only [lineK, NestedKey.tup.injEq, List.cons.injEq, NestedKey.num.injEq, and_true] at h
  have h2 : s = t := List.map_inj_right (fun _ _ h => NestedKey.text.inj h) |>.mp h.2
  rw [h.1, h2]
def LineAt (H : Hp) (b : Addr) (k : Line) : Prop := ∃ c, H b = some (.tup [.int k.1, .ref c]) ∧ H c = some (.tup (k.2.map V.str))
theorem LineAt.same {H H' : Hp} {b : Addr} {k : Line} (h : LineAt H b k) (s : ∀ c xs, H c = some (.tup xs) → H' c = some (.tup xs)) : LineAt H' b k := let ⟨c, h1, h2⟩ := h; ⟨c, s _ _ h1, s _ _ h2⟩
theorem texts_all {h : Heap} : ∀ {zs : List Str} {its : List Value}, Vals (zs.map V.str) its → NestedAll h (zs.map NestedKey.text) its
  | [], _, .nil => .nil
  | z :: r, _, .cons q t => by
    obtain ⟨t0, rfl⟩ := q
    exact .cons (.text z t0) (texts_all t)
theorem depth_texts : ∀ zs : List Str, NestedKey.depthAll (zs.map NestedKey.text) = 0
  | [] => rfl
  | _ :: r => by
    rw [List.map_cons, NestedKey.depthAll, depth_texts r]
    rfl
theorem line_is {P : Program} {w : World} {H : Hp} {h : Heap} {b : Addr} {k : Line} (ok : HOk P w H h) (l : LineAt H b k) : (nestedKind P w).is h (lineK k) b := by
  obtain ⟨c, hb, hc⟩ := l
  obtain ⟨_, its, r, o, h1, h2, n, h3⟩ := (show ObjOk P w H h b (.tup [.int k.1, .ref c]) from ok b _ hb)
  obtain ⟨_, its2, r2, o2, k1, k2, n2, k3⟩ := (show ObjOk P w H h c (.tup (k.2.map V.str)) from ok c _ hc)
  cases r with
  | cons q1 t1 =>
    cases t1 with
    | cons q2 t2 =>
      cases t2
      obtain ⟨t0, rfl⟩ := q1
      cases q2
      refine ⟨.tup h1 h2 h3 (.cons (.int _ _) (.cons (.tup k1 k2 k3 (texts_all r2)) .nil)), ?_⟩
      show (lineK k).depth ≤ 8
      unfold lineK
      rw [NestedKey.depth, NestedKey.depthAll, NestedKey.depth, NestedKey.depthAll, NestedKey.depth, depth_texts, NestedKey.depthAll]
      decide
/-- the dict's own cell, entry by entry -/
def rawD (d : Addr) (es : Array DictEntry) (ep : Nat) : HO := .ext fun h => (d == sysModules) = false ∧ ∃ o, h.get? d = some o ∧ o.ExactDict ∧ o.data = .dict es ep
theorem rawD_ok {P : Program} {w : World} {H : Hp} {h : Heap} {d : Addr} {es : Array DictEntry} {ep : Nat} (hs : (d == sysModules) = false) {o : Obj} (e : h.get? d = some o) (x : o.ExactDict) (q : o.data = .dict es ep) : ObjOk P w H h d (rawD d es ep) :=
  ⟨⟨hs, o, e, x, q⟩, ⟨_, e⟩, fun h1 h2 ⟨hs, o, e, x, q⟩ k => ⟨hs, o, k _ e, x, q⟩⟩
def EntN (H : Hp) (k : Line) (x : NestedKey × Addr × Value) : Prop := x.1 = lineK k ∧ LineAt H x.2.1 k ∧ ∃ z t, x.2.2 = Value.int z t ∧ NumOk z
def ND (P : Program) (w : World) (H : Hp) (d : Addr) (ks : List Line) : Prop := ∃ es ep xs, H d = some (rawD d es ep) ∧ es.toList = xs.map (entryOfKey (nestedKind P w)) ∧ (xs.map (·.1)).Nodup ∧ Paired (EntN H) ks xs
theorem ND.same {P : Program} {w : World} {H H' : Hp} {d : Addr} {ks : List Line} (h : ND P w H d ks) (s : Same H H') : ND P w H' d ks := by
  obtain ⟨es, ep, xs, e, he, hn, hp⟩ := h
  exact ⟨es, ep, xs, s _ _ e, he, hn, paired_imp hp fun _ _ ⟨a, b, c⟩ => ⟨a, b.same fun _ _ q => s _ _ q, c⟩⟩
theorem ND.but {P : Program} {w : World} {H H' : Hp} {d b : Addr} {ks : List Line} (h : ND P w H d ks) (kb : But b H H') (hd : d ≠ b) {xs0 : List V} (hb : H b = some (.lst xs0)) : ND P w H' d ks := by
  obtain ⟨es, ep, xs, e, he, hn, hp⟩ := h
  exact ⟨es, ep, xs, kb _ _ e hd, he, hn, paired_imp hp fun _ _ ⟨a, l, c⟩ => ⟨a, l.same fun _ _ q => kb _ _ q (fun z => by rw [z, hb] at q; cases q), c⟩⟩
theorem keysN {H : Hp} {ks : List Line} {xs : List (NestedKey × Addr × Value)} (h : Paired (EntN H) ks xs) : xs.map (·.1) = ks.map lineK := by
  induction h with
  | nil => rfl
  | cons r _ ih => rw [List.map_cons, List.map_cons, ih, r.1]
theorem atKey_some {xs : List (NestedKey × Addr × Value)} {k : NestedKey} : (atKey xs k).isSome = decide (k ∈ xs.map (·.1)) := by
  unfold atKey
  rw [Option.isSome_map]
  rw [Bool.eq_iff_iff, decide_eq_true_iff]
  constructor
  · intro h
    obtain ⟨x, hx⟩ := Option.isSome_iff_exists.mp h
    have h1 := List.find?_some hx
    exact List.mem_map.mpr ⟨x, List.mem_of_find?_eq_some hx, of_decide_eq_true h1⟩
  · intro h
    obtain ⟨x, hx, e⟩ := List.mem_map.mp h
    rw [List.find?_isSome]
    exact ⟨x, hx, decide_eq_true e⟩
theorem has_iff {H : Hp} {ks : List Line} {xs : List (NestedKey × Addr × Value)} (h : Paired (EntN H) ks xs) (k : Line) : (atKey xs (lineK k)).isSome = decide (k ∈ ks) := by
  rw [atKey_some, keysN h]
  rw [Bool.eq_iff_iff, decide_eq_true_iff, decide_eq_true_iff, List.mem_map]
  exact ⟨fun ⟨a, ha, e⟩ => lineK_inj e ▸ ha, fun h => ⟨k, h, rfl⟩⟩
section
variable {X : Cx} {pins : List (Addr × Obj)} {σ : L2.St} {H : Hp} {s : Shared} {d b : Addr} {ks : List Line} {k : Line}
theorem nd_of (I : Inv X pins σ H s) (h : ND X.prog X.w H d ks) : ∃ xs, (d == sysModules) = false ∧ s.heap.DictOfH (nestedKind X.prog X.w) d xs ∧ Paired (EntN H) ks xs := by
  obtain ⟨es, ep, xs, e, he, hn, hp⟩ := h
  obtain ⟨⟨hs, o, ho, hx, hd⟩, _⟩ := I.hok d _ e
  refine ⟨xs, hs, ⟨o, es, ep, ho, hx, hd, he, fun x hx => ?_, hn⟩, hp⟩
  obtain ⟨j, hj⟩ := List.mem_iff_getElem?.mp hx
  obtain ⟨k, _, e1, l, _⟩ := paired_get hp hj
  rw [e1]
  exact line_is I.hok l
def tDNewN : TE := fun _ H Q => ∀ p, H p = none → Q (.ref p) (upd H p (rawD p #[] 0))
theorem pe_dnewN {pos : Pos} : PE X (.Dict [] [] pos) tDNewN := ⟨fun pins s σ H Q I h =>
  wpAny_Dict_empty ⟨.ref s.heap.objs.size, _, I.laid (a := s.heap.objs.size) (o := rawD s.heap.objs.size #[] 0) (t' := s.toks) (fun _ _ q => Heap.get?_push_of_some _ q) (Nat.le_refl _) (rawD_ok (beq_eq_false_iff_ne.mpr (Ne.symm (Nat.ne_of_lt I.big))) (Heap.get?_push_size _ rfl) ⟨rfl, rfl, rfl⟩ rfl), rfl, h _ (I.hok.fresh (Nat.le_refl _))⟩⟩
theorem nd_new {P : Program} {w : World} {H : Hp} {p : Addr} : ND P w (upd H p (rawD p #[] 0)) p [] := ⟨#[], 0, [], upd_same, rfl, List.nodup_nil, .nil⟩
def rNotInN (P : Program) (w : World) : R2 := fun x y H Q => ∃ b d k ks, x = .ref b ∧ y = .ref d ∧ LineAt H b k ∧ ND P w H d ks ∧ Q (.bl (!decide (k ∈ ks))) H
theorem op_notInN (hu : X.A.units + 64 < cLine) : OpR X (compareOp .NotIn) (rNotInN X.prog X.w) := by
  intro pins s σ H x y v u Q I rx ry h
  obtain ⟨b, d, k, ks, rfl, rfl, l, n, q⟩ := h
  cases (show v = Value.ref b from rx)
  cases (show u = Value.ref d from ry)
  obtain ⟨xs, hs, hx, hp⟩ := nd_of I n
  refine notIn_keyed (knd := nestedKind X.prog X.w) (k := lineK k) (show X.A.units + 1 + 8 < cLine by omega) (line_is I.hok l) hs ⟨xs, hx, rfl⟩ ?_
  rw [valueAt_pairsH, Option.isSome_map, has_iff hp k]
  exact ⟨.bl _, H, I.tok _, rfl, q⟩
def tGetN (P : Program) (w : World) (td ty : TE) : TE := fun σ H Q => td σ H fun x H1 => ty σ H1 fun y H2 => ∃ b d k ks, x = .ref d ∧ y = .ref b ∧ LineAt H2 b k ∧ ND P w H2 d ks ∧ k ∈ ks ∧ ∀ z, NumOk z → Q (.int z) H2
theorem pe_getN {o i : Expr} {pos : Pos} {td ty : TE} (hu : X.A.units + 64 < cLine) (ho : PE X o td) (hi : PE X i ty) (hs : NoSl i) : PE X (.Subscript o i pos) (tGetN X.prog X.w td ty) := by
  refine ⟨fun pins s σ H Q I h => ?_⟩
  refine subD_of PySem.F.slot_dict_getitem.lookup hs (thn (ho.run pins s σ H _ I h) fun u s1 ⟨x, H1, I1, rx, q1⟩ => thn (hi.run pins s1 σ H1 _ I1 q1) fun iv s2 ⟨y, H2, I2, ry, b, d, k, ks, ex, ey, l, n, hk, q2⟩ => ?_)
  subst ex ey
  cases (show u = Value.ref d from rx)
  cases (show iv = Value.ref b from ry)
  obtain ⟨xs, hsm, hx, hp⟩ := nd_of I2 n
  have hsome : (atKey xs (lineK k)).isSome = true := by rw [has_iff hp k]; exact decide_eq_true hk
  obtain ⟨p, hpk⟩ := Option.isSome_iff_exists.mp hsome
  obtain ⟨x, hxf, ex⟩ := Option.map_eq_some_iff.mp hpk
  obtain ⟨j, hj⟩ := List.mem_iff_getElem?.mp (List.mem_of_find?_eq_some hxf)
  obtain ⟨k', _, _, _, z, t, ez, ok⟩ := paired_get hp hj
  refine ⟨hx.typeIs, wpAny_getItem_heap (knd := nestedKind X.prog X.w) (show X.A.units + 1 + 8 < cLine by omega) (line_is I2.hok l) hx hpk ?_⟩
  rw [← ex, ez]
  exact ⟨.int z, H2, I2.tok _, ⟨_, rfl⟩, q2 z ok⟩
def rSetN (P : Program) (w : World) : TSet := fun o i v H Q => ∃ b d k ks z, o = .ref d ∧ i = .ref b ∧ v = .int z ∧ LineAt H b k ∧ ND P w H d ks ∧ k ∉ ks ∧ ks.length < 5000 ∧ NumOk z ∧ ∀ H', (∀ c u, c ≠ d → H c = some u → H' c = some u) → (∀ c, c ≠ d → H c = none → H' c = none) → ND P w H' d (ks ++ [k]) → Q H'
theorem set_N (hu : X.A.units + 64 < cLine) : PSet X (rSetN X.prog X.w) := by
  intro pins s σ H o i v ov iv u Q I ro ri rv h
  obtain ⟨b, d, k, ks, z, rfl, rfl, rfl, l, n, hk, hz, hzo, q⟩ := h
  cases (show ov = Value.ref d from ro)
  cases (show iv = Value.ref b from ri)
  obtain ⟨t, rfl⟩ := (show ∃ t, u = Value.int z t from rv)
  obtain ⟨xs, hsm, hx, hp⟩ := nd_of I n
  obtain ⟨es0, ep0, xs0, e0, _⟩ := id n
  have hnone : atKey xs (lineK k) = none := by
    have := has_iff hp k
    rw [decide_eq_false hk] at this
    exact Option.not_isSome_iff_eq_none.mp (by rw [this]; exact Bool.false_ne_true)
  have hlen : xs.length = ks.length := (Paired.length hp).symm
  refine wpAny_setItem_heap (knd := nestedKind X.prog X.w) (hsz := by rw [hlen]; exact Nat.le_of_lt (Nat.lt_of_lt_of_le hz (by rw [sizeLine_eq]; decide))) (show X.A.units + 1 + 8 < cLine by omega) (line_is I.hok l) hx fun h' ⟨o, es, ep, ho, hxo, hd, he, his, hn⟩ hs => ?_
  have tup : ∀ c ys, H c = some (.tup ys) → upd H d (rawD d es ep) c = some (.tup ys) := fun c ys e => by
    rw [upd_ne (fun z => by rw [z, e0] at e; cases e)]
    exact e
  refine ⟨upd H d (rawD d es ep), d_write I (by rw [e0]; exact True.intro) hs ⟨o, ho⟩ (rawD_ok hsm ho hxo hd), q _ (fun c u hc e => by rw [upd_ne hc]; exact e) (fun c hc e => by rw [upd_ne hc]; exact e) ⟨es, ep, _, upd_same, he, hn, ?_⟩⟩
  rw [storedH_new hnone]
  exact paired_append (paired_imp hp fun _ _ ⟨a, b, c⟩ => ⟨a, b.same tup, c⟩) (.cons ⟨rfl, l.same tup, z, t, rfl, hzo⟩ .nil)
end
end HG

namespace HG
open PySem PySem.Spec PyProof.Rows L2
theorem paired_of {α β : Type} {F : α → β → Prop} : ∀ {l : List α} {m : List β}, l.length = m.length → (∀ (j : Nat) a b, l[j]? = some a → m[j]? = some b → F a b) → Paired F l m
  | [], [], _, _ => .nil
  | a :: l, b :: m, e, h => .cons (h 0 a b rfl rfl) (paired_of (by simpa using e) fun j x y hx hy => h (j + 1) x y (by simpa using hx) (by simpa using hy))
  | [], _ :: _, e, _ => nomatch e
  | _ :: _, [], e, _ => nomatch e
section
variable {X : Cx}
/-- list(d.items()), keys tuples -/
def rListItT : List V → Hp → VK → Prop := fun vs H Q => ∃ (p a : Addr) (kvs : List (List L2.Key × V)), vs = [.ref p] ∧ H p = some (L2.DX.itemsO p a) ∧ H a = some (.dT kvs) ∧ kvs.length ≤ 1000 ∧
  ∀ H' l ps, Same H H' → H l = none → H' l = some (.lst (ps.map V.ref)) → Paired (fun kv pr => ∃ b, H b = some (.tup (kv.1.map kV)) ∧ H' pr = some (.tup [.ref b, kv.2])) kvs ps → Q (.ref l) H'
theorem call_list_itemsT (hc : X.calm = true) : CallR X (.type "list") rListItT := by
  intro pins s σ H xs us Q I rv h
  obtain ⟨p, a, kvs, rfl, hp, ha, h1000, q⟩ := h
  obtain ⟨u, rfl, ru⟩ := rv.one
  cases ru
  refine callType_codes (Q₁ := fun obj s₁ => obj = .ref s.heap.objs.size ∧ s₁ = { s with heap := s.heap.push { cls := .type "list", data := .seq #[] } }) PySem.F.called_list (PySem.F.typeCall_list_1 _) PySem.F.entry_list_init
    (code_list_new _ ⟨rfl, rfl⟩) fun obj s₁ h₁ => ?_
  obtain ⟨rfl, rfl⟩ := h₁
  have hS : (s.heap.push { cls := .type "list", data := .seq #[] }).get? s.heap.objs.size = some { cls := .type "list", data := .seq #[] } := Heap.get?_push_size _ rfl
  refine ⟨⟨_, hS, rfl⟩, PySem.F.args_list_init_2 _ _, ?_⟩
  have fr : H s.heap.objs.size = none := I.hok.fresh (Nat.le_refl _)
  have I1 : Inv X pins σ (upd H s.heap.objs.size (.lst [])) { s with heap := s.heap.push { cls := .type "list", data := .seq #[] } } := I.lnew (its := []) (t' := s.toks) .nil (Nat.zero_le _)
  show wpAny _ _ (do let old ← Builtin.List.listItems (.ref s.heap.objs.size); Builtin.List.listUpdate (.ref s.heap.objs.size) (fun _ => #[]); letGo old.toList.reverse; Builtin.List.listExtendWith (.ref s.heap.objs.size) (.ref p) .none) _ _ _
  refine wpAny_bind ?_
  unfold Builtin.List.listItems
  refine wpAny_bind (wpAny_seqItems hS rfl (wpAny_pure ?_))
  show wpAny _ _ (updateSeq s.heap.objs.size (fun _ => #[]) >>= fun _ => letGo (#[] : Array Value).toList.reverse >>= fun _ => Builtin.List.listExtendWith (.ref s.heap.objs.size) (.ref p) .none) _ _ _
  refine wpAny_bind (wpAny_updateSeq hS rfl ?_)
  have I2 := I1.lset (f := fun _ => #[]) (its := []) (its' := []) (ys := []) (t' := s.toks) upd_same hS rfl .nil (Nat.zero_le _)
  rw [upd_upd] at I2
  refine wpAny_bind (wpAny_letGo ?_)
  generalize hSS : s.heap.objs.size = S at *
  generalize hsB : ({ s with heap := _ } : Shared) = sB at I2 ⊢
  have sS := same_upd (o := .lst []) fr
  have hp2 := sS _ _ hp
  have ha2 := sS _ _ ha
  have view : sB.heap.IsItemsView p a := (show ObjOk X.prog X.w _ sB.heap p (L2.DX.itemsO p a) from I2.hok p _ hp2).1
  obtain ⟨z, hd, xs', rel, o, es, ep, ho, hx, hdat, hes, his, hn⟩ := dt_of I2.hok ha2
  have l1 : kvs.length = xs'.length := Paired.length rel
  have l2 : es.size = xs'.length := size_of_entries hes
  obtain ⟨z3, its, c0, r3, hl3, e3⟩ := I2.lstM upd_same
  cases r3
  have hSp : S ≠ p := fun z => by subst z; rw [hp] at fr; cases fr
  have haS : a ≠ S := fun z => by subst z; rw [ha] at fr; cases fr
  refine DT.extI (A := X.A.in1) (prog := X.prog) (w := X.w) (es := es) (ep := ep) (R := wants (fun r s₂ => r = .none ∧ EP X pins σ Q (.ref S) s₂) X.xe) (I.ok.hd hc) view ⟨o, ho, hx, hdat⟩ S hSp haS .none c0 e3 (fun h' tk acc c as hk hS' hl hG hacc => ?_) (by rw [l2, ← l1]; exact Nat.le_of_lt (small1000 h1000))
  have lak : as.length = kvs.length := by omega
  have nd : as.Nodup := List.Pairwise.imp (fun h => Nat.ne_of_lt h) hG.rise
  have hSlt : S < sB.heap.objs.size := Heap.lt_size e3
  have I3 : Inv X pins σ (upd (upd H S (.lst [])) S (.lst (as.map V.ref))) { sB with heap := h', toks := tk } := by
    refine I2.write (x := S) (e := S) (by rw [upd_same]; exact True.intro) (.inl rfl) (fun b q hb z => hk b q hb z) ⟨_, hS'⟩ ?_
    refine ⟨by rw [List.length_map, lak]; exact Nat.le_of_lt (small1000 h1000), acc.toList, c, ?_, by simpa using hS'⟩
    rw [hacc]
    clear hacc hG hl nd lak
    induction as with
    | nil => exact .nil
    | cons x r ih => exact .cons rfl ih
  rw [upd_upd] at I3
  have hall : ∀ pr ∈ as, sB.heap.objs.size ≤ pr ∧ (upd H S (.lst (as.map V.ref))) pr = none ∧ ∃ vs, (∃ (j : Nat) (kv : List L2.Key × V) (b : Addr), as[j]? = some pr ∧ kvs[j]? = some kv ∧ H b = some (.tup (kv.1.map kV)) ∧ vs = [.ref b, kv.2]) ∧ ∀ H2, ObjOk X.prog X.w H2 h' pr (.tup vs) := fun pr hpr => by
    obtain ⟨j, hj⟩ := List.mem_iff_getElem?.mp hpr
    obtain ⟨en, he, hg⟩ := hG.pairs j pr hj
    rw [entry_at hes j] at he
    obtain ⟨x, hxj, ex⟩ := Option.map_eq_some_iff.mp he
    obtain ⟨kv, hkv, r1, r2, r4⟩ := paired_get rel hxj
    have hge : sB.heap.objs.size ≤ pr := Nat.le_of_lt (hG.above pr hpr)
    have hprS : pr ≠ S := Nat.ne_of_gt (Nat.lt_of_lt_of_le hSlt hge)
    have hb : H x.2.1 = some (.tup (kv.1.map kV)) := by
      have hbS : x.2.1 ≠ S := fun z => by rw [z, upd_same] at r2; cases r2
      rwa [upd_ne hbS] at r2
    refine ⟨hge, ?_, [.ref x.2.1, kv.2], ⟨j, kv, x.2.1, hj, hkv, hb, rfl⟩, fun H2 => ⟨by show 2 ≤ sizeLine; decide, [.ref x.2.1, x.2.2], .cons rfl (.cons r4 .nil), ?_⟩⟩
    · have := I2.hok.fresh hge
      rwa [upd_ne hprS] at this ⊢
    · rw [← ex] at hg
      exact ⟨_, hg, rfl, _, rfl⟩
  obtain ⟨H4, I4, g4, p4⟩ := L2.DX.takeT (P := fun pr vs => ∃ (j : Nat) (kv : List L2.Key × V) (b : Addr), as[j]? = some pr ∧ kvs[j]? = some kv ∧ H b = some (.tup (kv.1.map kV)) ∧ vs = [.ref b, kv.2]) I2 as _ I3 nd hall
  refine ⟨rfl, .ref S, H4, I4, rfl, q H4 S as (fun b o e => g4 _ _ (by rw [upd_ne (ne_of_none e fr)]; exact e)) fr (g4 _ _ upd_same) (paired_of lak.symm fun j kv pr hkv hpr => ?_)⟩
  obtain ⟨vs, ⟨j', kv', b, h1, h2, h3, rfl⟩, h4⟩ := p4 pr (List.mem_of_getElem? hpr)
  obtain ⟨g1, f1⟩ := List.getElem?_eq_some_iff.mp h1
  obtain ⟨g2, f2⟩ := List.getElem?_eq_some_iff.mp hpr
  have ej : j' = j := (List.getElem_inj nd).mp (f1.trans f2.symm)
  subst ej
  cases h2.symm.trans hkv
  exact ⟨b, h3, h4⟩
end
end HG

namespace HG
open PySem PySem.Spec PyProof.Rows L2
theorem storedAll_new {K : Type} [DecidableEq K] : ∀ (rs acc : List (K × Addr × Value)), ((acc ++ rs).map (·.1)).Nodup → PySem.storedAllH acc rs = acc ++ rs
  | [], acc, _ => by
    rw [List.append_nil]
    rfl
  | r :: rs, acc, h => by
    have hn : atKey acc r.1 = none := by
      cases e : atKey acc r.1 with
      | none => rfl
      | some p =>
        obtain ⟨x, hx, _⟩ := Option.map_eq_some_iff.mp e
        have h0 : decide (x.1 = r.1) = true := List.find?_some (p := fun x : K × Addr × Value => decide (x.1 = r.1)) hx
        have h1 := of_decide_eq_true h0
        have h2 := List.mem_of_find?_eq_some hx
        rw [List.map_append, List.nodup_append] at h
        exact absurd h1 (h.2.2 x.1 (List.mem_map.mpr ⟨x, h2, rfl⟩) r.1 (List.mem_map.mpr ⟨r, List.mem_cons_self, rfl⟩))
    have step : PySem.storedAllH acc (r :: rs) = PySem.storedAllH (storedH acc r.1 r.2.1 r.2.2) rs := rfl
    rw [step, storedH_new hn]
    have := storedAll_new rs (acc ++ [(r.1, r.2.1, r.2.2)]) (by rw [List.append_assoc]; exact h)
    rw [this, List.append_assoc]
    rfl
section
variable {X : Cx}
/-- a pair of a key and a value -/
def PrT (H : Hp) (kv : List L2.Key × V) (pr : Addr) : Prop := ∃ b, H b = some (.tup (kv.1.map kV)) ∧ H pr = some (.tup [.ref b, kv.2])
theorem pairs_T {pins : List (Addr × Obj)} {σ : L2.St} {H : Hp} {s : Shared} (I : Inv X pins σ H s) : ∀ {kvs : List (List L2.Key × V)} {ps : List Addr}, Paired (PrT H) kvs ps →
    ∃ rs : List (List L2.Key × Addr × Value), L2.KT H kvs rs ∧ rs.length = ps.length ∧ ∀ (j : Nat) r, rs[j]? = some r → ∃ pr, ps[j]? = some pr ∧ PySem.PairAt s.heap pr (.ref r.2.1) r.2.2
  | _, _, .nil => ⟨[], .nil, rfl, fun j r h => by simp at h⟩
  | kv :: kvs, pr :: ps, .cons ⟨b, hb, hp⟩ t => by
    obtain ⟨rs, h1, h2, h3⟩ := pairs_T I t
    obtain ⟨_, its, rv, o, ho, hc, n, hd⟩ := (show ObjOk X.prog X.w H s.heap pr (.tup [.ref b, kv.2]) from I.hok pr _ hp)
    cases rv with
    | cons q1 t1 =>
      cases t1 with
      | cons q2 t2 =>
        cases t2
        cases q1
        refine ⟨(kv.1, b, _) :: rs, .cons ⟨rfl, hb, q2⟩ h1, by rw [List.length_cons, List.length_cons, h2], fun j r hj => ?_⟩
        cases j with
        | zero =>
          cases hj
          exact ⟨pr, rfl, .inl ⟨o, ho, hc, n, hd⟩⟩
        | succ j => exact h3 j r (by simpa using hj)
def rDictT : List V → Hp → VK → Prop := fun vs H Q => ∃ (l : Addr) (ps : List Addr) (kvs : List (List L2.Key × V)), vs = [.ref l] ∧ H l = some (.lst (ps.map V.ref)) ∧ Paired (PrT H) kvs ps ∧ (kvs.map (·.1)).Nodup ∧ kvs.length ≤ 1000 ∧ ∀ p, H p = none → Q (.ref p) (upd H p (.dT kvs))
theorem call_dictT (hc : X.calm = true) (hu : X.A.units + 64 < cLine) : CallR X (.type "dict") rDictT := by
  intro pins s σ H xs us Q I r h
  obtain ⟨l, ps, kvs, rfl, hl, hp, hn, hz, q⟩ := h
  rw [Vals.ref1 r]
  obtain ⟨rs, hk, hlen, hpr⟩ := pairs_T I hp
  obtain ⟨z, its, n, rv, he, ho⟩ := I.lstM hl
  have ei := refs_at rv
  subst ei
  have hkl : kvs.length = rs.length := Paired.length hk
  have keys : rs.map (·.1) = kvs.map (·.1) := by
    clear hpr hlen hkl hn hz q hp
    induction hk with
    | nil => rfl
    | cons r _ ih => rw [List.map_cons, List.map_cons, ih, r.1]
  have e0 : PySem.storedAllH [] rs = rs := by
    have := storedAll_new rs [] (by rw [List.nil_append, keys]; exact hn)
    rwa [List.nil_append] at this
  have ha := PairArg.list (prog := X.prog) (w := X.w) l (ps.map Value.ref).toArray (fun j => ps.getD j 0) (rs.map fun r => (Value.ref r.2.1, r.2.2))
  refine call_dict_pairsH (knd := tupleKind (mixKind X.prog X.w)) (ps := rs) ha (I.ok.hd hc) (show X.A.units + 1 + 1 < cLine by omega) ⟨⟨_, n, ho, rfl, rfl, rfl⟩, ?_, fun j k v hj => ?_⟩ ⟨by rw [List.length_map], fun i key v hi => ?_⟩ (fun h' hk' x hx => ?_) (by rw [List.length_map, ← hkl]; exact Nat.le_of_lt (small1000 hz)) fun h' tk hd' k => ?_
  · rw [List.size_toArray, List.length_map, List.length_map, hlen]
  · rw [List.getElem?_map] at hj
    obtain ⟨r, hr, er⟩ := Option.map_eq_some_iff.mp hj
    obtain ⟨pr, h1, h2⟩ := hpr j r hr
    cases er
    have e1 : ps.getD j 0 = pr := by rw [List.getD_eq_getElem?_getD, h1]; rfl
    refine ⟨?_, ?_⟩
    · show (ps.map Value.ref).toArray[j]? = some (Value.ref (ps.getD j 0))
      rw [e1, List.getElem?_toArray, List.getElem?_map, h1]
      rfl
    · show PySem.PairAt s.heap (ps.getD j 0) _ _
      rw [e1]
      exact h2
  · unfold PairRel at hi
    rw [List.getElem?_map] at hi
    obtain ⟨r, hr, er⟩ := Option.map_eq_some_iff.mp hi
    cases er
    exact ⟨r.1, r.2.1, hr, rfl⟩
  · obtain ⟨j, hj⟩ := List.mem_iff_getElem?.mp hx
    obtain ⟨kv, hkv, r1, r2, r3⟩ := paired_get hk hj
    have hb := key_of (ks := kv.1) I.hok r2
    rw [← r1]
    exact (tupleKind_stays (knd := mixKind X.prog X.w)).all h' (fun b o _ e => hk' b o (Nat.ne_of_lt (Heap.lt_size e)) (by simp) e) _ _ hb
  · rw [e0] at hd'
    obtain ⟨o, es, ep, ho', hx', hdd, hee, _, hnn⟩ := hd'
    have hm : (s.heap.objs.size == sysModules) = false := beq_eq_false_iff_ne.mpr (Nat.ne_of_gt I.big)
    have hf : H s.heap.objs.size = none := I.hok.fresh (Nat.le_refl _)
    refine ⟨.ref s.heap.objs.size, upd H s.heap.objs.size (.dT kvs), I.laid (t' := tk) (fun b o e => k b o (by simp) e) (Nat.le_refl _) ?_, rfl, q _ hf⟩
    exact ⟨Nat.le_of_lt (small1000 hz), hm, rs, hk.keeps fun c ys ec => by rw [upd_ne (ne_of_none ec hf)]; exact ec, o, es, ep, ho', hx', hdd, hee, hnn⟩
end
end HG

namespace HG
open PySem PySem.Spec PyProof.Rows L2
/-! ### gains drawn: what stands between the steps -/
def GainLo (z : Int) : Prop := -(2 * 10 ^ 60) ≤ z ∧ z ≤ 2 * 10 ^ 60
def GainOk (z : Int) : Prop := -(3 * 10 ^ 60) ≤ z ∧ z ≤ 3 * 10 ^ 60
abbrev Row := List Str × List Int
def KvE (H : Hp) (e : Row) (kv : List L2.Key × V) : Prop := kv.1 = kS e.1 ∧ ∃ a, kv.2 = .ref a ∧ H a = some (.tup (e.2.map V.int))
structure RowsOk (M : Int → Prop) (es : List Row) (sts : List (List Str)) (n : Nat) : Prop where
  ks : es.map (·.1) = sts
  len : ∀ e ∈ es, e.2.length = n
  ok : ∀ e ∈ es, ∀ z ∈ e.2, M z
theorem KvE.tups {H H' : Hp} {e : Row} {kv : List L2.Key × V} (h : KvE H e kv) (s : ∀ c xs, H c = some (.tup xs) → H' c = some (.tup xs)) : KvE H' e kv := ⟨h.1, let ⟨a, e, q⟩ := h.2; ⟨a, e, s _ _ q⟩⟩
structure GSt (P : Program) (w : World) (H H' : Hp) (b k : Addr) (ns : List Int) (g ps X : Addr) (vs : List V) (sts : List (List Str)) (kvs : List (List L2.Key × V)) (es : List Row) (ks : List Line) : Prop where
  ng : H g = none
  np : H ps = none
  nx : H X = none
  hb : ∃ xs, H b = some (.lst xs)
  kb : But b H H'
  B : ABag H' b k ns
  hg : H' g = some (.dT kvs)
  he : Paired (KvE H') es kvs
  nX : ND P w H' X ks
  hp : H' ps = some (.lst vs)
  ht : TupsAt H' sts vs
section
variable {P : Program} {w : World} {H H' H'' : Hp} {b k : Addr} {ns : List Int} {g ps X : Addr} {vs : List V} {sts : List (List Str)} {kvs : List (List L2.Key × V)} {es : List Row} {ks : List Line}
theorem GSt.off (G : GSt P w H H' b k ns g ps X vs sts kvs es ks) {c : Addr} (n : H c = none) : c ≠ b := fun z => by
  obtain ⟨xs, e⟩ := G.hb
  rw [z, e] at n
  cases n
theorem TupsAt.tups {sts : List (List Str)} {vs : List V} (h : TupsAt H sts vs) (s : ∀ c xs, H c = some (.tup xs) → H' c = some (.tup xs)) : TupsAt H' sts vs := paired_imp h fun _ _ ⟨a, e, q⟩ => ⟨a, e, s _ _ q⟩
theorem GSt.but (G : GSt P w H H' b k ns g ps X vs sts kvs es ks) (kb : But b H' H'') (B : ABag H'' b k ns) : GSt P w H H'' b k ns g ps X vs sts kvs es ks := by
  obtain ⟨xs, hb⟩ := abag_ne G.B
  have t : ∀ c ys, H' c = some (.tup ys) → H'' c = some (.tup ys) := fun c ys e => kb _ _ e (fun z => by rw [z, hb] at e; cases e)
  exact ⟨G.ng, G.np, G.nx, G.hb, G.kb.trans kb, B, kb _ _ G.hg (G.off G.ng), paired_imp G.he fun _ _ h => h.tups t, G.nX.but kb (G.off G.nx) hb, kb _ _ G.hp (G.off G.np), G.ht.tups t⟩
theorem GSt.same (G : GSt P w H H' b k ns g ps X vs sts kvs es ks) (s : Same H' H'') : GSt P w H H'' b k ns g ps X vs sts kvs es ks := G.but (But.of s) (G.B.same s)
/-- a list that is none of these is changed -/
theorem GSt.list (G : GSt P w H H' b k ns g ps X vs sts kvs es ks) {T : Addr} {ys : List V} {o : HO} (hT : H' T = some (.lst ys)) (h1 : T ≠ b) (h2 : T ≠ k) (h3 : T ≠ ps) (h4 : H T = none) : GSt P w H (upd H' T o) b k ns g ps X vs sts kvs es ks := by
  have t : ∀ c zs, H' c = some (.tup zs) → (upd H' T o) c = some (.tup zs) := fun c zs e => by
    rw [upd_ne (ne_of e hT (by intro z; cases z))]
    exact e
  obtain ⟨esX, ep, xs, eX, _⟩ := id G.nX
  have hXT : X ≠ T := ne_of eX hT (by intro z; cases z)
  refine ⟨G.ng, G.np, G.nx, G.hb, fun q u e hq => ?_, abag_upd G.B h1 h2, ?_, paired_imp G.he fun _ _ h => h.tups t, ?_, ?_, G.ht.tups t⟩
  · rw [upd_ne (ne_of_none e h4)]
    exact G.kb _ _ e hq
  · rw [upd_ne (ne_of G.hg hT (by intro z; cases z))]
    exact G.hg
  · obtain ⟨esX, ep, xs, eX, he, hn, hp⟩ := G.nX
    exact ⟨esX, ep, xs, by rw [upd_ne hXT]; exact eX, he, hn, paired_imp hp fun _ _ ⟨a, l, c⟩ => ⟨a, l.same t, c⟩⟩
  · rw [upd_ne h3.symm]
    exact G.hp
/-- the nested dict is changed -/
theorem GSt.setX (G : GSt P w H H' b k ns g ps X vs sts kvs es ks) {ks' : List Line} (s : ∀ c u, c ≠ X → H' c = some u → H'' c = some u) (n : ND P w H'' X ks') : GSt P w H H'' b k ns g ps X vs sts kvs es ks' := by
  obtain ⟨esX, ep, xs, eX, _⟩ := id G.nX
  have t : ∀ c zs, H' c = some (.tup zs) → H'' c = some (.tup zs) := fun c zs e => s _ _ (ne_of e eX (by intro z; cases z)) e
  have hkX : k ≠ X := ne_of (abag_k G.B) eX (by intro z; cases z)
  have hbX : b ≠ X := fun z => G.off G.nx z.symm
  refine ⟨G.ng, G.np, G.nx, G.hb, fun q u e hq => s _ _ (ne_of_none e G.nx) (G.kb _ _ e hq), ?_, s _ _ (ne_of G.hg eX (by intro z; cases z)) G.hg, paired_imp G.he fun _ _ h => h.tups t, n, s _ _ (ne_of G.hp eX (by intro z; cases z)) G.hp, G.ht.tups t⟩
  obtain ⟨a, c, m, B⟩ := G.B
  exact ⟨a, c, m, s _ _ hbX B.at_, s _ _ hkX B.cells, B.n0, B.c0, B.c1⟩
/-- the dict of the gains is changed -/
theorem GSt.setG (G : GSt P w H H' b k ns g ps X vs sts kvs es ks) {kvs' : List (List L2.Key × V)} {es' : List Row} (he : Paired (KvE H') es' kvs') : GSt P w H (upd H' g (.dT kvs')) b k ns g ps X vs sts kvs' es' ks := by
  have t : ∀ c zs, H' c = some (.tup zs) → (upd H' g (.dT kvs')) c = some (.tup zs) := fun c zs e => by
    rw [upd_ne (ne_of e G.hg (by intro z; cases z))]
    exact e
  obtain ⟨esX, ep, xs, eX, hee, hn, hp⟩ := id G.nX
  refine ⟨G.ng, G.np, G.nx, G.hb, fun q u e hq => ?_, ?_, upd_same, paired_imp he fun _ _ h => h.tups t, ⟨esX, ep, xs, ?_, hee, hn, paired_imp hp fun _ _ ⟨a, l, c⟩ => ⟨a, l.same t, c⟩⟩, ?_, G.ht.tups t⟩
  · rw [upd_ne (ne_of_none e G.ng)]
    exact G.kb _ _ e hq
  · refine abag_upd G.B (G.off G.ng) fun z => ?_
    have := G.hg
    rw [z, abag_k G.B] at this
    cases this
  · rw [upd_ne (ne_of eX G.hg (by intro z; cases z))]
    exact eX
  · rw [upd_ne (ne_of G.hp G.hg (by intro z; cases z))]
    exact G.hp
end
theorem ShL.but {N : Addr → Prop} {H H' : Hp} {d b k : Addr} {ns : List Int} {W : List Way} (h : ShL N H d W) (B : ABag H b k ns) (w1 : ∀ q ∈ W, 1 ≤ q.2.length) (kb : But b H H') : ShL N H' d W := by
  obtain ⟨kvs, e, p⟩ := h
  obtain ⟨a, c, n, B⟩ := B
  have hd : d ≠ b := ne_of e B.at_ (by intro z; cases z)
  refine ⟨kvs, kb _ _ e hd, ?_⟩
  have key : ∀ {W : List Way} {kvs : List (Key × V)}, Paired (KvL N H) W kvs → (∀ q ∈ W, 1 ≤ q.2.length) → Paired (KvL N H') W kvs := by
    intro W kvs p
    induction p with
    | nil => exact fun _ => .nil
    | @cons q kv qs kvs r t ih =>
      intro hw
      obtain ⟨e1, x, ev, nx, hx⟩ := r
      refine .cons ⟨e1, x, ev, nx, kb _ _ hx (ne_of hx B.at_ fun z => ?_)⟩ (ih fun q hq => hw q (List.mem_cons_of_mem _ hq))
      have h1 := hw q List.mem_cons_self
      cases hq2 : q.2 with
      | nil =>
        rw [hq2] at h1
        exact absurd h1 (by decide)
      | cons y r =>
        rw [hq2] at z
        injection z with z
        injection z with z1 _
        cases z1
  exact key p w1
end HG

namespace HG
open PySem PySem.Spec PyProof.Rows L2
open C8 (pss_cut tCut)
/-! ### gains drawn -/
def spLGains : Sp := fun args H Q _ => ∃ (b k d : Addr) (ns : List Int) (W : List Way), args = [.ref b, .ref d] ∧ ABag H b k ns ∧ ShL (fun _ => True) H d W ∧ WOk W ∧
  ∀ H' g kvs es sts, But b H H' → ABag H' b k ns → H g = none → H' g = some (.dT kvs) → Paired (KvE H') es kvs → sts.Perm (stds (sh W)) → RowsOk GainOk es sts W.length → Q (.ref g) H'
structure GnT (K : PySem.W.Frag) (mg : Str → Option Value) (fN fS fW : Addr) (dN dS dW : FuncData) : Prop where
  m_sorted : mg "sorted" = none
  m_min : mg "min" = none
  m_range : mg "range" = none
  m_tuple : mg "tuple" = none
  m_list : mg "list" = none
  m_dict : mg "dict" = none
  N : Fun K "_law_number" "_law_number" s_law_number fN dN
  bN : Binds K dN ["_law_bag_here", "_law_style"] []
  gN : mg "_law_number" = some (.ref fN)
  S : Fun K "_law_standings" "_law_standings" s_law_standings fS dS
  bS : Binds K dS ["_law_ways"] []
  gS : mg "_law_standings" = some (.ref fS)
  W : Fun K "_law_wider" "_law_wider" s_law_wider fW dW
  bW : Binds K dW ["_law_some", "_law_ways"] []
  gW : mg "_law_wider" = some (.ref fW)

theorem row_at {H : Hp} : ∀ {es : List Row} {kvs : List (List L2.Key × V)} {st : List Str}, Paired (KvE H) es kvs → st ∈ es.map (·.1) → ∃ e ∈ es, e.1 = st ∧ ∃ a, valV kvs (kS st) = some (.ref a) ∧ H a = some (.tup (e.2.map V.int))
  | _, _, _, .nil, h => nomatch h
  | e :: r, kv :: kvs, st, .cons q t, h => by
    obtain ⟨e1, a, ev, ha⟩ := q
    by_cases hx : e.1 = st
    · subst hx
      exact ⟨e, List.mem_cons_self, rfl, a, by rw [valV_pos e1, ev], ha⟩
    · have hm : st ∈ r.map (·.1) := by
        rw [List.map_cons] at h
        rcases List.mem_cons.mp h with h | h
        · exact absurd h.symm hx
        · exact h
      obtain ⟨e', he, h1, a', h2, h3⟩ := row_at t hm
      refine ⟨e', List.mem_cons_of_mem _ he, h1, a', ?_, h3⟩
      rw [valV_neg (fun e' => hx ?_)]
      · exact h2
      · have := congrArg (List.map kV) (e1.symm.trans e')
        rw [kS_v, kS_v] at this
        exact List.map_inj_right (fun _ _ h => V.str.inj h) |>.mp this
def setRow (es : List Row) (st : List Str) (row : List Int) : List Row := es.map fun e => if e.1 = st then (e.1, row) else e
theorem setRow_paired {H : Hp} {es : List Row} {kvs : List (List L2.Key × V)} {st : List Str} {row : List Int} {pt : Addr} (h : Paired (KvE H) es kvs) (hm : st ∈ es.map (·.1)) (hp : H pt = some (.tup (row.map V.int))) : Paired (KvE H) (setRow es st row) (putK kvs (kS st) (.ref pt)) := by
  have hin : (kvs.any fun kv => decide (kv.1 = kS st)) = true := by
    obtain ⟨_, _, _, a, hv, _⟩ := row_at h hm
    rw [valV_any, hv]
    rfl
  unfold putK
  rw [if_pos hin]
  clear hin hm
  unfold setRow
  induction h with
  | nil => exact .nil
  | @cons e kv es kvs r t ih =>
    rw [List.map_cons, List.map_cons]
    refine .cons ?_ ih
    obtain ⟨e1, a, ev, ha⟩ := r
    by_cases hx : e.1 = st
    · rw [if_pos hx, if_pos (by rw [e1, hx])]
      exact ⟨e1, pt, rfl, hp⟩
    · rw [if_neg hx, if_neg fun z => hx ?_]
      · exact ⟨e1, a, ev, ha⟩
      · have := congrArg (List.map kV) (e1.symm.trans z)
        rw [kS_v, kS_v] at this
        exact List.map_inj_right (fun _ _ h => V.str.inj h) |>.mp this
theorem setRow_keys (es : List Row) (st : List Str) (row : List Int) : (setRow es st row).map (·.1) = es.map (·.1) := by
  unfold setRow
  rw [List.map_map]
  refine List.map_congr_left fun e _ => ?_
  show (if e.1 = st then (e.1, row) else e).1 = e.1
  by_cases h : e.1 = st
  · rw [if_pos h]
  · rw [if_neg h]
theorem setRow_mem {es : List Row} {st : List Str} {row : List Int} {e : Row} (h : e ∈ setRow es st row) : e ∈ es ∨ e.2 = row := by
  unfold setRow at h
  obtain ⟨x, hx, rfl⟩ := List.mem_map.mp h
  by_cases hs : x.1 = st
  · rw [if_pos hs]
    exact .inr rfl
  · rw [if_neg hs]
    exact .inl hx
theorem paired_rev {α β : Type} {F : α → β → Prop} {l : List α} {m : List β} (h : Paired F l m) : Paired F l.reverse m.reverse := by
  induction h with
  | nil => exact .nil
  | cons r _ ih =>
    rw [List.reverse_cons, List.reverse_cons]
    exact paired_append ih (.cons r .nil)
theorem GainLo.ok {z : Int} (h : GainLo z) : GainOk z := by
  obtain ⟨h1, h2⟩ := h
  exact ⟨by omega, by omega⟩
theorem RowsOk.rev {M : Int → Prop} {es : List Row} {sts : List (List Str)} {n : Nat} (h : RowsOk M es sts n) : RowsOk M es.reverse sts.reverse n :=
  ⟨by rw [List.map_reverse, h.ks], fun e he => h.len e (List.mem_reverse.mp he), fun e he => h.ok e (List.mem_reverse.mp he)⟩
theorem KvE.keys {H : Hp} {es : List Row} {kvs : List (List L2.Key × V)} (h : Paired (KvE H) es kvs) : kvs.map (·.1) = (es.map (·.1)).map kS := by
  induction h with
  | nil => rfl
  | cons r _ ih => rw [List.map_cons, List.map_cons, List.map_cons, ih, r.1]
theorem kS_nd {sts : List (List Str)} (h : sts.Nodup) : (sts.map kS).Nodup := by
  rw [List.Nodup, List.pairwise_map]
  refine List.Pairwise.imp (fun {x y} hne e => hne ?_) h
  have := congrArg (List.map kV) e
  rw [kS_v, kS_v] at this
  exact List.map_inj_right (fun _ _ h => V.str.inj h) |>.mp this
section
variable {P : Program} {w : World} {K : PySem.W.Frag} {mg : Str → Option Value} {base : Heap}
variable {fT fO fN fS fW : Addr} {dT dO dN dS dW : FuncData}
theorem ok_lgains {f : Addr} {fd : FuncData} (B : BT K mg fT fO dT dO) (G : GnT K mg fN fS fW dN dS dW) (F : Fun K "_law_gains" "_law_gains" s_law_gains f fd) : FnOk P w K mg base CX0 4 f fd ["_law_bag_here", "_law_ways"] spLGains := by
  have S : FnScope ["_law_bag_here", "_law_ways", "_law_style", "_law_way", "_law_found", "_law_standings_here", "_law_many", "_law_extras", "_law_standing", "_law_level", "_law_told", "_law_at", "_law_line", "_law_spot"] ["_law_bag_here", "_law_ways"] (defScope s_law_gains) := ⟨rfl, rfl, rfl, by decide +kernel, rfl, by decide +kernel, by decide +kernel⟩
  have nd := S.nd
  refine F.ok S (fun vs H Q E h => ?_) (fun cdv A outer s H vs Q E hr h => ?_)
  · obtain ⟨b, k, d, ns, W, rfl, _⟩ := h
    rfl
  · obtain ⟨b, k, d, ns, W, rfl, B0, hW0, ok, q⟩ := h
    have hu := hu_of hr
    have hu64 : _ + 64 < cLine := hr.units
    have T := ok_take (P := P) (w := w) (base := base) B.T B.ml B.mi
    have NN := ok_number (P := P) (w := w) (base := base) B G.N
    refine ⟨_, pss_cons (ps_par3 (i := 2) (j := 3) (l := 4) (by rfl) nd rfl rfl rfl (by decide) (by decide) (by decide) rfl rfl rfl (pa_cons (pe_call T (hr.mono (by decide)) (by rfl) B.gT B.T.kp B.bT .nil pass0 (pa_cons (pv 0) (pa_cons pe_int pa_nil))) (pa_cons (pe_call T (hr.mono (by decide)) (by rfl) B.gT B.T.kp B.bT .nil pass0 (pa_cons (pv 0) (pa_cons pe_int pa_nil))) (pa_cons pe_dnewT pa_nil))) (by rfl))
      (pss_cons (ps_par3 (i := 5) (j := 6) (l := 7) (by rfl) nd rfl rfl rfl (by decide) (by decide) (by decide) rfl rfl rfl (pa_cons (pe_call (ok_lstandings G.m_sorted G.W G.bW G.gW G.S) (hr.mono (by decide)) (by rfl) G.gS G.S.kp G.bS .nil pass0 (pa_cons (pv 1) pa_nil)) (pa_cons (pe_callB call_lenD (by rfl) B.ml PySem.boot_len (pa_cons (pv 1) pa_nil)) (pa_cons pe_dnewN pa_nil))) (by rfl))
      (pss_cons (ps_for PassesOwn.never rfl (pi_list (pv 5)) (pg_name (i := 8) nd rfl (Or.inl rfl))
        (pss_cons (ps_set (i := 9) nd rfl (Or.inl rfl) (pe_call NN (hr.mono (by decide)) (by rfl) G.gN G.N.kp G.bN .nil pass0 (pa_cons (pv 0) (pa_cons (pe_callB (call_min2 rfl) (by rfl) G.m_min (by decide +kernel) (pa_cons (pv 2) (pa_cons pe_int pa_nil))) pa_nil))))
        (pss_cons (ps_set (i := 10) nd rfl (Or.inl rfl) (pe_lst pa_nil))
        (pss_cons (ps_for PassesOwn.never rfl (pi_range1 rfl G.m_range (pa_cons (pv 6) pa_nil)) (pg_name (i := 11) nd rfl (Or.inl rfl))
          (pss_cons (ps_set (i := 12) nd rfl (Or.inl rfl) (pe_tup (pa_cons (pv 11) (pa_cons (pe_op op_catB (pe_slice sl_tupB (pv 8) po_none (po_some (pv 11))) (pe_slice sl_tupB (pv 8) (po_some (pe_op op_add (pv 11) pe_int)) po_none)) pa_nil))))
          (pss_cut (ps_if (pt_cmpR (op_notInN hu64) (pv 12) (pv 7) (by rfl)) (pss_one (ps_asg (pe_call NN (hr.mono (by decide)) (by rfl) G.gN G.N.kp G.bN .nil pass0 (pa_cons (pv 0) (pa_cons (pe_callB (call_min2 rfl) (by rfl) G.m_min (by decide +kernel) (pa_cons (pv 2) (pa_cons pe_int pa_nil))) pa_nil))) (pg_sub (pv 7) (pv 12) (set_N hu64)))) pss_nil)
          (pss_one (ps_expr (pe_bm PySem.F.plainAttrs_list PySem.F.slot_list_append PySem.F.type_list_append mt_append (pv 10) (pa_cons (pe_ifExp (pt_cmpR op_lt (pv 3) pe_int (nomark _)) (pe_op op_add (pv 9) (pe_getN hu64 (pv 7) (pv 12) (fun _ _ => rfl))) (pe_call NN (hr.mono (by decide)) (by rfl) G.gN G.N.kp G.bN .nil pass0 (pa_cons (pv 0) (pa_cons (pv 2) pa_nil)))) pa_nil)))))))
        (pss_one (ps_dput hu (pv 4) (pv 8) (pe_callTy call_tup (by rfl) G.m_tuple (by decide +kernel) (pa_cons (pv 10) pa_nil)) rfl)))))
      )
      (pss_cut (ps_if (pt_cmpR op_eq (pv 3) pe_int (nomark _))
        (pss_cons (ps_par (i := 13) (j := 11) (by rfl) nd rfl rfl (by decide) rfl rfl (pa_cons (pe_call (ok_one B.O B.T B.bT B.gT B.ml B.mi) (hr.mono (by decide)) (by rfl) B.gO B.O.kp B.bO .nil pass0 (pa_cons (pv 0) (pa_cons (pv 5) pa_nil))) (pa_cons (pe_call T (hr.mono (by decide)) (by rfl) B.gT B.T.kp B.bT .nil pass0 (pa_cons (pv 0) (pa_cons (pv 6) pa_nil))) pa_nil)) (by rfl))
        (pss_cons (ps_set (i := 10) nd rfl (Or.inl rfl) (pe_callTy call_list_of (by rfl) G.m_list (by decide +kernel) (pa_cons (pe_dget hu (pv 4) (pv 13) (fun _ _ => rfl)) pa_nil)))
        (pss_cons (ps_asg (pe_op op_add (pe_ix ix_list (pv 10) (pv 11) (fun _ _ => rfl)) (pe_ix ix_list (pe_lst (pa_cons pe_int (pa_cons (pe_un un_neg pe_int) (pa_cons pe_int pa_nil)))) (pe_call T (hr.mono (by decide)) (by rfl) B.gT B.T.kp B.bT .nil pass0 (pa_cons (pv 0) (pa_cons pe_int pa_nil))) (fun _ _ => rfl))) (pg_sub (pv 10) (pv 11) set_list))
        (pss_one (ps_dput hu (pv 4) (pv 13) (pe_callTy call_tup (by rfl) G.m_tuple (by decide +kernel) (pa_cons (pv 10) pa_nil)) rfl))))) pss_nil)
      (pss_one (ps_ret (pe_ifExp (pt_cmpR op_eq (pe_call T (hr.mono (by decide)) (by rfl) B.gT B.T.kp B.bT .nil pass0 (pa_cons (pv 0) (pa_cons pe_int pa_nil))) pe_int (nomark _)) (pv 4)
        (pe_callTy (call_dictT rfl hu64) (by rfl) G.m_dict (by decide +kernel) (pa_cons (pe_revL (pe_callTy (call_list_itemsT rfl) (by rfl) G.m_list (by decide +kernel) (pa_cons (pe_bm0 PySem.F.plainAttrs_dict PySem.F.slot_dict_items PySem.F.type_dict_items L2.DX.mt_itemsT (pv 4)) pa_nil))) pa_nil)))))))), ?_⟩
    refine ⟨_, rfl, b, k, ns, _, rfl, B0, by decide, by decide, fun H1 d1 kb1 B1 d1a d1b => ?_⟩
    refine ⟨_, rfl, b, k, ns, _, rfl, B1, by decide, by decide, fun H2 d2 kb2 B2 d2a d2b => ?_⟩
    refine fun g ng2 => ⟨_, _, _, rfl, ?_⟩
    have s3 := same_upd (o := .dT []) ng2
    have kb02 := kb1.trans kb2
    have hW2 := (hW0.but B0 ok.w1 kb02).same s3
    obtain ⟨kw, hkw, pkw⟩ := id hW2
    have hkwl : kw.length = W.length := (Paired.length pkw).symm
    refine ⟨_, rfl, d, W, rfl, hW2.at, ok, fun H4 ps vs s4 nps h4 t4 => ?_⟩
    refine ⟨_, rfl, d, kw, rfl, s4 _ _ hkw, ?_⟩
    refine fun X nX => ⟨_, _, _, rfl, ?_⟩
    have s5 := same_upd (o := rawD X #[] 0) nX
    have ngH : H g = none := but_free kb02 B2 ng2
    have npH : H ps = none := by
      have := s3.free nps
      exact but_free kb02 B2 this
    have nXH : H X = none := by
      have h1 := s4.free nX
      exact but_free kb02 B2 (s3.free h1)
    have sok := ok.sok
    have hn4 := ok.n4
    have hn1 := ok.n1
    have G0 : GSt P w H (upd H4 X (rawD X #[] 0)) b k ns g ps X vs (stds (sh W)) [] [] [] :=
      ⟨ngH, npH, nXH, abag_ne B0, kb02.trans (But.of (s3.trans (s4.trans s5))), B2.same (s3.trans (s4.trans s5)), s5 _ _ (s4 _ _ upd_same), .nil, nd_new, s5 _ _ h4, t4.same s5⟩
    have hfew := sok.few
    have hsv : (stds (sh W)).length = vs.length := Paired.length t4
    rw [hkwl]
    generalize hst : stds (sh W) = sts at *
    refine ⟨_, rfl, ps, rfl, ⟨_, SqL.of G0.hp⟩, for_it (walk_list (K := K) (a := ps) (xs := vs)) (fun i σ H' => ∃ es kvs ks v8 v9 v10 v11 v12, σ = [some (.ref b), some (.ref d), some (.int d1), some (.int d2), some (.ref g), some (.ref ps), some (.int (W.length : Int)), some (.ref X), v8, v9, v10, v11, v12, none] ∧
      GSt P w H H' b k ns g ps X vs sts kvs es ks ∧ RowsOk GainLo es (sts.take i) W.length ∧ ks.length ≤ 4 * i) ⟨[], [], [], none, none, none, none, none, rfl, G0, ⟨rfl, (fun _ h => nomatch h), (fun _ h => nomatch h)⟩, Nat.le_refl _⟩ (fun i σ H' _ ⟨_, _, _, _, _, _, _, _, _, G', _⟩ => SqL.of G'.hp) ?_ ?_⟩
    · rintro i x σ H5 H6 hi ⟨es, kvs, ks, v8, v9, v10, v11, v12, rfl, G6, hes, hks⟩ ⟨rfl, hx⟩
      obtain ⟨st, hsti, a, rfl, ha⟩ := paired_get G6.ht hx
      have hstm : st ∈ sts := List.mem_of_getElem? hsti
      have hstl : st.length = W.length := by
        rw [← hst] at hstm
        rw [stds_mem hstm, sh_len]
      refine ⟨_, rfl, _, rfl, d1, 2, rfl, b, k, ns, _, rfl, G6.B, fun H7 lev kb7 B7 levok => ?_⟩
      have G7 := G6.but kb7 B7
      refine ⟨(by show 0 ≤ sizeLine; decide), fun Tl nT => ?_⟩
      have sT := same_upd (o := .lst []) nT
      have G8 := G7.same sT
      have hTb : Tl ≠ b := abag_not B7 nT
      have hTk : Tl ≠ k := fun z => by rw [z, abag_k B7] at nT; cases nT
      have hTp : Tl ≠ ps := fun z => by rw [z, G7.hp] at nT; cases nT
      have hTH : H Tl = none := but_free G7.kb G7.B nT
      have ha7 : (upd H7 Tl (.lst [])) a = some (.tup (st.map V.str)) := by
        refine sT _ _ (kb7 _ _ ha fun z => ?_)
        obtain ⟨ys, e⟩ := abag_ne G6.B
        rw [z, e] at ha
        cases ha
      refine ⟨_, rfl, W.length, rfl, by omega, by omega, for_range (lo := 0) (n := W.length) (fun j σ H' => ∃ zs ks2 u11 u12, σ = [some (.ref b), some (.ref d), some (.int d1), some (.int d2), some (.ref g), some (.ref ps), some (.int (W.length : Int)), some (.ref X), some (.ref a), some (.int lev), some (.ref Tl), u11, u12, none] ∧
        GSt P w H H' b k ns g ps X vs sts kvs es ks2 ∧ ks2.length ≤ 4 * i + j ∧ H' Tl = some (.lst (zs.map V.int)) ∧ zs.length = j ∧ (∀ z ∈ zs, GainLo z) ∧ H' a = some (.tup (st.map V.str))) ⟨[], ks, v11, v12, rfl, G8, by omega, upd_same, rfl, (fun _ h => nomatch h), ha7⟩ ?_ ?_⟩
      · rintro j σ H9 hj ⟨zs, ks2, u11, u12, rfl, G9, hk2, hT9, hzl, hzo, ha9⟩
        rw [Int.zero_add]
        refine ⟨_, rfl, _, rfl, _, rfl, (j : Int), rfl, a, _, rfl, ha9, fun Ha pa sa hpa => ?_⟩
        rw [cut_to] at hpa
        refine ⟨_, rfl, _, rfl, _, _, rfl, rfl, ((j + 1 : Nat) : Int), rfl, a, _, rfl, sa _ _ ha9, fun Hb pb sb hpb => ?_⟩
        rw [cut_from] at hpb
        refine ⟨pa, pb, _, _, rfl, rfl, sb _ _ hpa, hpb, ?_, fun Hc pc sc hpc => ?_⟩
        · rw [List.length_take, List.length_drop, List.length_map]
          omega
        refine ⟨(by show 2 ≤ sizeLine; decide), fun L nL => ?_⟩
        have sL := same_upd (o := .tup [.int (j : Int), .ref pc]) nL
        have s9L := sa.trans (sb.trans (sc.trans sL))
        have GL := G9.same s9L
        have hline : LineAt (upd Hc L (.tup [.int (j : Int), .ref pc])) L ((j : Int), st.take j ++ st.drop (j + 1)) := ⟨pc, upd_same, by rw [sL _ _ hpc, List.map_append, List.map_take, List.map_drop]⟩
        have hTL := s9L _ _ hT9
        have haL := s9L _ _ ha9
        generalize (upd Hc L (.tup [.int (j : Int), .ref pc])) = HL at *
        refine ⟨fun σ' H' => ∃ ks3, σ' = [some (.ref b), some (.ref d), some (.int d1), some (.int d2), some (.ref g), some (.ref ps), some (.int (W.length : Int)), some (.ref X), some (.ref a), some (.int lev), some (.ref Tl), some (.int (j : Int)), some (.ref L), none] ∧
          GSt P w H H' b k ns g ps X vs sts kvs es ks3 ∧ ks3.length ≤ 4 * i + (j + 1) ∧ ((j : Int), st.take j ++ st.drop (j + 1)) ∈ ks3 ∧ LineAt H' L ((j : Int), st.take j ++ st.drop (j + 1)) ∧ H' Tl = some (.lst (zs.map V.int)) ∧ H' a = some (.tup (st.map V.str)), ?_, ?_⟩
        · have hi256 : i < 256 := by omega
          have tb : ∀ {Hx Hy : Hp}, But b Hx Hy → (∃ xs, Hx b = some (.lst xs)) → ∀ c ys, Hx c = some (.tup ys) → Hy c = some (.tup ys) := fun kb ⟨xs, hb⟩ c ys e => kb _ _ e (fun z => by rw [z, hb] at e; cases e)
          refine ⟨_, rfl, _, rfl, L, X, _, ks2, rfl, rfl, hline, GL.nX, _, rfl, ?_⟩
          by_cases hin : ((j : Int), st.take j ++ st.drop (j + 1)) ∈ ks2
          · rw [decide_eq_true hin]
            exact iteF ⟨ks2, rfl, GL, by omega, hin, hline, hTL, haL⟩
          · rw [decide_eq_false hin]
            refine iteT ⟨_, rfl, _, rfl, d1, 2, rfl, b, k, ns, _, rfl, GL.B, fun HN z kbN BN zok => ?_⟩
            have GN' := GL.but kbN BN
            have tN := tb kbN (abag_ne GL.B)
            refine ⟨_, rfl, _, rfl, L, X, _, ks2, z, rfl, rfl, rfl, hline.same tN, GN'.nX, hin, by omega, zok, fun HS s' n' nd' => ?_⟩
            obtain ⟨esX, ep, xs0, eX, _⟩ := id GN'.nX
            have tS : ∀ c ys, HN c = some (.tup ys) → HS c = some (.tup ys) := fun c ys e => s' _ _ (ne_of e eX (by intro z; cases z)) e
            have hTN := kbN _ _ hTL hTb
            exact ⟨ks2 ++ [((j : Int), st.take j ++ st.drop (j + 1))], rfl, GN'.setX s' nd', by rw [List.length_append, List.length_singleton]; omega, List.mem_append_right _ (List.mem_singleton.mpr rfl), (hline.same tN).same tS, s' _ _ (ne_of hTN eX (by intro z; cases z)) hTN, tS _ _ (tN _ _ haL)⟩
        · rintro σ' HM ⟨ks3, rfl, GM, hk3, hin, hlM, hTM, haM⟩
          refine ⟨_, rfl, .inl ⟨rfl, _, SqL.of hTM⟩, ?_⟩
          have fin : ∀ (HF : Hp) (z : Int), GSt P w H HF b k ns g ps X vs sts kvs es ks3 → HF Tl = some (.lst (zs.map V.int)) → HF a = some (.tup (st.map V.str)) → GainLo z →
              ∃ l xs y, V.ref Tl = .ref l ∧ [V.int z] = [y] ∧ HF l = some (.lst xs) ∧ xs.length < sizeLine ∧ ∃ (zs' : List Int) (ks2 : List Line) (u11 u12 : Option V), [some (V.ref b), some (.ref d), some (.int d1), some (.int d2), some (.ref g), some (.ref ps), some (.int (W.length : Int)), some (.ref X), some (.ref a), some (.int lev), some (.ref Tl), some (.int (j : Int)), some (.ref L), none] = [some (V.ref b), some (.ref d), some (.int d1), some (.int d2), some (.ref g), some (.ref ps), some (.int (W.length : Int)), some (.ref X), some (.ref a), some (.int lev), some (.ref Tl), u11, u12, none] ∧
                GSt P w H (upd HF l (.lst (xs ++ [y]))) b k ns g ps X vs sts kvs es ks2 ∧ ks2.length ≤ 4 * i + (j + 1) ∧ (upd HF l (.lst (xs ++ [y]))) Tl = some (.lst (zs'.map V.int)) ∧ zs'.length = j + 1 ∧ (∀ z ∈ zs', GainLo z) ∧ (upd HF l (.lst (xs ++ [y]))) a = some (.tup (st.map V.str)) := fun HF z GF hTF haF hz => by
            refine ⟨Tl, _, _, rfl, rfl, hTF, small1000 (by rw [List.length_map]; omega), zs ++ [z], ks3, _, _, rfl, GF.list hTF hTb hTk hTp hTH, hk3, by rw [upd_same, List.map_append]; rfl, by rw [List.length_append, hzl]; rfl, fun y hy => ?_, ?_⟩
            · rcases List.mem_append.mp hy with hy | hy
              · exact hzo y hy
              · rw [List.mem_singleton.mp hy]
                exact hz
            · rw [upd_ne (ne_of haF hTF (by intro z; cases z))]
              exact haF
          refine ⟨_, rfl, _, _, rfl, rfl, _, rfl, ?_⟩
          obtain ⟨lv1, lv2⟩ := levok
          cases decide (d2 < 3) with
          | true =>
            refine iteT ⟨_, rfl, _, rfl, _, rfl, L, X, _, ks3, rfl, rfl, hlM, GM.nX, hin, fun z zok => ⟨_, _, rfl, rfl, fin HM (lev + z) GM hTM haM ?_⟩⟩
            obtain ⟨z1, z2⟩ := zok
            exact ⟨by omega, by omega⟩
          | false =>
            refine iteF ⟨_, rfl, _, rfl, b, k, ns, d1, rfl, GM.B, fun HN z kbN BN zok => fin HN z (GM.but kbN BN) (kbN _ _ hTM hTb) (kbN _ _ haM fun z => ?_) ?_⟩
            · obtain ⟨ys, e⟩ := abag_ne GM.B
              rw [z, e] at haM
              cases haM
            · obtain ⟨z1, z2⟩ := zok
              exact ⟨by omega, by omega⟩
      · rintro σ H9 ⟨zs, ks2, u11, u12, rfl, G9, hk2, hT9, hzl, hzo, ha9⟩
        have hzl : zs.length = W.length := by simpa using hzl
        have hk2 : ks2.length ≤ 4 * i + W.length := by simpa using hk2
        refine ⟨_, rfl, Tl, _, rfl, .inl ⟨SqL.of hT9, fun pt npt => ?_⟩⟩
        have spt := same_upd (o := .tup (zs.map V.int)) npt
        have Gt := G9.same spt
        have hel : es.length = i := by
          have := congrArg List.length hes.ks
          rw [List.length_map, List.length_take] at this
          omega
        have hkl : kvs.length = i := by rw [← Paired.length Gt.he, hel]
        refine ⟨_, rfl, _, rfl, g, _, rfl, DPut.t (k := kS st) Gt.hg (by rw [kS_v]; exact spt _ _ ha9) (small1000 (by omega)), ?_⟩
        have keys : kvs.map (·.1) = (es.map (·.1)).map kS := by
          have hq := Gt.he
          clear hkl hel
          generalize (upd H9 pt (.tup (zs.map V.int))) = HT at hq
          clear G6 hes hks G7 G8 G9 Gt
          induction hq with
          | nil => rfl
          | cons r _ ih => rw [List.map_cons, List.map_cons, List.map_cons, ih, r.1]
        have hnew : kS st ∉ kvs.map (·.1) := by
          rw [keys, hes.ks]
          intro hm
          obtain ⟨y, hy, ey⟩ := List.mem_map.mp hm
          have ey' : y = st := by
            have := congrArg (List.map kV) ey
            rw [kS_v, kS_v] at this
            exact List.map_inj_right (fun _ _ h => V.str.inj h) |>.mp this
          rw [ey'] at hy
          exact not_take (by rw [← hst]; exact stds_nd sok.wd) hsti hy
        rw [putK_new hnew]
        refine ⟨es ++ [(st, zs)], _, ks2, _, _, _, _, _, rfl, Gt.setG (paired_append Gt.he (.cons ⟨rfl, pt, rfl, upd_same⟩ .nil)), ⟨?_, ?_, ?_⟩, by omega⟩
        · rw [List.map_append, hes.ks, List.take_add_one, hsti]
          rfl
        · intro e he
          rcases List.mem_append.mp he with he | he
          · exact hes.len e he
          · rw [List.mem_singleton.mp he]
            exact hzl
        · intro e he
          rcases List.mem_append.mp he with he | he
          · exact hes.ok e he
          · rw [List.mem_singleton.mp he]
            exact hzo
    · rintro σ H6 ⟨es, kvs, ks, v8, v9, v10, v11, v12, rfl, G6, hes, hks⟩
      rw [← hsv, List.take_length] at hes
      have snd : sts.Nodup := by rw [← hst]; exact stds_nd sok.wd
      have sne : 1 ≤ sts.length := by rw [← hst]; exact stds_ne sok
      refine ⟨fun σ' H' => ∃ es kvs ks v8 v9 v10 v11 v12 v13, σ' = [some (.ref b), some (.ref d), some (.int d1), some (.int d2), some (.ref g), some (.ref ps), some (.int (W.length : Int)), some (.ref X), v8, v9, v10, v11, v12, v13] ∧ GSt P w H H' b k ns g ps X vs sts kvs es ks ∧ RowsOk GainOk es sts W.length, ?_, ?_⟩
      · refine ⟨_, rfl, rfl, _, rfl, ite2 (fun _ => ?_) (fun _ => ⟨es, kvs, ks, _, _, _, _, _, _, rfl, G6, ⟨hes.ks, hes.len, fun e he z hz => (hes.ok e he z hz).ok⟩⟩)⟩
        refine ⟨_, rfl, _, rfl, b, k, ps, ns, vs, rfl, G6.B, SqL.of G6.hp, G6.off G6.np, ?_, by omega, fun H7 x kb7 B7 hx => ?_⟩
        · intro z
          rw [z] at hsv
          rw [List.length_nil] at hsv
          omega
        have G7 := G6.but kb7 B7
        refine ⟨_, rfl, _, rfl, b, k, ns, _, rfl, B7, by omega, by omega, fun H8 at8 kb8 B8 a0 a1 => ⟨_, _, rfl, ?_⟩⟩
        have G8 := G7.but kb8 B8
        obtain ⟨j, hj⟩ := List.mem_iff_getElem?.mp hx
        obtain ⟨st, hsti, a, rfl, ha⟩ := paired_get G8.ht hj
        have hstm : st ∈ es.map (·.1) := by rw [hes.ks]; exact List.mem_of_getElem? hsti
        obtain ⟨e, hee, he1, pa, hv, hpa⟩ := row_at G8.he hstm
        refine ⟨_, rfl, _, rfl, g, _, rfl, (by rw [← hv]; exact DGet.t (k := kS st) G8.hg (by rw [kS_v]; exact ha)), pa, _, rfl, .inr (SqT.of hpa), fun Tl nT => ?_⟩
        have sT := same_upd (o := .lst (e.2.map V.int)) nT
        have G9 := G8.same sT
        have hTb : Tl ≠ b := abag_not B8 nT
        have hTk : Tl ≠ k := fun z => by rw [z, abag_k B8] at nT; cases nT
        have hTp : Tl ≠ ps := fun z => by rw [z, G8.hp] at nT; cases nT
        have hTH : H Tl = none := but_free G8.kb G8.B nT
        have hT9 : (upd H8 Tl (.lst (e.2.map V.int))) Tl = some (.lst (e.2.map V.int)) := upd_same
        have ha9 := sT _ _ ha
        generalize (upd H8 Tl (.lst (e.2.map V.int))) = H9 at *
        have hal : at8.toNat < e.2.length := by
          rw [hes.len e hee]
          omega
        refine ⟨_, rfl, _, rfl, Tl, _, at8, .int e.2[at8.toNat], rfl, rfl, SqL.of hT9, at_of (j := at8.toNat) (by omega) (by rw [List.getElem?_map, List.getElem?_eq_getElem hal]; rfl), ?_⟩
        refine ⟨_, rfl, (by show 3 ≤ sizeLine; decide), fun p3 n3 => ?_⟩
        generalize hxs : [V.int 1, V.int (-1), V.int 7] = xs3
        have s3' := same_upd (o := .lst xs3) n3
        have G10 := G9.same s3'
        refine ⟨_, rfl, b, k, ns, _, rfl, G10.B, by decide, by decide, fun H11 d9 kb11 B11 c0 c1 => ?_⟩
        have G11 := G10.but kb11 B11
        have hxl : xs3.length = 3 := by rw [← hxs]; rfl
        have hxi : ∀ x ∈ xs3, ∃ z, x = V.int z ∧ -1 ≤ z ∧ z ≤ 7 := by
          subst hxs
          intro x hx
          simp only [List.mem_cons, List.not_mem_nil, or_false] at hx
          rcases hx with rfl | rfl | rfl <;> exact ⟨_, rfl, by decide, by decide⟩
        have hj3 : d9.toNat < xs3.length := by omega
        obtain ⟨z3, hz3, z3a, z3b⟩ := hxi xs3[d9.toNat] (List.getElem_mem hj3)
        have h3b : p3 ≠ b := abag_not G9.B n3
        have hT11 := kb11 _ _ (s3' _ _ hT9) hTb
        have ha11 := kb11 _ _ (s3' _ _ ha9) (fun z => by
          obtain ⟨ys, e⟩ := abag_ne G9.B
          rw [z, e] at ha9
          cases ha9)
        refine ⟨p3, xs3, d9, .int z3, rfl, rfl, SqL.of (kb11 _ _ upd_same h3b), at_of (j := d9.toNat) (by omega) (by rw [List.getElem?_eq_getElem hj3, hz3]), _, _, rfl, rfl, ?_⟩
        refine ⟨_, rfl, _, rfl, Tl, _, at8, at8.toNat, rfl, rfl, hT11, ?_, ?_⟩
        · rw [List.length_map]
          unfold ixN
          rw [if_pos a0, if_pos (by omega)]
        have hrow : (e.2.map V.int).set at8.toNat (.int (e.2[at8.toNat] + z3)) = (e.2.set at8.toNat (e.2[at8.toNat] + z3)).map V.int := by rw [List.map_set]
        rw [hrow]
        have G12 := G11.list (o := .lst ((e.2.set at8.toNat (e.2[at8.toNat] + z3)).map V.int)) hT11 hTb hTk hTp hTH
        have hT12 : (upd H11 Tl (.lst ((e.2.set at8.toNat (e.2[at8.toNat] + z3)).map V.int))) Tl = some (.lst ((e.2.set at8.toNat (e.2[at8.toNat] + z3)).map V.int)) := upd_same
        have ha12 : (upd H11 Tl (.lst ((e.2.set at8.toNat (e.2[at8.toNat] + z3)).map V.int))) a = some (.tup (st.map V.str)) := by
          rw [upd_ne (ne_of ha11 hT11 (by intro z; cases z))]
          exact ha11
        generalize (upd H11 Tl (.lst ((e.2.set at8.toNat (e.2[at8.toNat] + z3)).map V.int))) = H12 at *
        refine ⟨_, rfl, Tl, _, rfl, .inl ⟨SqL.of hT12, fun pt npt => ?_⟩⟩
        have spt := same_upd (o := .tup ((e.2.set at8.toNat (e.2[at8.toNat] + z3)).map V.int)) npt
        have G13 := G12.same spt
        have hkl : kvs.length ≤ 256 := by
          rw [← Paired.length G13.he]
          have := congrArg List.length hes.ks
          rw [List.length_map] at this
          omega
        refine ⟨_, rfl, _, rfl, g, _, rfl, DPut.t (k := kS st) G13.hg (by rw [kS_v]; exact spt _ _ ha12) (small1000 (by omega)), ?_⟩
        refine ⟨setRow es st (e.2.set at8.toNat (e.2[at8.toNat] + z3)), _, ks, _, _, _, _, _, _, rfl, G13.setG (setRow_paired G13.he hstm upd_same), ⟨by rw [setRow_keys]; exact hes.ks, fun e' he' => ?_, fun e' he' z hz => ?_⟩⟩
        · rcases setRow_mem he' with h1 | h1
          · exact hes.len e' h1
          · rw [h1, List.length_set]
            exact hes.len e hee
        · rcases setRow_mem he' with h1 | h1
          · exact (hes.ok e' h1 z hz).ok
          · rw [h1] at hz
            rcases List.mem_or_eq_of_mem_set hz with h2 | h2
            · exact (hes.ok e hee z h2).ok
            · obtain ⟨b1, b2⟩ := hes.ok e hee e.2[at8.toNat] (List.getElem_mem hal)
              rw [h2]
              exact ⟨by omega, by omega⟩
      · rintro σ' HF ⟨es, kvs, ks, v8, v9, v10, v11, v12, v13, rfl, GF, hes⟩
        refine ⟨_, rfl, b, k, ns, _, rfl, GF.B, by decide, by decide, fun HE de kbE BE e0 e1 => ⟨rfl, _, rfl, ?_⟩⟩
        have GE := GF.but kbE BE
        have hkl : kvs.length ≤ 256 := by
          rw [← Paired.length GE.he]
          have := congrArg List.length hes.ks
          rw [List.length_map] at this
          omega
        cases decide (V.int de = V.int 0) with
        | true => exact iteT ⟨_, rfl, q HE g kvs es sts GE.kb GE.B ngH GE.hg GE.he (List.Perm.refl _) hes⟩
        | false =>
          refine iteF ⟨_, rfl, .inr (.inr (.inl ⟨rfl, .inr ⟨kvs, GE.hg⟩⟩)), g, kvs, rfl, rfl, GE.hg, fun pv npv => ?_⟩
          have spv := same_upd (o := L2.DX.itemsO pv g) npv
          have G1 := GE.same spv
          refine ⟨pv, g, kvs, rfl, upd_same, G1.hg, by omega, fun H2 l prs s2 nl hl hpr => ?_⟩
          have G2 := G1.same s2
          refine ⟨l, _, rfl, SqL.of hl, fun p2 np2 => ?_⟩
          have s3' := same_upd (o := .lst (prs.map V.ref).reverse) np2
          have G3 := G2.same s3'
          refine ⟨p2, prs.reverse, kvs.reverse, rfl, by rw [upd_same, List.map_reverse], paired_rev (paired_imp hpr fun kv pr ⟨b', h1, h2⟩ => ⟨b', s3' _ _ (s2 _ _ h1), s3' _ _ h2⟩), ?_, by rw [List.length_reverse]; omega, fun gd ngd => ?_⟩
          · rw [List.map_reverse, KvE.keys GE.he, hes.ks]
            exact (List.reverse_perm _).nodup_iff.mpr (kS_nd snd)
          · have s4' := same_upd (o := .dT kvs.reverse) ngd
            have G4 := G3.same s4'
            exact q _ gd kvs.reverse es.reverse sts.reverse G4.kb G4.B (but_free G3.kb G3.B ngd) upd_same (paired_rev G4.he) (List.reverse_perm _) hes.rev
end
end HG

namespace HG
open PySem PySem.Spec PyProof.Rows L2
/-! ### d.values(), list of it, d.clear(), keys of either kind -/
def valsO (p d : Addr) : HO := .ext fun h => h.IsValuesView p d
theorem valsO_ok {P : Program} {w : World} {H : Hp} {h : Heap} {p d : Addr} (e : h.get? p = some { cls := .type "dict_values", data := .fields #[.ref d] }) : ObjOk P w H h p (valsO p d) :=
  ⟨⟨_, e, rfl, rfl⟩, ⟨_, e⟩, fun h1 h2 x k => let ⟨o, ho, r⟩ := x; ⟨o, k o ho, r⟩⟩
/-- a dict of either kind, its values -/
def DVal (H : Hp) (a : Addr) (xs : List V) : Prop := (∃ kvs, H a = some (.dK kvs) ∧ xs = kvs.map (·.2)) ∨ ∃ kvs, H a = some (.dT kvs) ∧ xs = kvs.map (·.2)
theorem DVal.same {H H' : Hp} {a : Addr} {xs : List V} (h : DVal H a xs) (s : Same H H') : DVal H' a xs := h.imp (fun ⟨k, e, q⟩ => ⟨k, s _ _ e, q⟩) (fun ⟨k, e, q⟩ => ⟨k, s _ _ e, q⟩)
section
variable {X : Cx} {pins : List (Addr × Obj)} {σ : L2.St} {H : Hp} {s : Shared} {a : Addr} {xs : List V}
theorem dval_raw (I : Inv X pins σ H s) (h : DVal H a xs) : (a == sysModules) = false ∧ xs.length ≤ sizeLine ∧ ∃ es ep, s.heap.DictRaw a es ep ∧ es.size = xs.length ∧ ∀ (i : Nat) x, xs[i]? = some x → ∃ e, es[i]? = some e ∧ RelV x e.val := by
  rcases h with ⟨kvs, e, rfl⟩ | ⟨kvs, e, rfl⟩
  · obtain ⟨z, hd, vs, rel, dd⟩ := dk_of I.hok e
    obtain ⟨es, ep, raw, hs, hi⟩ := dd.raw
    have hl : kvs.length = vs.length := rel.length
    refine ⟨hd, by rw [List.length_map]; exact z, es, ep, raw, by rw [hs, List.length_map, hl], fun i x hx => ?_⟩
    have hil : i < kvs.length := by
      have := (List.getElem?_eq_some_iff.mp hx).1
      rwa [List.length_map] at this
    rw [List.getElem?_map] at hx
    obtain ⟨kv, hkv, rfl⟩ := Option.map_eq_some_iff.mp hx
    have hie : i < es.size := by omega
    obtain ⟨y, hy⟩ : ∃ y, vs[i]? = some y := ⟨vs[i]'(by omega), List.getElem?_eq_getElem (by omega)⟩
    unfold KV at rel
    obtain ⟨kv', hkv', r1, r2⟩ := paired_get rel hy
    cases hkv'.symm.trans hkv
    refine ⟨es[i], Array.getElem?_eq_getElem hie, ?_⟩
    rw [(hi i hie y.1 y.2 hy).2]
    exact r2
  · obtain ⟨z, hd, rs, rel, dd⟩ := dt_of I.hok e
    obtain ⟨es, ep, raw, hs, hi⟩ := dd.raw
    have hl : kvs.length = rs.length := Paired.length rel
    refine ⟨hd, by rw [List.length_map]; exact z, es, ep, raw, by rw [hs, List.length_map, hl], fun i x hx => ?_⟩
    rw [List.getElem?_map] at hx
    obtain ⟨kv, hkv, rfl⟩ := Option.map_eq_some_iff.mp hx
    have hil : i < kvs.length := (List.getElem?_eq_some_iff.mp hkv).1
    have hie : i < es.size := by omega
    obtain ⟨y, hy, _, h2, _⟩ := hi i hie
    obtain ⟨kv', hkv', r1, r2, r3⟩ := paired_get rel hy
    cases hkv'.symm.trans hkv
    refine ⟨es[i], Array.getElem?_eq_getElem hie, ?_⟩
    rw [h2]
    exact r3
def rValues : V → List V → Hp → VK → Prop := fun x vs H Q => ∃ (a : Addr) (xs : List V), x = .ref a ∧ vs = [] ∧ DVal H a xs ∧ ∀ p, H p = none → Q (.ref p) (upd H p (valsO p a))
theorem mt_values : MtR X "dict.values" rValues := by
  intro pins s σ H x vs v us Q I rx rxs h
  obtain ⟨a, xs, rfl, rfl, ha, q⟩ := h
  cases rx
  cases rxs
  obtain ⟨hd, _, es, ep, raw, _⟩ := dval_raw I ha
  have hf : H s.heap.objs.size = none := I.hok.fresh (Nat.le_refl _)
  exact call_meetsIn PySem.F.slot_dict_values raw.typeIs PySem.F.entry_dict_values (PySem.F.args_dict_values_1 _) (meets_dict_values_raw a hd) ⟨⟨es, ep, raw⟩, .ref s.heap.objs.size, upd H s.heap.objs.size (valsO s.heap.objs.size a), I.laid (t' := s.toks) (fun b u e => Heap.get?_push_of_some _ e) (Nat.le_refl _) (valsO_ok (Heap.get?_push_size _ rfl)), rfl, q _ hf⟩
theorem raw_src {prog : Program} {w : World} {r d : Addr} {es : Array DictEntry} {ep : Nat} : PySem.W.KdlSrc prog w "dict_values" r d es.size (fun i v => ∃ hi : i < es.size, v = es[i].val) (fun h => h.IsValuesView r d ∧ h.DictRaw d es ep) where
  type := fun _ hm => hm.1.typeIs
  there := fun _ hm => ⟨let ⟨_, ho, _⟩ := hm.1; Heap.lt_size ho, let ⟨_, ho, _⟩ := hm.2; Heap.lt_size ho⟩
  keep := fun _ _ hm hk => ⟨let ⟨o, ho, x⟩ := hm.1; ⟨o, hk r (.inl rfl) o ho, x⟩, hm.2.at fun o e => hk d (.inr rfl) o e⟩
  notList := by decide
  notTuple := by decide
  hint := fun _ _ _ _ hm hq => PySem.W.kdl_hint_values hm.1.typeIs hq
  iter := fun _ _ hh hm => ⟨_, _, (fun _ _ hq => wpAny_pyIter_values_raw hm.1 hm.2 hq), Walks.rawValues hh _ d (let ⟨_, ho, _⟩ := hm.2; Nat.ne_of_lt (Heap.lt_size ho)) es ep, ⟨⟨_, Heap.get?_push_size _ rfl, rfl, rfl⟩, hm.2.at fun _ e => Heap.get?_push_of_some _ e⟩⟩
theorem vals_of : ∀ {xs : List V} {us : List Value}, us.length = xs.length → (∀ (j : Nat) x u, xs[j]? = some x → us[j]? = some u → RelV x u) → Vals xs us
  | [], [], _, _ => .nil
  | x :: r, u :: us, hl, all => .cons (all 0 x u rfl rfl) (vals_of (by simpa using hl) fun j x u hx hu => all (j + 1) x u (by simpa using hx) (by simpa using hu))
  | [], _ :: _, hl, _ => nomatch hl
  | _ :: _, [], hl, _ => nomatch hl
def rListVals : List V → Hp → VK → Prop := fun vs H Q => ∃ (p a : Addr) (xs : List V), vs = [.ref p] ∧ H p = some (valsO p a) ∧ DVal H a xs ∧ ∀ l, H l = none → Q (.ref l) (upd H l (.lst xs))
theorem call_list_vals (hc : X.calm = true) : CallR X (.type "list") rListVals := by
  intro pins s σ H xs us Q I rv h
  obtain ⟨p, a, xs, rfl, hp, ha, q⟩ := h
  obtain ⟨u, rfl, ru⟩ := rv.one
  cases ru
  refine callType_codes (Q₁ := fun obj s₁ => obj = .ref s.heap.objs.size ∧ s₁ = { s with heap := s.heap.push { cls := .type "list", data := .seq #[] } }) PySem.F.called_list (PySem.F.typeCall_list_1 _) PySem.F.entry_list_init
    (code_list_new _ ⟨rfl, rfl⟩) fun obj s₁ h₁ => ?_
  obtain ⟨rfl, rfl⟩ := h₁
  have hS : (s.heap.push { cls := .type "list", data := .seq #[] }).get? s.heap.objs.size = some { cls := .type "list", data := .seq #[] } := Heap.get?_push_size _ rfl
  refine ⟨⟨_, hS, rfl⟩, PySem.F.args_list_init_2 _ _, ?_⟩
  have fr : H s.heap.objs.size = none := I.hok.fresh (Nat.le_refl _)
  have I1 : Inv X pins σ (upd H s.heap.objs.size (.lst [])) { s with heap := s.heap.push { cls := .type "list", data := .seq #[] } } := I.lnew (its := []) (t' := s.toks) .nil (Nat.zero_le _)
  show wpAny _ _ (do let old ← Builtin.List.listItems (.ref s.heap.objs.size); Builtin.List.listUpdate (.ref s.heap.objs.size) (fun _ => #[]); letGo old.toList.reverse; Builtin.List.listExtendWith (.ref s.heap.objs.size) (.ref p) .none) _ _ _
  refine wpAny_bind ?_
  unfold Builtin.List.listItems
  refine wpAny_bind (wpAny_seqItems hS rfl (wpAny_pure ?_))
  show wpAny _ _ (updateSeq s.heap.objs.size (fun _ => #[]) >>= fun _ => letGo (#[] : Array Value).toList.reverse >>= fun _ => Builtin.List.listExtendWith (.ref s.heap.objs.size) (.ref p) .none) _ _ _
  refine wpAny_bind (wpAny_updateSeq hS rfl ?_)
  have I2 := I1.lset (f := fun _ => #[]) (its := []) (its' := []) (ys := []) (t' := s.toks) upd_same hS rfl .nil (Nat.zero_le _)
  rw [upd_upd] at I2
  refine wpAny_bind (wpAny_letGo ?_)
  generalize hSS : s.heap.objs.size = S at *
  generalize hsB : ({ s with heap := _ } : Shared) = sB at I2 ⊢
  have sS := same_upd (o := .lst []) fr
  have view : sB.heap.IsValuesView p a := (show ObjOk X.prog X.w _ sB.heap p (valsO p a) from I2.hok p _ (sS _ _ hp)).1
  obtain ⟨hd, hz, es, ep, raw, hes, hval⟩ := dval_raw I2 (ha.same sS)
  obtain ⟨z3, its, c0, r3, hl3, e3⟩ := I2.lstM upd_same
  cases r3
  have hSp : S ≠ p := fun z => by subst z; rw [hp] at fr; cases fr
  have hSa : S ≠ a := fun z => by
    subst z
    rcases ha with ⟨k, e, _⟩ | ⟨k, e, _⟩ <;> (rw [e] at fr; cases fr)
  refine PySem.W.kdl_extend (A := X.A.in1) (prog := X.prog) (w := X.w) (R := wants (fun r s₂ => r = .none ∧ EP X pins σ Q (.ref S) s₂) X.xe) (raw_src (es := es) (ep := ep)) (I.ok.hd hc) ⟨view, raw⟩ S hSp hSa .none c0 e3 (fun h' tk acc c hk hS' hit => ?_) (by rw [hes]; exact hz)
  have hvals : Vals xs acc.toList := by
    have hl : acc.toList.length = xs.length := by rw [Array.length_toList, hit.1, hes]
    have all : ∀ (j : Nat) x u, xs[j]? = some x → acc.toList[j]? = some u → RelV x u := fun j x u hx hu => by
      obtain ⟨e, he, r⟩ := hval j x hx
      obtain ⟨hj, rfl⟩ := hit.2 j u (by simpa using hu)
      rw [Array.getElem?_eq_getElem hj] at he
      cases he
      exact r
    exact vals_of hl all
  have I3 : Inv X pins σ (upd (upd H S (.lst [])) S (.lst xs)) { sB with heap := h', toks := tk } := by
    refine I2.write (x := S) (e := S) (by rw [upd_same]; exact True.intro) (.inl rfl) (fun b q hb z => hk b q hb z) ⟨_, hS'⟩ ?_
    exact ⟨hz, acc.toList, c, hvals, by simpa using hS'⟩
  rw [upd_upd] at I3
  exact ⟨rfl, .ref S, _, I3, rfl, q S fr⟩
end
end HG

namespace HG
open PySem PySem.Spec PyProof.Rows L2
open C8 (pss_cut tCut)
section
variable {X : Cx}
def rClearT : V → List V → Hp → VK → Prop := fun x vs H Q => ∃ (a : Addr) (kvs : List (List L2.Key × V)), x = .ref a ∧ vs = [] ∧ H a = some (.dT kvs) ∧ Q .non (upd H a (.dT []))
theorem mt_clearT : MtR X "dict.clear" rClearT := by
  intro pins s σ H x vs v us Q I rx rv h
  obtain ⟨a, kvs, rfl, rfl, e, q⟩ := h
  obtain rfl : v = Value.ref a := rx
  have hus := rv.zero
  subst hus
  obtain ⟨z, hd, xs, rel, dd⟩ := dt_of I.hok e
  have hx : xs.length ≤ sizeLine := by rw [← Paired.length rel]; exact z
  refine clear_keyed (knd := tupleKind (mixKind X.prog X.w)) (hsz := by rw [pairsH_length]; exact hx) ⟨xs, dd, rfl⟩ fun h' dk hs => ?_
  obtain ⟨ys, ⟨o, es, ep, ho, hxo, hdd, hee, _, hnn⟩, ey⟩ := dk
  have hy : ys = [] := by
    cases ys with
    | nil => rfl
    | cons _ _ => cases ey
  subst hy
  have new : ObjOk X.prog X.w (upd H a (.dT [])) h' a (.dT []) := ⟨Nat.zero_le _, hd, [], .nil, o, es, ep, ho, hxo, hdd, hee, hnn⟩
  exact ⟨.non, _, d_write I (by rw [e]; exact True.intro) hs ⟨o, ho⟩ new, rfl, q⟩
end
/-- what is emptied -/
def Emp (H : Hp) (d1 d2 : Addr) (xs : List V) (c : Addr) : Prop := c = d1 ∨ c = d2 ∨ (V.ref c ∈ xs ∧ ∃ ys, H c = some (.lst ys))
def spEmptied (K : PySem.W.Frag) : Sp := fun args H Q _ => ∃ (d1 d2 : Addr) (k1 : List (Key × V)) (k2 : List (List L2.Key × V)), args = [.ref d1, .ref d2] ∧ H d1 = some (.dK k1) ∧ H d2 = some (.dT k2) ∧ k1.length + k2.length ≤ 900 ∧
  (∀ x ∈ k1.map (·.2) ++ k2.map (·.2), ∃ c, x = .ref c ∧ ((∃ ys, H c = some (.lst ys)) ∨ ∃ ys, H c = some (.tup ys))) ∧
  ∀ H', (∀ c u, ¬ Emp H d1 d2 (k1.map (·.2) ++ k2.map (·.2)) c → H c = some u → H' c = some u) → Q .non H'
section
variable {P : Program} {w : World} {K : PySem.W.Frag} {mg : Str → Option Value} {base : Heap}
end
end HG

namespace HG
open PySem PySem.Spec PyProof.Rows L2
open C8 (pss_cut tCut)
theorem mergeK_new : ∀ (more kvs : List (Key × V)), ((kvs ++ more).map (·.1)).Nodup → mergeK kvs more = kvs ++ more
  | [], kvs, _ => by
    rw [List.append_nil]
    rfl
  | r :: more, kvs, h => by
    have hn : r.1 ∉ kvs.map (·.1) := by
      rw [List.map_append, List.nodup_append] at h
      exact fun hm => h.2.2 r.1 hm r.1 (List.mem_map.mpr ⟨r, List.mem_cons_self, rfl⟩) rfl
    have step : mergeK kvs (r :: more) = mergeK (putK kvs r.1 r.2) more := rfl
    rw [step, putK_new hn]
    have := mergeK_new more (kvs ++ [(r.1, r.2)]) (by rw [List.append_assoc]; exact h)
    rw [this, List.append_assoc]
    rfl
/-- handed in: a list, new, or a tuple -/
def Hnd (H0 H : Hp) (v : V) (xs : List V) : Prop := ∃ a, v = .ref a ∧ ((H0 a = none ∧ H a = some (.lst xs)) ∨ H a = some (.tup xs))

def ShW (W : List Way) (q : Way) : Prop := ∃ q0 ∈ W, q0.1 = q.1 ∧ q.2.Perm q0.2
def PrW (H0 H : Hp) (D : Addr) (q : Way) (pr : Addr) : Prop := ∃ a, H pr = some (.tup [.str q.1, .ref a]) ∧ H0 a = none ∧ a ≠ D ∧ H a = some (.lst (q.2.map V.str))
theorem pr_dict {K : PySem.W.Frag} {H0 H : Hp} {D : Addr} {W1 : List Way} {prs : List Addr} (h : Paired (PrW H0 H D) W1 prs) : ∃ k1 : List (Key × V), Paired (fun (q : Way) kv => kv.1 = Sum.inr q.1 ∧ ∃ a, kv.2 = .ref a ∧ H0 a = none ∧ H a = some (.lst (q.2.map V.str))) W1 k1 ∧ Paired (fun p (kv : Key × V) => SqT K H p [kV kv.1, kv.2]) prs k1 ∧ k1.map (·.1) = (W1.map (·.1)).map Sum.inr := by
  induction h with
  | nil => exact ⟨[], .nil, .nil, rfl⟩
  | @cons q pr qs prs r _ ih =>
    obtain ⟨k1, h1, h2, h3⟩ := ih
    obtain ⟨a, hp, n, _, ha⟩ := r
    exact ⟨(Sum.inr q.1, .ref a) :: k1, .cons ⟨rfl, a, rfl, n, ha⟩ h1, .cons (SqT.of hp) h2, by rw [List.map_cons, List.map_cons, List.map_cons, h3]⟩
def KvH (H0 H : Hp) (q : Way) (kv : Key × V) : Prop := kv.1 = Sum.inr q.1 ∧ Hnd H0 H kv.2 (q.2.map V.str)
def EvH (H0 H : Hp) (e : Row) (kv : List L2.Key × V) : Prop := kv.1 = kS e.1 ∧ Hnd H0 H kv.2 (e.2.map V.int)
theorem keysH {H0 H : Hp} {W1 : List Way} {k1 : List (Key × V)} (h : Paired (KvH H0 H) W1 k1) : k1.map (·.1) = (W1.map (·.1)).map Sum.inr := by
  induction h with
  | nil => rfl
  | cons r _ ih => rw [List.map_cons, List.map_cons, List.map_cons, ih, r.1]
theorem h_at {H0 H : Hp} : ∀ {W1 : List Way} {k1 : List (Key × V)} {z : Str}, Paired (KvH H0 H) W1 k1 → z ∈ W1.map (·.1) → ∃ q ∈ W1, q.1 = z ∧ ∃ v, valV k1 (Sum.inr z) = some v ∧ Hnd H0 H v (q.2.map V.str)
  | _, _, _, .nil, h => nomatch h
  | q :: r, kv :: k1, z, .cons p t, h => by
    obtain ⟨e1, hv⟩ := p
    by_cases hx : q.1 = z
    · subst hx
      exact ⟨q, List.mem_cons_self, rfl, kv.2, valV_pos e1, hv⟩
    · have hm : z ∈ r.map (·.1) := by
        rw [List.map_cons] at h
        rcases List.mem_cons.mp h with h | h
        · exact absurd h.symm hx
        · exact h
      obtain ⟨q', h1, h2, v, h3, h4⟩ := h_at t hm
      refine ⟨q', List.mem_cons_of_mem _ h1, h2, v, ?_, h4⟩
      rw [valV_neg (fun e' => hx (Sum.inr.inj (e1.symm.trans e')))]
      exact h3
theorem h_put {H0 H H' : Hp} {W1 : List Way} {k1 : List (Key × V)} {z : Str} {pt : Addr} {xs : List V} (h : Paired (KvH H0 H) W1 k1) (nd : (W1.map (·.1)).Nodup) (hm : z ∈ W1.map (·.1)) (hq : ∀ q ∈ W1, q.1 = z → xs = q.2.map V.str) (hpt : H' pt = some (.tup xs)) (keep : ∀ v ys, Hnd H0 H v ys → Hnd H0 H' v ys) : Paired (KvH H0 H') W1 (putK k1 (Sum.inr z) (.ref pt)) := by
  have hin : (k1.any fun kv => decide (kv.1 = Sum.inr z)) = true := by
    obtain ⟨_, _, _, v, hv, _⟩ := h_at h hm
    rw [valV_any, hv]
    rfl
  unfold putK
  rw [if_pos hin]
  clear hin hm
  induction h with
  | nil => exact .nil
  | @cons q kv qs k1 r t ih =>
    rw [List.map_cons]
    rw [List.map_cons, List.nodup_cons] at nd
    refine .cons ?_ (ih nd.2 fun q' hq' => hq q' (List.mem_cons_of_mem _ hq'))
    by_cases hx : q.1 = z
    · rw [if_pos (by rw [r.1, hx])]
      refine ⟨r.1, pt, rfl, .inr ?_⟩
      rw [hpt, hq q List.mem_cons_self hx]
    · rw [if_neg fun e => hx (Sum.inr.inj (r.1.symm.trans e))]
      exact ⟨r.1, keep _ _ r.2⟩
theorem Hnd.but {H0 H H' : Hp} {b : Addr} {v : V} {xs : List V} (h : Hnd H0 H v xs) (kb : But b H H') (hb0 : H0 b ≠ none) (hb : ∃ ys, H b = some (.lst ys)) : Hnd H0 H' v xs := by
  obtain ⟨a, rfl, h⟩ := h
  refine ⟨a, rfl, h.imp (fun ⟨n, h⟩ => ⟨n, kb _ _ h fun z => hb0 (z ▸ n)⟩) (fun h => kb _ _ h fun z => ?_)⟩
  obtain ⟨ys, e⟩ := hb
  rw [z, e] at h
  cases h
theorem unlockB {H H' : Hp} {b d : Addr} {u o : HO} (hd : H d = some u) (s : But b (upd H d o) H') : But b H (upd H' d u) := fun c x e hc => by
  by_cases h : c = d
  · subst h
    rw [upd_same]
    exact hd.symm.trans e
  · rw [upd_ne h]
    exact s c x (by rw [upd_ne h]; exact e) hc

theorem paired_perm {α β : Type} {R : α → β → Prop} {bs cs : List β} (p : cs.Perm bs) : ∀ {es : List α}, Paired R es bs → ∃ es', es'.Perm es ∧ Paired R es' cs := by
  induction p with
  | nil => exact fun {es} h => ⟨es, .refl _, h⟩
  | cons x p ih =>
    intro es h
    cases h with
    | cons r t =>
      obtain ⟨es', h1, h2⟩ := ih t
      exact ⟨_, h1.cons _, .cons r h2⟩
  | swap x y l =>
    intro es h
    cases h with
    | cons r t =>
      cases t with
      | cons r2 t2 => exact ⟨_, .swap _ _ _, .cons r2 (.cons r t2)⟩
  | trans p1 p2 ih1 ih2 =>
    intro es h
    obtain ⟨e1, h1, h2⟩ := ih2 h
    obtain ⟨e2, h3, h4⟩ := ih1 h2
    exact ⟨e2, h3.trans h1, h4⟩
theorem refs_of_perm {ys : List V} {bs : List Addr} (h : ys.Perm (bs.map V.ref)) : ∃ cs : List Addr, ys = cs.map V.ref ∧ cs.Perm bs := by
  have key : ∀ {xs ys : List V}, ys.Perm xs → ∀ zs : List Addr, xs = zs.map V.ref → ∃ ws : List Addr, ys = ws.map V.ref ∧ ws.Perm zs := by
    intro xs ys h
    induction h with
    | nil => exact fun zs e => ⟨[], rfl, by cases zs with | nil => exact .nil | cons a r => cases e⟩
    | cons x p ih =>
      intro zs e
      cases zs with
      | nil => cases e
      | cons a r =>
        rw [List.map_cons, List.cons.injEq] at e
        obtain ⟨ws, e1, p1⟩ := ih r e.2
        exact ⟨a :: ws, by rw [e1, e.1]; rfl, p1.cons a⟩
    | swap x y l =>
      intro zs e
      match zs, e with
      | a :: c :: r, e =>
        rw [List.map_cons, List.map_cons, List.cons.injEq, List.cons.injEq] at e
        exact ⟨c :: a :: r, by rw [e.1, e.2.1, e.2.2]; rfl, List.Perm.swap a c r⟩
    | trans p1 p2 ih1 ih2 =>
      intro zs e
      obtain ⟨ws, e1, q1⟩ := ih2 zs e
      obtain ⟨us, e2, q2⟩ := ih1 ws e1
      exact ⟨us, e2, q2.trans q1⟩
  exact key h bs rfl
theorem keys_row {H : Hp} {es : List Row} {kvs : List (List L2.Key × V)} {bs : List Addr} (h : Paired (KvE H) es kvs) : L2.IsKeys H kvs bs → Paired (fun (e : Row) c => H c = some (.tup (e.1.map V.str))) es bs := by
  unfold L2.IsKeys
  intro q
  induction h generalizing bs with
  | nil =>
    cases q
    exact .nil
  | cons r _ ih =>
    cases q with
    | cons a t =>
      refine .cons ?_ (ih t)
      rw [← kS_v, ← r.1]
      exact a
theorem Hnd.upd {H0 H : Hp} {d : Addr} {o u : HO} {v : V} {xs : List V} (h : Hnd H0 H v xs) (hd : H d = some u) (h1 : ∀ ys, u ≠ .lst ys) (h2 : ∀ ys, u ≠ .tup ys) : Hnd H0 (upd H d o) v xs := by
  obtain ⟨a, rfl, h⟩ := h
  refine ⟨a, rfl, h.imp (fun ⟨n, h⟩ => ⟨n, ?_⟩) (fun h => ?_)⟩
  · rw [upd_ne (ne_of h hd fun z => h2 _ z.symm)]
    exact h
  · rw [upd_ne (ne_of h hd fun z => h1 _ z.symm)]
    exact h
def spHanded : Sp := fun args H Q _ => ∃ (b k d g : Addr) (ns : List Int) (W : List Way) (kvs : List (List L2.Key × V)) (es : List Row) (sts : List (List Str)), args = [.ref b, .ref d, .ref g] ∧ ABag H b k ns ∧ ShL (fun _ => True) H d W ∧ WOk W ∧ H g = some (.dT kvs) ∧ Paired (KvE H) es kvs ∧ es.map (·.1) = sts ∧ sts.Nodup ∧ sts.length ≤ 256 ∧
  ∀ H' T d1 d2 W1 k1 k2 es2, But b H H' → ABag H' b k ns → H' T = some (.tup [.ref d1, .ref d2]) → H d1 = none → H d2 = none → d1 ≠ d2 → H' d1 = some (.dK k1) → Paired (fun (q : Way) kv => kv.1 = Sum.inr q.1 ∧ Hnd H H' kv.2 (q.2.map V.str)) W1 k1 → (W1.map (·.1)).Perm (W.map (·.1)) → (∀ q ∈ W1, ∃ q0 ∈ W, q0.1 = q.1 ∧ q.2.Perm q0.2) →
    H' d2 = some (.dT k2) → Paired (fun (e : Row) kv => kv.1 = kS e.1 ∧ Hnd H H' kv.2 (e.2.map V.int)) es2 k2 → es2.Perm es → Q (.ref T) H'
section
variable {P : Program} {w : World} {K : PySem.W.Frag} {mg : Str → Option Value} {base : Heap}
variable {fT fO fM : Addr} {dT dO dM : FuncData}
end
end HG

namespace HG
open PySem PySem.Spec PyProof.Rows L2 HT
section
variable {prog : Program} {w : World} {A : Around} {E : Value → Shared → Prop} {s : Shared}
theorem sliceApplied_rev {sl : Addr} {vk : Value} {n : Nat} {Q : Int × Int × Nat → Shared → Prop} (hs : s.heap.IsSliceOf sl .none .none vk) (pk : IsPart vk (some (-1)))
    (h : Q ((n : Int) - 1, -1, n) s) : wpAny (model prog w) A (Builtin.Slice.sliceApplied (.ref sl) (pure (n : Int))) Q E s := by
  obtain ⟨os, hos, hcs, hds⟩ := id hs
  unfold Builtin.Slice.sliceApplied Builtin.Slice.sliceFields
  refine wpAny_bind (wpAny_bind (wpAny_field hos hds (x := .none) rfl (wpAny_bind (wpAny_field hos hds (x := .none) rfl (wpAny_bind (wpAny_field hos hds (x := vk) rfl (wpAny_pure ?_)))))))
  refine wpAny_bind (slicePart_ pk ?_)
  show wpAny _ _ (if ((-1 : Int) == 0) = true then _ else _) _ _ s
  rw [if_neg (by decide)]
  refine wpAny_bind (slicePart_none (wpAny_bind (slicePart_none (wpAny_bind (wpAny_pure ?_)))))
  show wpAny _ _ (match Builtin.Slice.sliceAdjust none none (-1) (n : Int) with | (lo, hi) => pure (lo, (-1 : Int), Builtin.Slice.slicePlaces lo hi (-1))) _ _ s
  rw [show Builtin.Slice.sliceAdjust none none (-1) (n : Int) = ((n : Int) - 1, -1) from rfl]
  show wpAny _ _ (pure ((n : Int) - 1, (-1 : Int), Builtin.Slice.slicePlaces ((n : Int) - 1) (-1) (-1))) _ _ s
  have e : Builtin.Slice.slicePlaces ((n : Int) - 1) (-1) (-1) = n := by
    unfold Builtin.Slice.slicePlaces
    have h1 : ¬ ((-1 : Int) > 0) := by decide
    simp only [h1, if_false]
    rw [show (- -1 : Int) = 1 by decide, Int.ediv_one]
    split <;> omega
  rw [e]
  exact wpAny_pure h
theorem getItem_tuple_rev {t sl : Addr} {items : Array Value} {vk : Value} {Q : Value → Shared → Prop} (ht : IsTup s.heap t items) (hs : s.heap.IsSliceOf sl .none .none vk) (pk : IsPart vk (some (-1)))
    (h : Q (.ref s.heap.objs.size) { s with heap := s.heap.push { cls := .type "tuple", data := .seq items.toList.reverse.toArray } })
    (hsz : items.size ≤ sizeLine) : wpAny (model prog w) A (getItem (.ref t) (.ref sl)) Q E s := by
  have htake : sizeOk (.seq items.toList.reverse.toArray) := by
    show items.toList.reverse.toArray.size ≤ sizeLine
    rw [List.size_toArray, List.length_reverse, Array.length_toList]
    exact hsz
  obtain ⟨os, hos, hcs, hds⟩ := id hs
  have hTs : s.TypeIs (.ref sl) "slice" := ⟨os, hos, hcs⟩
  unfold getItem
  try with_reducible refine wpAny_holding ?_
  first | refine wpAny_bind (wpAny_pure ?_) | skip
  refine wpAny_bind (wpAny_sequenceKey ht.typeIs (by decide) ?_)
  refine wpAny_bind (wpAny_callSpecial?_slot (name := Str.ofString "__getitem__") ht.typeIs PyProof.Rows.slot_tuple_getitem
    (wpAny_call_entry PyProof.Rows.slot_tuple_getitem ht.typeIs entry_tuple_getitem ?_ (args_tuple_getitem _ _)))
  show wpAny _ _ (Builtin.Tuple.tupleItemsOf (.ref t) >>= _) _ _ s
  refine wpAny_bind (tupleItemsOf_ ht ?_)
  refine wpAny_bind (wpAny_typeOf hTs ?_)
  rw [if_pos (by decide)]
  refine wpAny_bind (sliceApplied_rev hs pk ?_)
  have hno : ¬ ((((items.size : Int) - 1) == 0 && (-1 : Int) == 1 && items.size == items.size) = true) := by
    intro q
    rw [Bool.and_eq_true, Bool.and_eq_true] at q
    exact absurd q.1.2 (by decide)
  show wpAny _ _ (if (((items.size : Int) - 1) == 0 && (-1 : Int) == 1 && items.size == items.size) = true then _ else _) _ _ s
  rw [if_neg hno]
  have pick : ((List.range items.size).filterMap fun (m : Nat) => items[((items.size : Int) - 1 + (m : Int) * (-1)).toNat]?).toArray = items.toList.reverse.toArray := by
    congr 1
    have e : (List.range items.size).filterMap (fun (m : Nat) => items[((items.size : Int) - 1 + (m : Int) * (-1)).toNat]?) = ((List.range items.size).map fun k => items.size - 1 - k).filterMap (items[·]?) := by
      rw [List.filterMap_map]
      have hc : ∀ (l : List Nat), (∀ m ∈ l, m < items.size) → l.filterMap (fun (m : Nat) => items[((items.size : Int) - 1 + (m : Int) * (-1)).toNat]?) = l.filterMap ((fun x => items[x]?) ∘ fun k => items.size - 1 - k) := by
        intro l
        induction l with
        | nil => intro _; rfl
        | cons m r ih =>
          intro hl
          have hm := hl m List.mem_cons_self
          have e : ((items.size : Int) - 1 + (m : Int) * (-1)).toNat = items.size - 1 - m := by omega
          rw [List.filterMap_cons, List.filterMap_cons, ih fun z hz => hl z (List.mem_cons_of_mem _ hz)]
          have e2 : ((fun x => items[x]?) ∘ fun k => items.size - 1 - k) m = items[items.size - 1 - m]? := rfl
          rw [e, e2]
      exact hc _ fun m hm => List.mem_range.mp hm
    rw [e, PySem.W.krv_range, List.filterMap_reverse, PySem.W.krv_all]
  rw [pick]
  first
    | exact wpAny_bind (m := Builtin.Tuple.tupleExact _) (wpAny_newObj_type (wpAny_pure ⟨_, rfl, wpAny_pure h⟩) htake)
    | exact wpAny_bind (m := Builtin.Tuple.tupleExact _) (wpAny_newObj_type (wpAny_bind (wpAny_pure (wpAny_pure ⟨_, rfl, wpAny_pure h⟩))) htake)
    | exact wpAny_bind (wpAny_bind (m := Builtin.Tuple.tupleExact _) (wpAny_newObj_type (wpAny_pure (wpAny_pure ⟨_, rfl, wpAny_pure h⟩)) htake))
    | exact wpAny_bind (wpAny_bind (m := Builtin.Tuple.tupleExact _) (wpAny_newObj_type (wpAny_pure ⟨_, rfl, wpAny_pure h⟩) htake))
end
section
variable {X : Cx}
/-- t[::-1] of a tuple -/
def tRevT (K : PySem.W.Frag) (te : TE) : TE := fun σ H Q => te σ H fun x H1 => ∃ a xs, x = .ref a ∧ SqT K H1 a xs ∧ ∀ p, H1 p = none → Q (.ref p) (upd H1 p (.tup xs.reverse))
theorem pe_revT {e : Expr} {te : TE} {k : Nat} {p1 p2 p3 pos : Pos} (he : PE X e te) : PE X (.Subscript e (.Slice none none (some (.UnaryOp .USub (.Constant (.int 1) k p1) p2)) p3) pos) (tRevT X.K te) := by
  refine ⟨fun pins s σ H Q I h => ?_⟩
  refine Subscript_ (thn (he.run pins s σ H _ I h) fun v s1 ⟨x, H1, I1, r1, q1⟩ => ?_)
  obtain ⟨a, xs, ex, hx, q⟩ := q1
  subst ex
  cases r1
  have hst : PO X (some (.UnaryOp .USub (.Constant (.int 1) k p1) p2)) (tPart (tUn (rU fun i => .int (-i)) (tC (.int 1)))) := po_some (pe_un un_neg pe_int)
  refine wpAny_Slice (thn (po_none.run pins s1 σ H1 (fun o H2 => o = none ∧ H2 = H1) I1 ⟨rfl, rfl⟩) fun vl s2 ⟨l, H2, I2, pl, el, e2⟩ => ?_)
  subst el e2
  refine thn (po_none.run pins s2 σ H2 (fun o H3 => o = none ∧ H3 = H2) I2 ⟨rfl, rfl⟩) fun vu s3 ⟨u, H3, I3, pu, eu, e3⟩ => ?_
  subst eu e3
  refine thn (hst.run pins s3 σ H3 (fun o H4 => o = some (-1) ∧ H4 = H3) I3 ⟨1, rfl, -1, rfl, rfl, rfl⟩) fun vs s4 ⟨o, H4, I4, ps, eo, e4⟩ => ?_
  subst eo e4
  have I5 : Inv X pins σ H4 { s4 with heap := s4.heap.push { cls := .type "slice", data := .fields #[vl, vu, vs] } } := I4.kept (t' := s4.toks) fun b ob q => Heap.get?_push_of_some _ q
  obtain ⟨its, r, ht, hz⟩ := I5.tuple hx
  have hlen := r.length
  cases pl
  cases pu
  show wpAny (model X.prog X.w) X.A (subscriptTail e (.Slice none none (some (.UnaryOp .USub (.Constant (.int 1) k p1) p2)) p3) (.ref a) (.ref s4.heap.objs.size)) (EP X pins σ Q) X.xe { s4 with heap := s4.heap.push { cls := .type "slice", data := .fields #[.none, .none, vs] } }
  refine tail_any (ops := [.ref a, .ref s4.heap.objs.size]) ht.typeIs (PyProof.Rows.slot_tuple_getitem.lookup) ?_ (by with_unfolding_all rfl)
  refine getItem_tuple_rev ht (Heap.IsSliceOf.new _ .none .none vs) ps ?_ (by rw [List.size_toArray]; omega)
  refine ⟨.ref _, _, I5.laid (t' := s4.toks) (o := .tup xs.reverse) (fun b ob q => Heap.get?_push_of_some _ q) (Nat.le_refl _) ?_, rfl, q _ (I5.hok.fresh (Nat.le_refl _))⟩
  exact ⟨by rw [List.length_reverse]; exact hz, _, r.reverse, IsTup.new _ _⟩
end
/-! ### tuple * 1 -/
theorem tuple_mul1 (l : Addr) (items : Array Value) (n : Nat) (dd : Option Addr) (sl : Array (Option Value)) (u : Tok) :
    Meets (Builtin.«tuple.__mul__» ⟨[.ref l, .int 1 u], []⟩) (fun _ R s => s.heap.get? l = some { cls := .type "tuple", dict := dd, data := .seq items n, slots := sl } ∧
      R (.ok (.ret (Value.ref l))) s) :=
  .of_wp fun prog w A R s h => by
    obtain ⟨hp, g, d, tk, os⟩ := s
    obtain ⟨hl, h⟩ := h
    have f1 := AutoSeq1.idx_int
    wp_walk using wpAny_loadPart' hl
    repeat (first
      | (refine wpAny_ite_false (decide_eq_false (by decide)) ?_; wp_walk using wpAny_loadPart' hl)
      | (refine wpAny_ite_true (decide_eq_true (by rw [show ((1 : Int) == 1) = true from rfl, Bool.or_true])) ?_; wp_walk using wpAny_loadPart' hl))
    exact ⟨_, rfl, h⟩
/-- t * k -/
def rRepA (K : PySem.W.Frag) : R2 := fun x y H Q => ∃ l k xs, x = .ref l ∧ y = .int k ∧ SqT K H l xs ∧ xs ≠ [] ∧ 1 ≤ k ∧ k ≤ 1000 ∧ xs.length ≤ 1000 ∧ ∀ H' p, Same H H' → SqT K H' p (List.replicate k.toNat xs).flatten → Q (.ref p) H'
section
variable {X : Cx}
theorem op_repA : OpR X (binaryOp .Mult) (rRepA X.K) := by
  intro pins s σ H x y v u Q I rx ry h
  obtain ⟨l, k, xs, rfl, rfl, hT, hne, h1, h2, hz, q⟩ := h
  by_cases hk : k = 1
  · subst hk
    cases rx
    obtain ⟨t, rfl⟩ := ry
    obtain ⟨its, r, ⟨⟨cls, dd, data, sl⟩, ho, hc, n, hd⟩, hs⟩ := I.tuple hT
    simp only at hc hd
    subst hc hd
    refine wpAny_binaryOp_repeat_ref (T := "tuple") (U := "int") (by decide) ⟨_, ho, rfl⟩ (fun s' => typeIs_int s' 1 t) noFill_tuple_mul F.fills_int_mul F.slot_int_rmul repeat_tuple F.slot_int_index.lookup
      (call_meets F.slot_int_rmul (typeIs_int s 1 t) F.entry_int_rmul (F.args_int_rmul_2 _ _) (int_rmul_tuple 1 t l its.toArray n dd sl)
        ⟨ho, rfl, ⟨_, ho, rfl⟩, call_meets F.slot_tuple_mul ⟨_, ho, rfl⟩ F.entry_tuple_mul (F.args_tuple_mul_2 _ _) (tuple_mul1 l its.toArray n dd sl t) ⟨ho, ?_⟩⟩)
    refine ⟨.ref l, H, I, rfl, q H l (Same.refl _) ?_⟩
    show SqT X.K H l (List.replicate 1 xs).flatten
    rw [List.replicate_one, List.flatten_cons, List.flatten_nil, List.append_nil]
    exact hT
  · exact op_repT pins s σ H _ _ v u Q I rx ry ⟨l, k, xs, rfl, rfl, hT, hne, by omega, h2, hz, fun p hp => q _ p (same_upd hp) (SqT.of upd_same)⟩
end
end HG

namespace HG
open PySem PySem.Spec PyProof.Rows L2
open C8 (pss_cut tCut)
/-! ### texts' tuples as data -/
def dT (st : List Str) : PyData := .tuple (st.map PyData.str)
theorem eqvAll_strs : ∀ (a b : List Str), PyData.eqvAll (a.map PyData.str) (b.map PyData.str) = decide (a = b)
  | [], [] => by simp [PyData.eqvAll]
  | [], _ :: _ => by simp [PyData.eqvAll]
  | _ :: _, [] => by simp [PyData.eqvAll]
  | x :: xs, y :: ys => by
    rw [List.map_cons, List.map_cons, PyData.eqvAll, eqvAll_strs xs ys, PyData.eqv, show (x == y) = decide (x = y) from (str_beq x y)]
    by_cases h : x = y
    · subst h
      by_cases h2 : xs = ys
      · subst h2
        simp
      · rw [decide_eq_false h2, decide_eq_false (show ¬ (x :: xs = x :: ys) from fun z => h2 (List.cons.inj z).2), Bool.and_false]
    · rw [decide_eq_false h, decide_eq_false (show ¬ (x :: xs = y :: ys) from fun z => h (List.cons.inj z).1), Bool.false_and]
theorem dT_eqv (a b : List Str) : PyData.eqv (dT a) (dT b) = decide (a = b) := by
  unfold dT
  rw [PyData.eqv, eqvAll_strs]
theorem any_dT (sts : List (List Str)) (x : List Str) : ((sts.map dT).any fun z => PyData.eqv z (dT x)) = decide (x ∈ sts) := by
  induction sts with
  | nil => rfl
  | cons a r ih =>
    rw [List.map_cons, List.any_cons, ih, dT_eqv]
    by_cases h : a = x
    · subst h
      simp
    · rw [decide_eq_false h, Bool.false_or]
      by_cases h2 : x ∈ r
      · rw [decide_eq_true h2, decide_eq_true (List.mem_cons_of_mem _ h2)]
      · rw [decide_eq_false h2, decide_eq_false fun z => by rcases List.mem_cons.mp z with z | z; exact h z.symm; exact h2 z]
theorem nm_strOk {z : Str} (h : isNm z = true) : PyData.strOk z = true := by
  unfold isNm at h
  rw [Bool.and_eq_true, Bool.and_eq_true] at h
  have h1 := h.2.1
  unfold Txt.isascii at h1
  unfold PyData.strOk
  rw [Array.all_eq_true] at h1 ⊢
  intro i hi
  have := h1 i hi
  rw [decide_eq_true_iff] at this ⊢
  omega
theorem lay_strs : ∀ {st : List Str}, (∀ z ∈ st, PyData.strOk z = true) → PyData.canLayAll0 (st.map PyData.str) = true
  | [], _ => by simp [PyData.canLayAll0]
  | x :: xs, h => by
    rw [List.map_cons, PyData.canLayAll0, PyData.canLay0, h x List.mem_cons_self, lay_strs fun z hz => h z (List.mem_cons_of_mem _ hz)]
    rfl
theorem depth_strs : ∀ (st : List Str), PyData.depthAll (st.map PyData.str) = 0
  | [] => by simp [PyData.depthAll]
  | x :: xs => by rw [List.map_cons, PyData.depthAll, depth_strs xs, PyData.depth]; rfl
theorem dT_lay {st : List Str} (h : ∀ z ∈ st, isNm z = true) : PyData.canLay0 (dT st) = true := by
  unfold dT
  rw [PyData.canLay0]
  exact lay_strs fun z hz => nm_strOk (h z hz)
theorem dT_depth (st : List Str) : PyData.depth (dT st) = 1 := by
  unfold dT
  rw [PyData.depth, depth_strs]
theorem dT_shaped {st : List Str} (h : ∀ z ∈ st, isNm z = true) : SeqAt.shaped (dT st) = true := by
  unfold SeqAt.shaped
  rw [dT_lay h, dT_depth]
  rfl
theorem layAll_dT : ∀ {sts : List (List Str)}, (∀ st ∈ sts, ∀ z ∈ st, isNm z = true) → PyData.canLayAll0 (sts.map dT) = true
  | [], _ => by simp [PyData.canLayAll0]
  | x :: xs, h => by
    rw [List.map_cons, PyData.canLayAll0, dT_lay (h x List.mem_cons_self), layAll_dT fun z hz => h z (List.mem_cons_of_mem _ hz)]
    rfl
theorem depthAll_dT : ∀ (sts : List (List Str)), PyData.depthAll (sts.map dT) ≤ 1
  | [] => by simp [PyData.depthAll]
  | x :: xs => by
    rw [List.map_cons, PyData.depthAll, dT_depth]
    have := depthAll_dT xs
    omega
theorem tups_shaped {sts : List (List Str)} (h : ∀ st ∈ sts, ∀ z ∈ st, isNm z = true) : SeqAt.shaped (.list (sts.map dT)) = true := by
  unfold SeqAt.shaped
  rw [PyData.canLay0, layAll_dT h, PyData.depth, Bool.true_and, decide_eq_true_iff]
  have := depthAll_dT sts
  omega
theorem dpAll_strs {K : PySem.W.Frag} {H : Hp} : ∀ (st : List Str), DpAll K H (st.map V.str) (st.map PyData.str)
  | [] => .nil
  | x :: xs => .cons (.str x) (dpAll_strs xs)
theorem dp_tup {K : PySem.W.Frag} {H : Hp} {a : Addr} {st : List Str} (h : SqT K H a (st.map V.str)) : Dp K H (.ref a) (dT st) := .tup h (dpAll_strs st)
theorem dp_tups {K : PySem.W.Frag} {H : Hp} {sts : List (List Str)} {vs : List V} (h : TupsAt H sts vs) : DpAll K H vs (sts.map dT) := by
  induction h with
  | nil => exact .nil
  | cons r _ ih =>
    obtain ⟨a, rfl, ha⟩ := r
    exact .cons (dp_tup (SqT.of ha)) ih
theorem hu65_of {k : Nat} {A : Around} (r : Room k A) : A.units + 65 < cLine := by
  have := r.un
  omega
/-! ### near standings -/
structure NearOk (S : List Way) (fs : List (List Str)) : Prop where
  no : ∀ x ∈ fs, x ∉ stds S
  nm : ∀ x ∈ fs, ∀ z ∈ x, isNm z = true
  ln : ∀ x ∈ fs, x.length ≤ 9
  few : fs.length ≤ 100
  n1 : ∀ x ∈ fs, 1 ≤ x.length
def spLNear : Sp := fun args H Q _ => ∃ (d a : Addr) (W : List Way) (st : List Str), args = [.ref d, .ref a] ∧ ShL (fun _ => True) H d W ∧ WOk W ∧ H a = some (.tup (st.map V.str)) ∧ st.length ≤ 4 ∧ 1 ≤ st.length ∧ (∀ z ∈ st, isNm z = true) ∧
  ∀ H' p vs fs, Same H H' → H p = none → H' p = some (.lst vs) → TupsAt H' fs vs → NearOk (sh W) fs → Q (.ref p) H'
def zq : Str := "zq"
theorem zq_nm : isNm zq = true := by decide +kernel
section
variable {P : Program} {w : World} {K : PySem.W.Frag} {mg : Str → Option Value} {base : Heap}
variable {fT fO fN fS fW : Addr} {dT' dO dN dS dW : FuncData}
end
end HG

namespace HG
open PySem PySem.Spec PyProof.Rows L2
open C8 (pss_cut tCut)
/-! ### dicts of data: ==, != -/
def SameD (K : PySem.W.Frag) (H : Hp) (a b : Addr) : Prop := ∃ ks ls, H a = some (.dK ks) ∧ H b = some (.dK ls) ∧ ks.length = ls.length ∧ ∀ p ∈ ks, ∃ u d, valV ls p.1 = some u ∧ Dp K H p.2 d ∧ Dp K H u d ∧ SeqAt.shaped d = true
def rDD (K : PySem.W.Frag) (r : Bool) : R2 := fun x y H Q => ∃ a b, x = .ref a ∧ y = .ref b ∧ SameD K H a b ∧ Q (.bl r) H
theorem shaped_lay {d : PyData} (h : SeqAt.shaped d = true) : d.canLay0 = true := by
  unfold SeqAt.shaped at h
  exact (Bool.and_eq_true_iff.mp h).1
section
variable {X : Cx} {pins : List (Addr × Obj)} {σ : L2.St} {H : Hp} {s : Shared}
theorem hitsD (I : Inv X pins σ H s) (hu : X.A.in1.units + 64 < cLine) {ls : List (Key × V)} {vb : List (Key × Value)} (rb : KV ls vb) {ks : List (Key × V)} {va : List (Key × Value)} (ra : KV ks va) :
    (∀ p ∈ ks, ∃ u d, valV ls p.1 = some u ∧ Dp X.K H p.2 d ∧ Dp X.K H u d ∧ SeqAt.shaped d = true) → PySem.W.KeqHits X.A.in1 s vb va true := by
  unfold KV at ra
  induction ra with
  | nil => intro _; exact .nil
  | @cons p q ps qs h t k =>
    intro hp
    obtain ⟨h1, h2⟩ := h
    obtain ⟨u, d, e, d1, d2, sd⟩ := hp p List.mem_cons_self
    have rr : RelO (some u) (valueAt vb p.1) := by rw [← e]; exact rb.val p.1
    obtain ⟨y, hy, ry⟩ := rr.some_of
    obtain ⟨key, v⟩ := q
    have h1' : p.1 = key := h1
    rw [h1'] at hy
    obtain ⟨as, r1⟩ := Dp.reads I d _ v d1 h2
    obtain ⟨bs, r2⟩ := Dp.reads I d u y d2 ry
    have x := PySem.W.keq_at (A := X.A) r1 r2 sd sd hu
    rw [SeqAt.eqv_refl d (shaped_lay sd)] at x
    show PySem.W.KeqHits X.A.in1 s vb ((key, v) :: qs) (true && true)
    exact .hit hy x (k fun p' hm => hp p' (List.mem_cons_of_mem _ hm))
end
section
variable {X : Cx}
theorem op_neDD (hu : X.A.units + 65 < cLine) : OpR X (compareOp .NotEq) (rDD X.K false) := by
  intro pins s σ H x y v u Q I rx ry h
  obtain ⟨a, b, rfl, rfl, ⟨ks, ls, ha, hb, hl, hp⟩, q⟩ := h
  cases (show v = Value.ref a from rx)
  cases (show u = Value.ref b from ry)
  obtain ⟨_, ya, va, ra, da⟩ := (show ObjOk X.prog X.w H s.heap a (.dK ks) from I.hok a _ ha)
  obtain ⟨_, yb, vb, rb, db⟩ := (show ObjOk X.prog X.w H s.heap b (.dK ls) from I.hok b _ hb)
  refine PySem.W.keq_ne (knd := mixKind X.prog X.w) (r := true) ya yb da db (by omega) (fun _ => hitsD I (by show X.A.units + 1 + 64 < cLine; omega) rb ra hp) ?_
  have e : va.length = vb.length := by rw [← ra.length, ← rb.length]; exact hl
  rw [show (!(va.length == vb.length && true)) = false from by rw [e]; simp]
  exact ⟨.bl false, H, I, rfl, q⟩
theorem op_eqDD (hu : X.A.units + 65 < cLine) : OpR X (compareOp .Eq) (rDD X.K true) := by
  intro pins s σ H x y v u Q I rx ry h
  obtain ⟨a, b, rfl, rfl, ⟨ks, ls, ha, hb, hl, hp⟩, q⟩ := h
  cases (show v = Value.ref a from rx)
  cases (show u = Value.ref b from ry)
  obtain ⟨_, ya, va, ra, da⟩ := (show ObjOk X.prog X.w H s.heap a (.dK ks) from I.hok a _ ha)
  obtain ⟨_, yb, vb, rb, db⟩ := (show ObjOk X.prog X.w H s.heap b (.dK ls) from I.hok b _ hb)
  refine PySem.W.keq_eq (knd := mixKind X.prog X.w) (r := true) ya yb da db (by omega) (fun _ => hitsD I (by show X.A.units + 1 + 64 < cLine; omega) rb ra hp) ?_
  have e : va.length = vb.length := by rw [← ra.length, ← rb.length]; exact hl
  rw [show (va.length == vb.length && true) = true from by rw [e]; simp]
  exact ⟨.bl true, H, I, rfl, q⟩
end
/-! ### shapes, sorted twice -/
theorem sh_names (W : List Way) : (sh W).map (·.1) = srt (W.map (·.1)) := by
  unfold sh
  rw [List.map_map]
  exact List.map_id _
theorem srt_srt (l : List Str) : srt (srt l) = srt l := srt_of_perm (srt_perm l)
theorem sh_sh {W : List Way} (ok : WOk W) : sh (sh W) = sh W := by
  have nd := ok.sok.nd
  show (srt ((sh W).map (·.1))).map (fun k => (k, srt (lookW (sh W) k))) = sh W
  rw [sh_names, srt_srt, ← sh_names, List.map_map]
  have : ∀ q ∈ sh W, ((fun k => (k, srt (lookW (sh W) k))) ∘ fun q : Way => q.1) q = q := fun q hq => by
    show (q.1, srt (lookW (sh W) q.1)) = q
    rw [lookW_of nd hq]
    obtain ⟨q0, _, rfl⟩ := sh_of ok.nd hq
    show (q0.1, srt (srt q0.2)) = (q0.1, srt q0.2)
    rw [srt_srt]
  rw [List.map_congr_left this, List.map_id']
theorem strs_shaped {zs : List Str} (h : ∀ z ∈ zs, isNm z = true) : SeqAt.shaped (.list (zs.map PyData.str)) = true := by
  unfold SeqAt.shaped
  rw [PyData.canLay0, lay_strs fun z hz => nm_strOk (h z hz), PyData.depth, depth_strs]
  rfl
theorem eqv_strs {zs : List Str} (h : ∀ z ∈ zs, isNm z = true) : PyData.eqv (.list (zs.map PyData.str)) (.list (zs.map PyData.str)) = true := SeqAt.eqv_refl _ (shaped_lay (strs_shaped h))
theorem dp_strs {K : PySem.W.Frag} {H : Hp} {a : Addr} {zs : List Str} (h : H a = some (.lst (zs.map V.str))) : Dp K H (.ref a) (.list (zs.map PyData.str)) := .lst (SqL.of h) (dpAll_strs zs)
theorem valV_mem {κ : Type} [DecidableEq κ] {kvs : List (κ × V)} {k : κ} {v : V} (h : valV kvs k = some v) : ∃ kv ∈ kvs, kv.2 = v := by
  unfold valV at h
  obtain ⟨kv, h1, h2⟩ := Option.map_eq_some_iff.mp h
  exact ⟨kv, List.mem_of_find?_eq_some h1, h2⟩
theorem kvl_mem {N : Addr → Prop} {H : Hp} {S : List Way} {kvs : List (Key × V)} (h : Paired (KvL N H) S kvs) {kv : Key × V} (m : kv ∈ kvs) : ∃ q ∈ S, KvL N H q kv := by
  obtain ⟨i, hi, ei⟩ := List.getElem_of_mem m
  obtain ⟨q, hq, r⟩ := paired_get h (show kvs[i]? = some kv by rw [List.getElem?_eq_getElem hi, ei])
  exact ⟨q, List.mem_of_getElem? hq, r⟩
theorem shl_same {K : PySem.W.Frag} {N M : Addr → Prop} {H : Hp} {a b : Addr} {S : List Way} (ok : SOk S) (h1 : ShL N H a S) (h2 : ShL M H b S) : SameD K H a b := by
  obtain ⟨ks, ha, p1⟩ := h1
  obtain ⟨ls, hb, p2⟩ := h2
  refine ⟨ks, ls, ha, hb, by rw [← Paired.length p1, ← Paired.length p2], fun p hp => ?_⟩
  obtain ⟨i, hi, ei⟩ := List.getElem_of_mem hp
  obtain ⟨q, hq, ek, c, ev, _, hc⟩ := paired_get p1 (show ks[i]? = some p by rw [List.getElem?_eq_getElem hi, ei])
  have hqm := List.mem_of_getElem? hq
  obtain ⟨c', hv, _, hc'⟩ := way_at p2 ok.nd hqm
  refine ⟨.ref c', .list (q.2.map PyData.str), by rw [ek]; exact hv, ?_, dp_strs hc', strs_shaped (ok.wn q hqm)⟩
  rw [ev]
  exact dp_strs hc
/-! ### _law_shape_right -/
def spShapeR (K : PySem.W.Frag) (C : Addr) : Sp := fun args H Q _ => ∃ (g d : Addr) (W : List Way) (N : Addr → Prop) (γ : List Str → List Int), args = [.ref g, .ref d] ∧ IsG K C N H g (sh W) γ ∧ ShL (fun _ => True) H d W ∧ WOk W ∧ ∀ H', Same H H' → Q (.bl true) H'
section
variable {P : Program} {w : World} {K : PySem.W.Frag} {mg : Str → Option Value} {base : Heap} {C : Addr}
variable {fShape fNames fName fSorted fStds fTable fInts fInt fOne fPut : Addr} {dShape dNames dName dSorted dStds dTable dInts dInt dOne dPut : FuncData}
end
end HG

namespace HG
open PySem PySem.Spec PyProof.Rows L2 HT
open C8 (pss_cut tCut)
/-! ### ints as data -/
theorem dpAll_ints {K : PySem.W.Frag} {H : Hp} : ∀ (ns : List Int), DpAll K H (ns.map V.int) (ns.map PyData.int)
  | [] => .nil
  | x :: xs => .cons (.int x) (dpAll_ints xs)
theorem lay_ints : ∀ ns : List Int, PyData.canLayAll0 (ns.map PyData.int) = true
  | [] => by simp [PyData.canLayAll0]
  | x :: xs => by
    rw [List.map_cons, PyData.canLayAll0, lay_ints xs, PyData.canLay0]
    rfl
theorem depth_ints : ∀ ns : List Int, PyData.depthAll (ns.map PyData.int) = 0
  | [] => by simp [PyData.depthAll]
  | x :: xs => by
    rw [List.map_cons, PyData.depthAll, depth_ints xs, PyData.depth]
    rfl
theorem tupI_shaped (ns : List Int) : SeqAt.shaped (.tuple (ns.map PyData.int)) = true := by
  unfold SeqAt.shaped
  rw [PyData.canLay0, lay_ints, PyData.depth, depth_ints]
  rfl
theorem dp_row {K : PySem.W.Frag} {H : Hp} {a : Addr} {ns : List Int} (h : SqT K H a (ns.map V.int)) : Dp K H (.ref a) (.tuple (ns.map PyData.int)) := .tup h (dpAll_ints ns)
theorem eqv_row (ns : List Int) : PyData.eqv (.tuple (ns.map PyData.int)) (.tuple (ns.map PyData.int)) = true := SeqAt.eqv_refl _ (shaped_lay (tupI_shaped ns))
theorem eqv_tups {sts : List (List Str)} (h : ∀ st ∈ sts, ∀ z ∈ st, isNm z = true) : PyData.eqv (.list (sts.map dT)) (.list (sts.map dT)) = true := SeqAt.eqv_refl _ (shaped_lay (tups_shaped h))
theorem atI_end {α : Type} {xs : List α} {v : α} (h : xs[xs.length - 1]? = some v) : atI xs (-1) = some v := by
  have hne : xs ≠ [] := by
    rintro rfl
    simp at h
  have e := List.dropLast_concat_getLast hne
  have e2 : xs.getLast hne = v := by
    rw [List.getLast_eq_getElem]
    obtain ⟨_, e3⟩ := List.getElem?_eq_some_iff.mp h
    exact e3
  rw [← e, e2]
  exact atI_last _ _
theorem cut_but (xs : List V) : cutV xs none (some (-1)) = xs.take (xs.length - 1) := by
  unfold cutV
  rw [show HT.sIx xs.length 0 none = 0 from rfl, List.drop_zero, Nat.sub_zero, show HT.sIx xs.length xs.length (some (-1)) = ((-1) + (xs.length : Int)).toNat from rfl]
  congr 1
  omega
/-! ### no standings -/
theorem map_str_inj {a b : List Str} (h : a.map V.str = b.map V.str) : a = b := List.map_inj_right (fun x y e => V.str.inj e) |>.mp h
theorem inG_no {S : List Way} {xs : List V} (h : ∀ st ∈ stds S, xs ≠ st.map V.str) : inG S xs = false := by
  unfold inG
  rw [decide_eq_false fun m => ?_, Bool.and_false]
  obtain ⟨st, hst, e⟩ := List.mem_map.mp m
  exact h st hst e.symm
theorem inG_len {S : List Way} {xs : List V} (h : xs.length ≠ S.length) : inG S xs = false := inG_no fun st hst e => h (by rw [e, List.length_map, stds_mem hst])
theorem inG_nm {S : List Way} {xs : List V} {x : V} (h : x ∈ xs) (n : nameV x = false) : inG S xs = false := by
  unfold inG
  rw [show xs.all nameV = false from List.all_eq_false.mpr ⟨x, h, by rw [n]; exact Bool.false_ne_true⟩, Bool.false_and]
def OddV (K : PySem.W.Frag) (S : List Way) (H : Hp) (x : V) : Prop := (∃ a xs, x = .ref a ∧ H a = some (.tup xs) ∧ xs.length ≤ 10000 ∧ (∀ y ∈ xs, ∃ t, AnyV K H y t) ∧ inG S xs = false) ∨ (∃ t, AnyV K H x t ∧ t ≠ .tup)
theorem OddV.same {K : PySem.W.Frag} {S : List Way} {H H' : Hp} {x : V} (h : OddV K S H x) (s : Same H H') : OddV K S H' x := by
  rcases h with ⟨a, xs, e, h, l, n, g⟩ | ⟨t, h, n⟩
  · exact .inl ⟨a, xs, e, s _ _ h, l, fun y hy => let ⟨t, q⟩ := n y hy; ⟨t, q.same s⟩, g⟩
  · exact .inr ⟨t, h.same s, n⟩
theorem rep_mem {n : Nat} {xs : List V} {y : V} (h : y ∈ (List.replicate n xs).flatten) : y ∈ xs := by
  obtain ⟨l, hl, hy⟩ := List.mem_flatten.mp h
  rw [(List.mem_replicate.mp hl).2] at hy
  exact hy
theorem rep_has {n : Nat} {xs : List V} {y : V} (hn : 1 ≤ n) (h : y ∈ xs) : y ∈ (List.replicate n xs).flatten := List.mem_flatten.mpr ⟨xs, List.mem_replicate.mpr ⟨by omega, rfl⟩, h⟩
theorem rep_len (n : Nat) (xs : List V) : ((List.replicate n xs).flatten).length = n * xs.length := by
  induction n with
  | zero => simp
  | succ n ih => rw [List.replicate_succ, List.flatten_cons, List.length_append, ih, Nat.succ_mul]; omega
/-- t * k, the tuple as it lies -/
def rRepB : R2 := fun x y H Q => ∃ l k xs, x = .ref l ∧ y = .int k ∧ H l = some (.tup xs) ∧ xs ≠ [] ∧ 1 ≤ k ∧ k ≤ 1000 ∧ xs.length ≤ 1000 ∧ ∀ H' p, Same H H' → H' p = some (.tup (List.replicate k.toNat xs).flatten) → Q (.ref p) H'
theorem op_repB {X : Cx} : OpR X (binaryOp .Mult) rRepB := by
  intro pins s σ H x y v u Q I rx ry h
  obtain ⟨l, k, xs, rfl, rfl, hT, hne, h1, h2, hz, q⟩ := h
  by_cases hk : k = 1
  · subst hk
    cases rx
    obtain ⟨t, rfl⟩ := ry
    obtain ⟨its, r, ⟨⟨cls, dd, data, sl⟩, ho, hc, n, hd⟩, hs⟩ := I.tuple (SqT.of hT)
    simp only at hc hd
    subst hc hd
    refine wpAny_binaryOp_repeat_ref (T := "tuple") (U := "int") (by decide) ⟨_, ho, rfl⟩ (fun s' => typeIs_int s' 1 t) noFill_tuple_mul F.fills_int_mul F.slot_int_rmul repeat_tuple F.slot_int_index.lookup
      (call_meets F.slot_int_rmul (typeIs_int s 1 t) F.entry_int_rmul (F.args_int_rmul_2 _ _) (int_rmul_tuple 1 t l its.toArray n dd sl)
        ⟨ho, rfl, ⟨_, ho, rfl⟩, call_meets F.slot_tuple_mul ⟨_, ho, rfl⟩ F.entry_tuple_mul (F.args_tuple_mul_2 _ _) (tuple_mul1 l its.toArray n dd sl t) ⟨ho, ?_⟩⟩)
    refine ⟨.ref l, H, I, rfl, q H l (Same.refl _) ?_⟩
    show H l = some (.tup (List.replicate 1 xs).flatten)
    rw [List.replicate_one, List.flatten_cons, List.flatten_nil, List.append_nil]
    exact hT
  · exact op_repT pins s σ H _ _ v u Q I rx ry ⟨l, k, xs, rfl, rfl, SqT.of hT, hne, by omega, h2, hz, fun p hp => q _ p (same_upd hp) upd_same⟩
/-- the gains, row by row -/
def GnAt (H : Hp) (gd : Addr) (W : List Way) (γ : List Str → List Int) : Prop := ∃ kvs, H gd = some (.dT kvs) ∧ ∀ st ∈ stds (sh W), (γ st).length = W.length ∧ ∃ a, valV kvs (kS st) = some (.ref a) ∧ H a = some (.tup ((γ st).map V.int))
theorem GnAt.same {H H' : Hp} {gd : Addr} {W : List Way} {γ : List Str → List Int} (h : GnAt H gd W γ) (s : Same H H') : GnAt H' gd W γ := by
  obtain ⟨kvs, e, h⟩ := h
  exact ⟨kvs, s _ _ e, fun st hst => let ⟨l, a, v, q⟩ := h st hst; ⟨l, a, v, s _ _ q⟩⟩
theorem GnAt.get {K : PySem.W.Frag} {H : Hp} {gd c : Addr} {W : List Way} {γ : List Str → List Int} {st : List Str} (h : GnAt H gd W γ) (hst : st ∈ stds (sh W)) (hc : H c = some (.tup (st.map V.str))) : ∃ a, DGet H gd (.ref c) (some (.ref a)) ∧ H a = some (.tup ((γ st).map V.int)) := by
  obtain ⟨kvs, e, h⟩ := h
  obtain ⟨_, a, v, q⟩ := h st hst
  refine ⟨a, ?_, q⟩
  rw [← v]
  exact DGet.t (k := kS st) e (by rw [kS_v]; exact hc)
/-! ### _law_standings_right -/
def spStdsR (K : PySem.W.Frag) (C : Addr) : Sp := fun args H Q _ => ∃ (g d gd : Addr) (W : List Way) (N : Addr → Prop) (γ : List Str → List Int), args = [.ref g, .ref d, .ref gd] ∧ IsG K C N H g (sh W) γ ∧ ShL (fun _ => True) H d W ∧ WOk W ∧ GnAt H gd W γ ∧ ∀ H', Same H H' → Q (.bl true) H'
section
variable {P : Program} {w : World} {K : PySem.W.Frag} {mg : Str → Option Value} {base : Heap} {C : Addr}
variable {fShape fNames fName fSorted fStds fTable fInts fInt fOne fPut : Addr} {dShape dNames dName dSorted dStds dTable dInts dInt dOne dPut : FuncData}
variable {fT fO fN fS fW fNr : Addr} {dT' dO dN dS dW dNr : FuncData}
end
end HG

namespace HG
open PySem PySem.Spec PyProof.Rows L2
/-! ### promises that hold where no repr is under way -/
structure FnG (P : Program) (w : World) (K : PySem.W.Frag) (mg : Str → Option Value) (base : Heap) (CX : CXT) (k : Nat) (f : Addr) (fd : FuncData) (ps : List Str) (sp : Sp) : Prop where
  many : ∀ vs H Q E, sp vs H Q E → vs.length = ps.length
  go : ∀ {A : Around} {outer : List Env} {s : Shared} {H : Hp} {args : Args} {us : List Value} {vs : List V} {Q : VK} {E : XK}, A.guards = some [] → Room k A → Env0 P w K mg base A outer s H →
    BindsTo s fd args (ps.zip us) → Vals vs us → sp vs H Q E → codeAny (model P w) A (.call (.ref f) args) (CR CX outer P w H s Q E) s
section
variable {P : Program} {w : World} {K : PySem.W.Frag} {mg : Str → Option Value} {base : Heap}
theorem okG {x qual : Str} {st : Stmt} {f : Addr} {fd : FuncData} {N ps : List Str} {k : Nat} {sp : Sp} (D : Fun K x qual st f fd) (S : FnScope N ps (defScope st)) (many : ∀ vs H Q E, sp vs H Q E → vs.length = ps.length)
    (body : ∀ (cdv : Value) (A : Around) (outer : List Env) (s : Shared) (H : Hp) (vs : List V) (Q : VK) (E : XK), A.guards = some [] → Room k (A.deeper (envOfC qual (defScope st) s.heap.objs.size f cdv)) → sp vs H Q E →
      ∃ t, PSs (cxOf CX0 P w K mg base N qual (defScope st) f cdv A outer s H E).nox (defBody st) t ∧ t { nx := fun _ H' => Q .non H', rt := Q } (start N vs) H) :
    FnG P w K mg base CX0 (k + 1) f fd ps sp := by
  obtain ⟨c0, d0, k0, o0, m0, a0, code, t0, l0, e0, look, hcode⟩ := D.ex
  subst e0
  refine ⟨many, fun {A outer s H args us vs Q E} hgd room env hbind hv hsp => ?_⟩
  have cnt := many _ _ _ _ hsp
  have kin : K.In s.heap := env.mod.kin.keeps fun b o z => (env.bs b o z).1
  have nolim : s.heap.NoLimit := env.mod.nolimit.keeps fun b o z => (env.bs b o z).1
  have kinds : ∀ y ∈ ps.zip us, (defScope st).names.lookup y.1 = some .local ∨ ((defScope st).names.lookup y.1 = some .cell ∧ ((cellsFrom (s.heap.objs.size + 1) (defScope st).names []).lookup y.1).isSome = true) := by
    rintro ⟨n, v⟩ hy
    exact (S.par n (List.of_mem_zip hy).1).imp_right fun z => ⟨z, PySem.W.cellsFrom_some _ _ _ (.inl z)⟩
  refine codeAny_call_function room.depth (kin _ _ look) rfl S.co S.gen rfl (PySem.W.codeRec_of kin hcode) (hbind _ _ _ _ (wpAny_newFunctionEnv_cells S.kind kinds fun en he s1 x => ?_))
  subst he
  obtain ⟨t, ht, hq⟩ := body code A outer s H vs Q E hgd (room.deeper _) hsp
  have inv : Inv (cxOf CX0 P w K mg base N qual (defScope st) f code A outer s H E) [] (start N vs) H s1 := inv_start S room.hd env cnt hv x
  refine ⟨nolim.keeps x.toInCall.keep, codeAny_func (wpAny_mono (ht.nox.run [] s1 (start N vs) H _ inv hq) (fun fl s' hs => ?_) fun _ _ z => z)⟩
  cases fl with
  | next =>
    obtain ⟨σ', H', J, q⟩ := hs
    exact ⟨V.non, H', J.os, J.bare, J.base, J.hok, rfl, q⟩
  | ret u =>
    obtain ⟨v, σ', H', J, rv, q⟩ := hs
    exact ⟨v, H', J.os, J.bare, J.base, J.hok, rv, q⟩
  | brk => exact hs.elim fun _ z => z.elim fun _ z => z.2.elim
  | cont => exact hs.elim fun _ z => z.elim fun _ z => z.2.elim
end
section
variable {X : Cx} {CX : CXT} {k : Nat} {f : Addr} {fd : FuncData} {ps : List Str} {sp : Sp} {dvs : List V} {ds : List Value} {E : XK} {x : Str} {p pos : Pos} {e : Expr} {es : List Expr} {t : TA}
theorem go_fn {pins : List (Addr × Obj)} {σ : L2.St} {H : Hp} {s : Shared} {Q : VK} {us : List Value} {vs : List V} (F : FnG X.prog X.w X.K X.mg X.base CX k f fd ps sp) (hgd : X.A.guards = some []) (hr : Room k X.A) (hb : Binds X.K fd ps ds) (hd : Vals dvs ds) (hx : Passes CX X E)
    (I : Inv X pins σ H s) (r : Vals vs us) (h : sp (vs ++ dvs) H Q E) : wpAny (model X.prog X.w) X.A (call (.ref f) us) (EP X pins σ Q) X.xe s := by
  have rr := r.append hd
  have cnt : (us ++ ds).length = ps.length := rr.length ▸ F.many _ _ _ _ h
  refine wpAny_call (codeAny_mono (F.go hgd hr I.env0 (hb s us I.kIn cnt) rr h) ?_)
  rintro (er | fl) s' hq
  · exact hx pins σ H s er s' I hq
  · cases fl with
    | ret u => exact I.after hq
    | next => exact (show False from hq).elim
    | brk => exact (show False from hq).elim
    | cont => exact (show False from hq).elim
theorem pe_callG (F : FnG X.prog X.w X.K X.mg X.base CX k f fd ps sp) (hgd : X.A.guards = some []) (hr : Room k X.A) (hg : Gl X x) (hm : X.mg x = some (.ref f)) (hk : PySem.W.keepIn X.K (.ref f) = true) (hb : Binds X.K fd ps ds) (hd : Vals dvs ds) (hx : Passes CX X E)
    (ha : PA X (e :: es) t) (hdb : (x == ("__debug__" : Str)) = false := by decide) (he : starEach (e :: es) X.env = (false, eval e X.env) :: starEach es X.env := by rfl) (hpl : (backTo pos (starEach es X.env)).any (·.1) = false := by rfl) :
    PE X (.Call (.Name x p) (e :: es) [] pos) (tCall sp dvs E t) := by
  constructor
  intro pins s σ H Q I h
  refine wpAny_Call_Name_kw (ld_glob I hg hm (PySem.W.callWith_K (h₀ := X.base) I.ok.mod.kin hk (thn (ha.run pos pins s σ H _ I h) ?_) he hpl) hdb)
  rintro us s1 ⟨vs, H1, I1, r, q⟩
  exact ⟨I1.kIn, go_fn F hgd hr hb hd hx I1 r q⟩
end
/-! ### repr of data, dicts too -/
def kD : Key → PyData
  | .inl i => .int i
  | .inr z => .str z
def kTD (ks : List Key) : PyData := .tuple (ks.map kD)
mutual
inductive Shw (K : PySem.W.Frag) (H : Hp) : V → PyData → Prop
  | flat {v : V} {d : PyData} : Dp K H v d → Shw K H v d
  | lst {a : Addr} {xs : List V} {ds : List PyData} : H a = some (.lst xs) → ShwAll K H xs ds → Shw K H (.ref a) (.list ds)
  | tup {a : Addr} {xs : List V} {ds : List PyData} : H a = some (.tup xs) → ShwAll K H xs ds → Shw K H (.ref a) (.tuple ds)
  | dK {a : Addr} {kvs : List (Key × V)} {ds : List PyData} : H a = some (.dK kvs) → ShwAll K H (kvs.map (·.2)) ds → Shw K H (.ref a) (.dict ((kvs.map fun kv => kD kv.1).zip ds))
  | dT {a : Addr} {kvs : List (List Key × V)} {ds : List PyData} : H a = some (.dT kvs) → ShwAll K H (kvs.map (·.2)) ds → Shw K H (.ref a) (.dict ((kvs.map fun kv => kTD kv.1).zip ds))
inductive ShwAll (K : PySem.W.Frag) (H : Hp) : List V → List PyData → Prop
  | nil : ShwAll K H [] []
  | cons {v : V} {vs : List V} {d : PyData} {ds : List PyData} : Shw K H v d → ShwAll K H vs ds → ShwAll K H (v :: vs) (d :: ds)
end
theorem ShwAll.len {K : PySem.W.Frag} {H : Hp} : ∀ {vs : List V} {ds : List PyData}, ShwAll K H vs ds → vs.length = ds.length
  | _, _, .nil => rfl
  | _, _, .cons _ t => congrArg (· + 1) t.len
mutual
theorem dp_nodict {K : PySem.W.Frag} {H : Hp} : ∀ {v : V} {d : PyData}, Dp K H v d → d.hasDict = false
  | _, _, .non => by simp only [PyData.hasDict]
  | _, _, .bl _ => by simp only [PyData.hasDict]
  | _, _, .int _ => by simp only [PyData.hasDict]
  | _, _, .str _ => by simp only [PyData.hasDict]
  | _, _, .lst _ h => by simp only [PyData.hasDict]; exact dpAll_nodict h
  | _, _, .tup _ h => by simp only [PyData.hasDict]; exact dpAll_nodict h
theorem dpAll_nodict {K : PySem.W.Frag} {H : Hp} : ∀ {vs : List V} {ds : List PyData}, DpAll K H vs ds → PyData.hasDictAll ds = false
  | _, _, .nil => by simp only [PyData.hasDictAll]
  | _, _, .cons h t => by simp only [PyData.hasDictAll, dp_nodict h, dpAll_nodict t, Bool.or_self]
end
def RR (P : Program) (w : World) (h : Heap) (v : Value) (d : PyData) : Prop := ∃ as bs, Reads h v d as ∧ ReadAtMost h d.depth bs ∧ ReprK P w bs h d.depth v d.shown
def RA (P : Program) (w : World) (h : Heap) (vs : List Value) (ds : List PyData) : Prop := ∃ as bs, ReadsAll h vs ds as ∧ ReadAtMost h (PyData.depthAll ds) bs ∧ ReprAllK P w bs h (PyData.depthAll ds) vs (PyData.shownAll ds)
section
variable {P : Program} {w : World} {h : Heap}
theorem ra_nil : RA P w h [] [] := ⟨[], [], .nil, (fun _ z => nomatch z), by simp only [PyData.shownAll]; exact .nil⟩
theorem ra_cons {v : Value} {d : PyData} {vs : List Value} {ds : List PyData} (r : RR P w h v d) (t : RA P w h vs ds) : RA P w h (v :: vs) (d :: ds) := by
  obtain ⟨a1, b1, r1, m1, k1⟩ := r
  obtain ⟨a2, b2, r2, m2, k2⟩ := t
  refine ⟨_, b1 ++ b2, .cons r1 r2, ?_, ?_⟩
  · simp only [PyData.depthAll]
    exact (m1.mono (Nat.le_max_left _ _)).append (m2.mono (Nat.le_max_right _ _))
  · simp only [PyData.depthAll, PyData.shownAll]
    exact .cons ((k1.more fun b hb => List.mem_append_left _ hb).level_le (Nat.le_max_left _ _)) (k2.more_le (fun b hb => List.mem_append_right _ hb) (Nat.le_max_right _ _))
theorem rr_list {a : Addr} {o : Obj} {l : List Value} {n : Nat} {ds : List PyData} (ho : h.get? a = some o) (hc : o.cls = .type "list") (hd : o.data = .seq l.toArray n) (t : RA P w h l ds) : RR P w h (.ref a) (.list ds) := by
  obtain ⟨as, bs, r, m, k⟩ := t
  have rd : Reads h (.ref a) (.list ds) _ := .list ho hc hd (by simpa using r)
  have na : a ∉ bs := not_mem_of_deeper rd (by simp only [PyData.depth]; omega) m
  refine ⟨_, a :: bs, rd, ReadAtMost.cons rd (by simp only [PyData.depth]; omega) m, ?_⟩
  simp only [PyData.depth, PyData.shown]
  cases l with
  | nil =>
    cases r
    simp only [PyData.shownAll, listText_nil]
    exact ReprK.listEmpty ho hc hd
  | cons x l => exact ReprK.list ho hc hd na (by simpa using k.length_eq) fun i y e => k.item i y (by simpa using e)
theorem rr_tuple {a : Addr} {o : Obj} {l : List Value} {n : Nat} {ds : List PyData} (ho : h.get? a = some o) (hc : o.cls = .type "tuple") (hd : o.data = .seq l.toArray n) (t : RA P w h l ds) : RR P w h (.ref a) (.tuple ds) := by
  obtain ⟨as, bs, r, m, k⟩ := t
  have rd : Reads h (.ref a) (.tuple ds) _ := .tuple ho hc hd (by simpa using r)
  have na : a ∉ bs := not_mem_of_deeper rd (by simp only [PyData.depth]; omega) m
  refine ⟨_, a :: bs, rd, ReadAtMost.cons rd (by simp only [PyData.depth]; omega) m, ?_⟩
  simp only [PyData.depth, PyData.shown]
  exact ReprK.tuple ho hc hd na (by simpa using k)
theorem zip_fst {α β : Type} {l : List α} {m : List β} (e : l.length = m.length) : (l.zip m).map (·.1) = l := List.map_fst_zip (Nat.le_of_eq e)
theorem zip_snd {α β : Type} {l : List α} {m : List β} (e : l.length = m.length) : (l.zip m).map (·.2) = m := List.map_snd_zip (Nat.le_of_eq e.symm)
theorem rr_dict {a : Addr} {o : Obj} {es : Array DictEntry} {n : Nat} {ks vs : List PyData} (ho : h.get? a = some o) (hc : o.cls = .type "dict") (hd : o.data = .dict es n) (hs : (a == sysModules) = false) (el : ks.length = vs.length)
    (tk : RA P w h (es.toList.map (·.key)) ks) (tv : RA P w h (es.toList.map (·.val)) vs) : RR P w h (.ref a) (.dict (ks.zip vs)) := by
  obtain ⟨a1, b1, r1, m1, k1⟩ := tk
  obtain ⟨a2, b2, r2, m2, k2⟩ := tv
  have hk : (ks.zip vs).map (·.1) = ks := zip_fst el
  have hv : (ks.zip vs).map (·.2) = vs := zip_snd el
  have l1 := PyData.depthAll_keys_le (ks.zip vs)
  have l2 := PyData.depthAll_vals_le (ks.zip vs)
  rw [hk] at l1
  rw [hv] at l2
  have rd : Reads h (.ref a) (.dict (ks.zip vs)) _ := .dict ho hc hd (by rw [hk]; exact r1) (by rw [hv]; exact r2)
  have m : ReadAtMost h (PyData.depthKv (ks.zip vs)) (b1 ++ b2) := (m1.mono l1).append (m2.mono l2)
  have na : a ∉ b1 ++ b2 := not_mem_of_deeper rd (by simp only [PyData.depth]; omega) m
  refine ⟨_, a :: (b1 ++ b2), rd, ReadAtMost.cons rd (by simp only [PyData.depth]; omega) m, ?_⟩
  simp only [PyData.depth, PyData.shown, PyData.shownKv_eq]
  rw [hk, hv]
  exact ReprK.dict ho hc hd hs na (ReprEntriesK.of_two es.toList _ _ (k1.more_le (fun b hb => List.mem_append_left _ hb) l1) (k2.more_le (fun b hb => List.mem_append_right _ hb) l2))
theorem rr_flat {v : Value} {d : PyData} {as : List Addr} (r : Reads h v d as) (hs : d.showable = true) (hn : d.hasDict = false) (hz : d.shown.length ≤ sizeLine) : RR P w h v d := by
  obtain ⟨bs, m, k⟩ := ReprK.of_reads (prog := P) (w := w) r hs (fun z => by rw [hn] at z; cases z) hz
  exact ⟨as, bs, r, m, k⟩
end
section
variable {X : Cx} {pins : List (Addr × Obj)} {σ : L2.St} {H : Hp} {s : Shared}
theorem rr_key {h : Heap} {k : Key} {v : Value} (e : keyIs k v = true) (hs : (kD k).showable = true) (hz : (kD k).shown.length ≤ sizeLine) : RR X.prog X.w h v (kD k) := by
  rcases keyIs_shape e with ⟨i, t, rfl, rfl⟩ | ⟨z, t, rfl, rfl⟩
  · exact rr_flat (.int i t) hs (by simp only [kD, PyData.hasDict]) hz
  · exact rr_flat (.str z t) hs (by simp only [kD, PyData.hasDict]) hz
theorem ra_keysK {h : Heap} : ∀ {es : List DictEntry} {vs : List (Key × Value)}, Pairs (mixKind X.prog X.w) es vs → PyData.showableAll (vs.map fun kv => kD kv.1) = true → (∀ t ∈ PyData.shownAll (vs.map fun kv => kD kv.1), t.length ≤ sizeLine) →
    RA X.prog X.w h (es.map (·.key)) (vs.map fun kv => kD kv.1)
  | _, _, .nil, _, _ => ra_nil
  | _, _, .cons a b c, hs, hz => by
    simp only [List.map_cons, PyData.showableAll, Bool.and_eq_true] at hs
    simp only [List.map_cons, PyData.shownAll, List.mem_cons] at hz
    exact ra_cons (rr_key a hs.1 (hz _ (.inl rfl))) (ra_keysK c hs.2 fun t ht => hz t (.inr ht))
theorem pairs_vals : ∀ {es : List DictEntry} {vs : List (Key × Value)}, Pairs (mixKind X.prog X.w) es vs → es.map (·.val) = vs.map (·.2)
  | _, _, .nil => rfl
  | _, _, .cons a b c => by rw [List.map_cons, List.map_cons, pairs_vals c, b]
theorem kv_vals : ∀ {kvs : List (Key × V)} {vs : List (Key × Value)}, KV kvs vs → Vals (kvs.map (·.2)) (vs.map (·.2))
  | _, _, .nil => .nil
  | _, _, .cons a b => .cons a.2 (kv_vals b)
theorem vals_kD {h0 : Heap} : ∀ (ks : List Key) {us : List Value}, Vals (ks.map kV) us → ReadsAll h0 us (ks.map kD) [] 
  | [], _, .nil => .nil
  | .inl i :: ks, _, .cons a b => by
    obtain ⟨t, rfl⟩ := a
    exact .cons (as := []) (bs := []) (.int i t) (vals_kD ks b)
  | .inr z :: ks, _, .cons a b => by
    obtain ⟨t, rfl⟩ := a
    exact .cons (as := []) (bs := []) (.str z t) (vals_kD ks b)
theorem kDs_nodict : ∀ ks : List Key, PyData.hasDictAll (ks.map kD) = false
  | [] => by simp only [List.map_nil, PyData.hasDictAll]
  | .inl i :: ks => by simp only [List.map_cons, PyData.hasDictAll, kDs_nodict ks, kD, PyData.hasDict, Bool.or_self]
  | .inr i :: ks => by simp only [List.map_cons, PyData.hasDictAll, kDs_nodict ks, kD, PyData.hasDict, Bool.or_self]
theorem ra_keysT (I : Inv X pins σ H s) : ∀ {kvs : List (List Key × V)} {xs : List (List Key × Addr × Value)}, Paired (fun (p : List Key × V) (q : List Key × Addr × Value) => p.1 = q.1 ∧ H q.2.1 = some (.tup (p.1.map kV)) ∧ RelV p.2 q.2.2) kvs xs →
    PyData.showableAll (kvs.map fun kv => kTD kv.1) = true → (∀ t ∈ PyData.shownAll (kvs.map fun kv => kTD kv.1), t.length ≤ sizeLine) → RA X.prog X.w s.heap (xs.map fun q => Value.ref q.2.1) (kvs.map fun kv => kTD kv.1)
  | _, _, .nil, _, _ => ra_nil
  | _, _, .cons a b, hs, hz => by
    simp only [List.map_cons, PyData.showableAll, Bool.and_eq_true] at hs
    simp only [List.map_cons, PyData.shownAll, List.mem_cons] at hz
    refine ra_cons ?_ (ra_keysT I b hs.2 fun t ht => hz t (.inr ht))
    obtain ⟨_, its, va, o, ho, hc, n, hd⟩ := I.hok _ _ a.2.1
    exact rr_flat (.tuple ho hc hd (by simpa using vals_kD _ va)) hs.1 (by unfold kTD; simp only [PyData.hasDict]; exact kDs_nodict _) (hz _ (.inl rfl))
theorem kt_vals : ∀ {kvs : List (List Key × V)} {xs : List (List Key × Addr × Value)}, Paired (fun (p : List Key × V) (q : List Key × Addr × Value) => p.1 = q.1 ∧ H q.2.1 = some (.tup (p.1.map kV)) ∧ RelV p.2 q.2.2) kvs xs → Vals (kvs.map (·.2)) (xs.map fun q => q.2.2)
  | _, _, .nil => .nil
  | _, _, .cons a b => .cons a.2.2 (kt_vals b)
theorem shown_keys {ks vs : List PyData} (e : ks.length = vs.length) (hz : (dictText (PyData.shownKv (ks.zip vs))).length ≤ sizeLine) : ∀ t ∈ PyData.shownAll ks, t.length ≤ sizeLine := fun t ht => by
  obtain ⟨p, hp, hl⟩ := PyData.shownKv_key_le (ks.zip vs) t (by rw [zip_fst e]; exact ht)
  exact Nat.le_trans hl (Nat.le_trans (dictText_mem_le hp) hz)
theorem shown_vals {ks vs : List PyData} (e : ks.length = vs.length) (hz : (dictText (PyData.shownKv (ks.zip vs))).length ≤ sizeLine) : ∀ t ∈ PyData.shownAll vs, t.length ≤ sizeLine := fun t ht => by
  obtain ⟨p, hp, hl⟩ := PyData.shownKv_val_le (ks.zip vs) t (by rw [zip_snd e]; exact ht)
  exact Nat.le_trans hl (Nat.le_trans (dictText_mem_le hp) hz)
theorem showable_keys {ks vs : List PyData} (e : ks.length = vs.length) (h : PyData.showableKv (ks.zip vs) = true) : PyData.showableAll ks = true ∧ PyData.showableAll vs = true := by
  have z := PyData.showableKv_split _ h
  rwa [zip_fst e, zip_snd e] at z
mutual
theorem shw_rr (I : Inv X pins σ H s) : ∀ {v : V} {d : PyData}, Shw X.K H v d → ∀ {u : Value}, RelV v u → d.showable = true → d.shown.length ≤ sizeLine → RR X.prog X.w s.heap u d
  | _, _, .flat h, u, rv, hs, hz => by
    obtain ⟨as, r⟩ := Dp.reads I _ _ u h rv
    exact rr_flat r hs (dp_nodict h) hz
  | _, _, .lst (a := a) h t, u, rv, hs, hz => by
    cases (show u = Value.ref a from rv)
    obtain ⟨_, its, n, va, ho⟩ := I.hok _ _ h
    simp only [PyData.showable] at hs
    simp only [PyData.shown] at hz
    exact rr_list ho rfl rfl (shwAll_ra I t va hs fun x hx => Nat.le_trans (listText_mem_le hx) hz)
  | _, _, .tup (a := a) h t, u, rv, hs, hz => by
    cases (show u = Value.ref a from rv)
    obtain ⟨_, its, va, o, ho, hc, n, hd⟩ := I.hok _ _ h
    simp only [PyData.showable] at hs
    simp only [PyData.shown] at hz
    exact rr_tuple ho hc hd (shwAll_ra I t va hs fun x hx => Nat.le_trans (tupleText_mem_le hx) hz)
  | _, _, .dK (a := a) (kvs := kvs) (ds := ds) h t, u, rv, hs, hz => by
    cases (show u = Value.ref a from rv)
    obtain ⟨_, hsys, vs, rel, o, es, ep, ho, hex, hd, _, hpr, _⟩ := I.hok _ _ h
    have el : (kvs.map fun kv => kD kv.1).length = ds.length := by
      rw [List.length_map, ← t.len, List.length_map]
    simp only [PyData.showable] at hs
    simp only [PyData.shown] at hz
    obtain ⟨s1, s2⟩ := showable_keys el hs
    have ek : (kvs.map fun kv => kD kv.1) = vs.map fun kv => kD kv.1 := by
      have z := congrArg (List.map kD) rel.keys
      rw [List.map_map, List.map_map] at z
      exact z
    refine rr_dict ho hex.1 hd hsys el ?_ ?_
    · rw [ek]
      exact ra_keysK hpr (by rw [← ek]; exact s1) (by rw [← ek]; exact shown_keys el hz)
    · rw [pairs_vals hpr]
      exact shwAll_ra I t (kv_vals rel) s2 (shown_vals el hz)
  | _, _, .dT (a := a) (kvs := kvs) (ds := ds) h t, u, rv, hs, hz => by
    cases (show u = Value.ref a from rv)
    obtain ⟨_, hsys, xs, rel, o, es, ep, ho, hex, hd, he, _⟩ := I.hok _ _ h
    have el : (kvs.map fun kv => kTD kv.1).length = ds.length := by
      rw [List.length_map, ← t.len, List.length_map]
    simp only [PyData.showable] at hs
    simp only [PyData.shown] at hz
    obtain ⟨s1, s2⟩ := showable_keys el hs
    refine rr_dict ho hex.1 hd hsys el ?_ ?_
    · rw [he, List.map_map]
      exact ra_keysT I rel s1 (shown_keys el hz)
    · rw [he, List.map_map]
      exact shwAll_ra I t (kt_vals rel) s2 (shown_vals el hz)
theorem shwAll_ra (I : Inv X pins σ H s) : ∀ {vs : List V} {ds : List PyData}, ShwAll X.K H vs ds → ∀ {us : List Value}, Vals vs us → PyData.showableAll ds = true → (∀ t ∈ PyData.shownAll ds, t.length ≤ sizeLine) → RA X.prog X.w s.heap us ds
  | _, _, .nil, _, .nil, _, _ => ra_nil
  | _, _, .cons h t, _, .cons r rs, hs, hz => by
    simp only [PyData.showableAll, Bool.and_eq_true] at hs
    simp only [PyData.shownAll, List.mem_cons] at hz
    exact ra_cons (shw_rr I h r hs.1 (hz _ (.inl rfl))) (shwAll_ra I t rs hs.2 fun x hx => hz x (.inr hx))
end
end
section
variable {X : Cx}
/-- repr of a list, dicts in it too -/
def rReprL (K : PySem.W.Frag) : List V → Hp → VK → Prop := fun vs H Q => ∃ (a : Addr) (xs : List V) (ds : List PyData), vs = [.ref a] ∧ H a = some (.lst xs) ∧ xs ≠ [] ∧ ShwAll K H xs ds ∧ PyData.showableAll ds = true ∧ PyData.depthAll ds ≤ 30 ∧ (PyData.list ds).shown.length ≤ sizeLine ∧ Q (.str (PyData.list ds).shown) H
theorem call_reprL (hgd : X.A.guards = some []) (hu : X.A.units + 64 < cLine) : CallR X (.builtin "repr") (rReprL X.K) := by
  intro pins s σ H vs us Q I r h
  obtain ⟨a, xs, ds, rfl, ha, hne, t, hs, hd, hz, q⟩ := h
  rw [Vals.ref1 r]
  obtain ⟨_, its, n, va, ho⟩ := I.hok _ _ ha
  have hz' : (listText (PyData.shownAll ds)).length ≤ sizeLine := by simpa only [PyData.shown] using hz
  obtain ⟨as, bs, rd, m, k⟩ := shwAll_ra I t va hs fun x hx => Nat.le_trans (listText_mem_le hx) hz'
  have top : Reads s.heap (.ref a) (.list ds) _ := .list ho rfl rfl (by simpa using rd)
  have na : a ∉ bs := not_mem_of_deeper top (by simp only [PyData.depth]; omega) m
  cases its with
  | nil =>
    cases va
    exact absurd rfl hne
  | cons y l =>
    refine call_repr_slot (by omega) ⟨_, ho, rfl⟩ F.slot_list_repr.toG (call_list_reprK ho rfl rfl na (by simpa using k.length_eq) (fun i z e => k.item i z (by simpa using e)) hgd (fun b _ => Clear.nil b) (by show X.A.units + 1 + (PyData.depthAll ds + 1) < cLine; omega) (fun _ _ z => z) (fun h' u tk hk => ?_) hz')
    refine ⟨_, _, rfl, .str (PyData.list ds).shown, H, I.kept (t' := tk) hk, ⟨u, ?_⟩, q⟩
    simp only [PyData.shown]
end
end HG

namespace HG
open PySem PySem.Spec PyProof.Rows L2
/-! ### the law's call, where its promise wants that no repr is under way -/
theorem script_hp {P : Program} {w : World} {K : PySem.W.Frag} {h : Heap} {a : Addr} {vs : List Value} {ns : List Int} (KX : K.In h) (ha : h.get? a = some { cls := .type "list", data := .seq vs.toArray }) (rv : Vals (ns.map V.int) vs) (hl : ns.length ≤ sizeLine) :
    ∃ H : Hp, Only H ∧ SqL K H a (ns.map V.int) ∧ HOk P w H h ∧ ∀ b u, H b = some u → b = a ∧ K.lookup a = none := by
  have hlen : vs.length = ns.length := by rw [← rv.length, List.length_map]
  cases hk : K.lookup a with
  | none =>
    refine ⟨upd (fun _ => none) a (.frz { cls := .type "list", data := .seq vs.toArray } (.lst (ns.map V.int))), fun b => ?_, .inl (.inr ⟨_, upd_same⟩), fun b u z => ?_, fun b u z => ?_⟩
    · by_cases hb : b = a
      · subst hb
        exact .inr ⟨_, _, upd_same⟩
      · exact .inl (upd_ne hb)
    · by_cases hb : b = a
      · subst hb
        rw [upd_same] at z
        cases z
        exact ⟨ha, by rw [List.length_map]; exact hl, vs, _, rv, ha⟩
      · rw [upd_ne hb] at z
        cases z
    · by_cases hb : b = a
      · exact ⟨hb, rfl⟩
      · rw [upd_ne hb] at z
        cases z
  | some o =>
    have z := KX a o hk
    rw [ha] at z
    cases z
    exact ⟨fun _ => none, fun _ => .inl rfl, .inr ⟨_, vs.toArray, _, hk, rfl, rfl, rfl, by rw [List.size_toArray, hlen]; exact hl, by simpa using rv⟩, (fun _ _ z => nomatch z), (fun _ _ z => nomatch z)⟩
theorem lawG {P : Program} {w : World} {K : PySem.W.Frag} {mg mb : Str → Option Value} {k : Nat} {fa a : Addr} {fd : FuncData} {x : Str} {sp : Sp} {s : Shared} {vs : List Value} {ns : List Int}
    (KX : K.In s.heap) (gl : s.heap.Ns mainGlobals mg) (bl : s.heap.Ns builtinsNs mb) (boot : ∀ x : Str, x ≠ "__name__" → mb x = bootBuiltins x) (lim : s.heap.NoLimit) (gens : s.gens = #[])
    (ha : s.heap.get? a = some { cls := .type "list", data := .seq vs.toArray }) (hi : IntsAre vs ns) (hl : ns.length ≤ sizeLine) (room : Room k callerA)
    (F : ∀ base : Heap, K.In base → base.Ns mainGlobals mg → FnG P w K mg base CX0 k fa fd [x] sp) (bind : ∀ (s : Shared) (u : Value), BindsTo s fd ⟨[u], []⟩ [(x, u)])
    (hsp : ∀ H : Hp, Only H → SqL K H a (ns.map V.int) → sp [.ref a] H (fun v _ => v = .bl true) fun _ _ _ => False) :
    codeAny (model P w) callerA (.call (.ref fa) ⟨[.ref a], []⟩) (fun r s' => r = .ok (.ret (.bool true)) ∧ OldK s.heap s'.heap ∧ s'.os = s.os ∧ AllBare s'.gens) s := by
  obtain ⟨H, only, seq, hok, own⟩ := script_hp (P := P) (w := w) KX ha (vals_ints hi) hl
  -- what no dict and nothing written may be: the script
  have free : ∀ {b : Addr} {o : Obj} {es : Array DictEntry} {ep : Nat}, s.heap.get? b = some o → o.data = .dict es ep → H b = none := by
    intro b o es ep z y
    cases q : H b with
    | none => rfl
    | some u =>
      obtain ⟨rfl, _⟩ := own b u q
      rw [ha] at z
      cases z
      cases y
  have names : ∀ {b : Addr} {m : Str → Option Value}, s.heap.Ns b m → (hidT s.heap H).Ns b m := by
    rintro b m ⟨o, es, ep, z, y, r⟩
    exact ⟨o, es, ep, hidT_get z (free z y), y, r⟩
  have written : K.In (hidT s.heap H) := by
    intro b o z
    refine hidT_get (KX b o z) ?_
    cases q : H b with
    | none => rfl
    | some u =>
      obtain ⟨rfl, y⟩ := own b u q
      rw [y] at z
      cases z
  obtain ⟨mc, l1, l2⟩ := lim
  have env : Env0 P w K mg (hidT s.heap H) callerA [] s H := {
    frames := rfl
    mod := ⟨written, names gl, ⟨mb, names bl, boot⟩, ⟨mc, names l1, l2⟩⟩
    bs := fun _ _ z => of_hidT z
    bsz := Nat.le_of_eq (hidT_size _ _)
    funs := trivial
    frf := fun _ z => nomatch (show _ ∈ ([] : List Addr) from z)
    hok := hok
    bare := .of_eq gens }
  refine codeAny_mono ((F _ written (names gl)).go (us := [.ref a]) (vs := [.ref a]) rfl room env (bind s _) (.cons rfl .nil) (hsp H only seq)) ?_
  rintro (er | fl) s' hq
  · exact (show False from hq).elim
  · cases fl with
    | next => exact (show False from hq).elim
    | brk => exact (show False from hq).elim
    | cont => exact (show False from hq).elim
    | ret u =>
      obtain ⟨v, H', os, bare, un, hok', rv, q⟩ := hq
      cases (show v = V.bl true from q)
      cases (show u = Value.bool true from rv)
      refine ⟨rfl, OldK.of_keep fun b o z => ?_, os, bare⟩
      rcases only b with y | ⟨ob, xs, y⟩
      · exact un.keep b o z y (fun m => nomatch (show b ∈ ([] : List Addr) from m)) (fun m => nomatch m)
      · have z1 := (hok b _ y).1
        rw [z] at z1
        cases z1
        exact (hok' b _ (un.frzs b _ _ y)).1
theorem walkG {l : PySem.W.OpenLaw} {n k : Nat} {q : Program} {loose : List Str} {XP : (Str → Option Value) → Heap → Prop} {YP : World → Heap → Prop} {d : DefRec} {K : Params → PySem.W.Frag} {sp : PySem.W.Frag → Sp} {x : Str}
    (hn : l.most = some n) (hn2 : n ≤ sizeLine) (hdf : d.params.defaults = []) (room : Room k callerA) (hY : ∀ (w : World) (h : Heap), YP w h → (K w.params).In h)
    (F : ∀ (w : World) (mg : Str → Option Value) (fa : Addr) (h : Heap), (K w.params).In h → h.Ns mainGlobals mg → mg d.name = some (.ref fa) →
      ∃ fd : FuncData, (∀ (s : Shared) (u : Value), BindsTo s fd ⟨[u], []⟩ [(x, u)]) ∧ ∀ base : Heap, (K w.params).In base → base.Ns mainGlobals mg → FnG l.prog w (K w.params) mg base CX0 k fa fd [x] (sp (K w.params)))
    (hsp : ∀ (K : PySem.W.Frag) (H : Hp) (a : Addr) (ns : List Int), ns.length ≤ n → Only H → SqL K H a (ns.map V.int) → sp K [.ref a] H (fun v _ => v = .bl true) fun _ _ _ => False) :
    PySem.W.WalkO q loose XP YP l.row.toRowW d [] (fun f vs => PySem.call f vs) := by
  refine Att.attach_call hn hdf ?_
  intro w s0 s1 mg mb fa o pm cd doc a vs ns G Y h1 h2 h3 hmg hobj hints hlen gens
  obtain ⟨fd, bind, ok⟩ := F w mg fa _ (hY w _ Y) G.T.g hmg
  exact lawG (hY w _ Y) G.T.g G.T.b G.T.builtins G.T.nolimit gens hobj hints (Nat.le_trans hlen hn2) room ok bind fun H only seq => hsp _ H a ns hlen only seq
end HG

namespace HG
open PySem PySem.Spec PyProof.Rows L2
/-! ### small data: its text fits -/
structure Sml (n k : Nat) (d : PyData) : Prop where
  lv : d.leavesShort 64 = true
  sh : d.showable = true
  wt : d.weight ≤ n
  dp : d.depth ≤ k
theorem sml_str {z : Str} (h : isNm z = true) : Sml 8 0 (.str z) where
  lv := by
    have o := nm_strOk h
    unfold PyData.strOk at o
    simp only [PyData.leavesShort, List.all_eq_true, decide_eq_true_eq]
    intro c hc
    rw [Array.all_eq_true] at o
    obtain ⟨i, hi, e⟩ := List.getElem_of_mem hc
    have := o i (by simpa using hi)
    simp only [Array.getElem_toList] at e
    rw [e] at this
    have := of_decide_eq_true this
    have e16 : (16 : Nat) ^ 8 = 4294967296 := by decide
    omega
  sh := by simp only [PyData.showable]
  wt := by
    unfold isNm at h
    have h1 := of_decide_eq_true (Bool.and_eq_true_iff.mp h).1
    simp only [PyData.weight]
    exact h1
  dp := by simp only [PyData.depth]; exact Nat.le_refl _
theorem sml_int {i : Int} (h : GainOk i) : Sml 203 0 (.int i) := by
  have hb : i.natAbs < 10 ^ 63 := by
    have e : (10 : Nat) ^ 63 = 1000000000000000000000000000000000000000000000000000000000000000 := by decide
    unfold GainOk at h
    omega
  have hb2 : i.natAbs < 2 ^ 202 := by
    have e : (2 : Nat) ^ 202 = 6427752177035961102167848369364650410088811975131171341205504 := by decide
    unfold GainOk at h
    omega
  have hl : i.natAbs ≠ 0 → i.natAbs.log2 < 202 := fun z => (Nat.log2_lt z).mpr hb2
  refine ⟨?_, ?_, ?_, by simp only [PyData.depth]; exact Nat.le_refl _⟩
  · simp only [PyData.leavesShort, decide_eq_true_eq, PyData.shown]
    refine decide_eq_true ?_
    rw [PySem.ofString_length]
    exact int_text_length_le10 (k := 63) (by decide) hb
  · simp only [PyData.showable, decide_eq_true_eq]
    by_cases z : i.natAbs = 0
    · rw [z]
      decide
    · have := hl z
      omega
  · simp only [PyData.weight]
    split
    · omega
    · by_cases z : i.natAbs = 0
      · rw [z]
        decide
      · have := hl z
        omega
theorem sml_all {n k : Nat} : ∀ {ds : List PyData}, (∀ d ∈ ds, Sml n k d) → PyData.leavesShortAll 64 ds = true ∧ PyData.showableAll ds = true ∧ PyData.weightAll ds ≤ ds.length * (n + 1) ∧ PyData.depthAll ds ≤ k
  | [], _ => ⟨by simp only [PyData.leavesShortAll], by simp only [PyData.showableAll], by simp [PyData.weightAll], by simp [PyData.depthAll]⟩
  | d :: ds, h => by
    obtain ⟨a, b, c, e⟩ := sml_all (ds := ds) fun x hx => h x (List.mem_cons_of_mem _ hx)
    have s := h d List.mem_cons_self
    have s3 := s.wt
    have s4 := s.dp
    refine ⟨by simp only [PyData.leavesShortAll, s.lv, a, Bool.and_self], by simp only [PyData.showableAll, s.sh, b, Bool.and_self], ?_, ?_⟩
    · simp only [PyData.weightAll, List.length_cons, Nat.succ_mul]
      omega
    · simp only [PyData.depthAll]
      omega
theorem sml_list {n k m : Nat} {ds : List PyData} (h : ∀ d ∈ ds, Sml n k d) (hm : ds.length ≤ m) : Sml (m * (n + 1)) (k + 1) (.list ds) := by
  obtain ⟨a, b, c, e⟩ := sml_all h
  have := Nat.mul_le_mul_right (n + 1) hm
  refine ⟨by simp only [PyData.leavesShort]; exact a, by simp only [PyData.showable]; exact b, by simp only [PyData.weight]; omega, by simp only [PyData.depth]; omega⟩
theorem sml_tuple {n k m : Nat} {ds : List PyData} (h : ∀ d ∈ ds, Sml n k d) (hm : ds.length ≤ m) : Sml (m * (n + 1)) (k + 1) (.tuple ds) := by
  obtain ⟨a, b, c, e⟩ := sml_all h
  have := Nat.mul_le_mul_right (n + 1) hm
  refine ⟨by simp only [PyData.leavesShort]; exact a, by simp only [PyData.showable]; exact b, by simp only [PyData.weight]; omega, by simp only [PyData.depth]; omega⟩
theorem sml_kv {n1 n2 k : Nat} : ∀ {ks vs : List PyData}, (∀ d ∈ ks, Sml n1 k d) → (∀ d ∈ vs, Sml n2 k d) → PyData.leavesShortKv 64 (ks.zip vs) = true ∧ PyData.showableKv (ks.zip vs) = true ∧ PyData.weightKv (ks.zip vs) ≤ ks.length * (n1 + n2 + 2) ∧ PyData.depthKv (ks.zip vs) ≤ k
  | [], vs, _, _ => ⟨by simp [PyData.leavesShortKv], by simp [PyData.showableKv], by simp [PyData.weightKv], by simp [PyData.depthKv]⟩
  | d :: ks, [], _, _ => ⟨by simp [PyData.leavesShortKv], by simp [PyData.showableKv], by simp [PyData.weightKv], by simp [PyData.depthKv]⟩
  | d :: ks, x :: vs, h1, h2 => by
    obtain ⟨a, b, c, e⟩ := sml_kv (ks := ks) (vs := vs) (fun y hy => h1 y (List.mem_cons_of_mem _ hy)) fun y hy => h2 y (List.mem_cons_of_mem _ hy)
    have s := h1 d List.mem_cons_self
    have t := h2 x List.mem_cons_self
    have s3 := s.wt
    have s4 := s.dp
    have t3 := t.wt
    have t4 := t.dp
    rw [List.zip_cons_cons]
    refine ⟨by simp only [PyData.leavesShortKv, s.lv, t.lv, a, Bool.and_self], by simp only [PyData.showableKv, s.sh, t.sh, b, Bool.and_self], ?_, ?_⟩
    · simp only [PyData.weightKv, List.length_cons, Nat.succ_mul]
      omega
    · simp only [PyData.depthKv]
      omega
theorem sml_dict {n1 n2 k m : Nat} {ks vs : List PyData} (h1 : ∀ d ∈ ks, Sml n1 k d) (h2 : ∀ d ∈ vs, Sml n2 k d) (hm : ks.length ≤ m) : Sml (m * (n1 + n2 + 2)) (k + 1) (.dict (ks.zip vs)) := by
  obtain ⟨a, b, c, e⟩ := sml_kv h1 h2
  have := Nat.mul_le_mul_right (n1 + n2 + 2) hm
  refine ⟨by simp only [PyData.leavesShort]; exact a, by simp only [PyData.showable]; exact b, by simp only [PyData.weight]; omega, by simp only [PyData.depth]; omega⟩
theorem Sml.mono {n m j k : Nat} {d : PyData} (s : Sml n j d) (h1 : n ≤ m) (h2 : j ≤ k) : Sml m k d := ⟨s.lv, s.sh, Nat.le_trans s.wt h1, Nat.le_trans s.dp h2⟩
theorem Sml.fits {n k : Nat} {d : PyData} (s : Sml n k d) (h : 66 * n + 64 ≤ sizeLine) : d.shown.length ≤ sizeLine := by
  have z := PyData.shown_le 64 (by decide) d s.lv
  have := s.wt
  omega
end HG

namespace HG
open PySem PySem.Spec PyProof.Rows L2
open C8 (pss_cut tCut)
/-! ### a shape handed in another order -/
structure PermW (W W1 : List Way) : Prop where
  nm : (W1.map (·.1)).Perm (W.map (·.1))
  wy : ∀ q ∈ W1, ∃ q0 ∈ W, q0.1 = q.1 ∧ q.2.Perm q0.2
section
variable {W W1 : List Way}
theorem PermW.nd (p : PermW W W1) (ok : WOk W) : (W1.map (·.1)).Nodup := p.nm.nodup_iff.mpr ok.nd
theorem PermW.look (p : PermW W W1) (ok : WOk W) {k : Str} (h : k ∈ W1.map (·.1)) : (lookW W1 k).Perm (lookW W k) := by
  obtain ⟨q, hq, rfl⟩ := List.mem_map.mp h
  obtain ⟨q0, h0, e, pp⟩ := p.wy q hq
  rw [lookW_of (p.nd ok) hq, ← e, lookW_of ok.nd h0]
  exact pp
theorem PermW.sh (p : PermW W W1) (ok : WOk W) : HG.sh W1 = HG.sh W := by
  show (srt (W1.map (·.1))).map (fun k => (k, srt (lookW W1 k))) = (srt (W.map (·.1))).map fun k => (k, srt (lookW W k))
  rw [← srt_of_perm p.nm]
  refine List.map_congr_left fun k hk => ?_
  rw [srt_of_perm (p.look ok (srt_mem.mp hk))]
theorem prod_perm {l m : List Int} (p : l.Perm m) : ∀ a : Int, l.foldl (fun m i => m * i) a = m.foldl (fun m i => m * i) a := by
  induction p with
  | nil => exact fun _ => rfl
  | cons x _ ih => exact fun a => ih _
  | swap x y l =>
    intro a
    rw [List.foldl_cons, List.foldl_cons, List.foldl_cons, List.foldl_cons, Int.mul_assoc, Int.mul_comm y x, ← Int.mul_assoc]
  | trans _ _ i1 i2 => exact fun a => (i1 a).trans (i2 a)
theorem lens_of {V : List Way} (nd : (V.map (·.1)).Nodup) : V.map (fun q => (q.2.length : Int)) = (V.map (·.1)).map fun k => ((lookW V k).length : Int) := by
  rw [List.map_map]
  refine List.map_congr_left fun q hq => ?_
  show _ = ((lookW V q.1).length : Int)
  rw [lookW_of nd hq]
theorem PermW.ok (p : PermW W W1) (ok : WOk W) : WOk W1 where
  nd := p.nd ok
  n1 := by
    have := p.nm.length_eq
    rw [List.length_map, List.length_map] at this
    rw [this]
    exact ok.n1
  n4 := by
    have := p.nm.length_eq
    rw [List.length_map, List.length_map] at this
    rw [this]
    exact ok.n4
  nm := fun q hq => by
    obtain ⟨q0, h0, e, _⟩ := p.wy q hq
    rw [← e]
    exact ok.nm q0 h0
  wd := fun q hq => by
    obtain ⟨q0, h0, _, pp⟩ := p.wy q hq
    exact pp.nodup_iff.mpr (ok.wd q0 h0)
  w1 := fun q hq => by
    obtain ⟨q0, h0, _, pp⟩ := p.wy q hq
    rw [pp.length_eq]
    exact ok.w1 q0 h0
  w4 := fun q hq => by
    obtain ⟨q0, h0, _, pp⟩ := p.wy q hq
    rw [pp.length_eq]
    exact ok.w4 q0 h0
  wn := fun q hq z hz => by
    obtain ⟨q0, h0, _, pp⟩ := p.wy q hq
    exact ok.wn q0 h0 z (pp.mem_iff.mp hz)
  most := by
    have e : wprod W1 = wprod W := by
      rw [wprod_prodI, wprod_prodI, lens_of (p.nd ok), lens_of ok.nd]
      have e1 : (W1.map (·.1)).map (fun k => ((lookW W1 k).length : Int)) = (W1.map (·.1)).map fun k => ((lookW W k).length : Int) := List.map_congr_left fun k hk => by rw [(p.look ok hk).length_eq]
      rw [e1]
      exact prod_perm (p.nm.map _) 1
    rw [e]
    exact ok.most
theorem PermW.len (p : PermW W W1) : W1.length = W.length := by
  have := p.nm.length_eq
  rwa [List.length_map, List.length_map] at this
end
/-! ### the gains as a function -/
def rowOf (es : List Row) (st : List Str) : List Int := ((es.find? fun e => decide (e.1 = st)).map (·.2)).getD []
theorem rowOf_of {es : List Row} (hN : (es.map (·.1)).Nodup) {e : Row} (h : e ∈ es) : rowOf es e.1 = e.2 := by
  unfold rowOf
  induction es with
  | nil => cases h
  | cons a r ih =>
    rw [List.map_cons, List.nodup_cons] at hN
    rw [List.find?_cons]
    rcases List.mem_cons.mp h with rfl | h
    · rw [decide_eq_true rfl]
      rfl
    · have hne : ¬ a.1 = e.1 := fun z => hN.1 (List.mem_map.mpr ⟨e, h, z.symm⟩)
      rw [decide_eq_false hne]
      exact ih hN.2 h
theorem kS_inj {a b : List Str} (h : kS a = kS b) : a = b := List.map_inj_right (fun x y e => Sum.inr.inj e) |>.mp h
theorem ev_at {H0 H : Hp} : ∀ {es : List Row} {kvs : List (List L2.Key × V)} {st : List Str}, Paired (fun (e : Row) kv => kv.1 = kS e.1 ∧ Hnd H0 H kv.2 (e.2.map V.int)) es kvs → st ∈ es.map (·.1) → ∃ e ∈ es, e.1 = st ∧ ∃ v, valV kvs (kS st) = some v ∧ Hnd H0 H v (e.2.map V.int)
  | _, _, _, .nil, h => nomatch h
  | e :: es, kv :: kvs, st, .cons r t, h => by
    by_cases z : e.1 = st
    · exact ⟨e, List.mem_cons_self, z, kv.2, valV_pos (by rw [r.1, z]), r.2⟩
    · rw [List.map_cons] at h
      obtain ⟨e', h1, h2, v, h3, h4⟩ := ev_at t ((List.mem_cons.mp h).resolve_left fun y => z y.symm)
      exact ⟨e', List.mem_cons_of_mem _ h1, h2, v, by rw [valV_neg fun y => z (kS_inj (r.1.symm.trans y))]; exact h3, h4⟩
theorem Hnd.seq {K : PySem.W.Frag} {H0 H : Hp} {v : V} {xs : List V} (h : Hnd H0 H v xs) : SeqV K H v xs := by
  obtain ⟨a, rfl, ⟨_, h⟩ | h⟩ := h
  · exact .lst (SqL.of h) (.lst h)
  · exact .tup (SqT.of h) (.tup h)
theorem Hnd.keep {H0 H H' : Hp} {v : V} {xs : List V} (h : Hnd H0 H v xs) (k : ∀ c o, NotIns o → H c = some o → H' c = some o) : Hnd H0 H' v xs := by
  obtain ⟨a, e, ⟨n, h⟩ | h⟩ := h
  · exact ⟨a, e, .inl ⟨n, k _ _ (fun _ _ _ z => nomatch z) h⟩⟩
  · exact ⟨a, e, .inr (k _ _ (fun _ _ _ z => nomatch z) h)⟩
/-! ### what is handed in, as data -/
theorem hnd_strs {K : PySem.W.Frag} {H0 H : Hp} {v : V} {zs : List Str} (h : Hnd H0 H v (zs.map V.str)) (hn : ∀ z ∈ zs, isNm z = true) (h4 : zs.length ≤ 4) : ∃ d, Shw K H v d ∧ Sml 36 1 d := by
  have hs : ∀ d ∈ zs.map PyData.str, Sml 8 0 d := fun d hd => by
    obtain ⟨z, hz, rfl⟩ := List.mem_map.mp hd
    exact sml_str (hn z hz)
  obtain ⟨a, rfl, ⟨_, h⟩ | h⟩ := h
  · exact ⟨_, .flat (dp_strs h), sml_list (m := 4) hs (by rw [List.length_map]; exact h4)⟩
  · exact ⟨_, .flat (.tup (SqT.of h) (dpAll_strs zs)), sml_tuple (m := 4) hs (by rw [List.length_map]; exact h4)⟩
theorem hnd_ints {K : PySem.W.Frag} {H0 H : Hp} {v : V} {ns : List Int} (h : Hnd H0 H v (ns.map V.int)) (hn : ∀ z ∈ ns, GainOk z) (h4 : ns.length ≤ 4) : ∃ d, Shw K H v d ∧ Sml 816 1 d := by
  have hs : ∀ d ∈ ns.map PyData.int, Sml 203 0 d := fun d hd => by
    obtain ⟨z, hz, rfl⟩ := List.mem_map.mp hd
    exact sml_int (hn z hz)
  obtain ⟨a, rfl, ⟨_, h⟩ | h⟩ := h
  · exact ⟨_, .flat (.lst (SqL.of h) (dpAll_ints ns)), sml_list (m := 4) hs (by rw [List.length_map]; exact h4)⟩
  · exact ⟨_, .flat (.tup (SqT.of h) (dpAll_ints ns)), sml_tuple (m := 4) hs (by rw [List.length_map]; exact h4)⟩
theorem shw_vals {K : PySem.W.Frag} {H : Hp} {n : Nat} {κ : Type} : ∀ {kvs : List (κ × V)}, (∀ kv ∈ kvs, ∃ d, Shw K H kv.2 d ∧ Sml n 1 d) → ∃ ds, ShwAll K H (kvs.map (·.2)) ds ∧ (∀ d ∈ ds, Sml n 1 d)
  | [], _ => ⟨[], .nil, (fun _ z => nomatch z)⟩
  | kv :: kvs, h => by
    obtain ⟨d, h1, h2⟩ := h kv List.mem_cons_self
    obtain ⟨ds, h3, h4⟩ := shw_vals (kvs := kvs) fun x hx => h x (List.mem_cons_of_mem _ hx)
    refine ⟨d :: ds, .cons h1 h3, fun x hx => ?_⟩
    rcases List.mem_cons.mp hx with rfl | hx
    · exact h2
    · exact h4 x hx
theorem paired_mem {α β : Type} {R : α → β → Prop} {l : List α} {m : List β} (h : Paired R l m) {b : β} (hb : b ∈ m) : ∃ a ∈ l, R a b := by
  obtain ⟨i, hi, ei⟩ := List.getElem_of_mem hb
  obtain ⟨a, ha, r⟩ := paired_get h (show m[i]? = some b by rw [List.getElem?_eq_getElem hi, ei])
  exact ⟨a, List.mem_of_getElem? ha, r⟩
theorem shw_ways {K : PySem.W.Frag} {H0 H : Hp} {d : Addr} {W1 : List Way} {k1 : List (Key × V)} (ok : WOk W1) (hd : H d = some (.dK k1)) (h : Paired (fun (q : Way) kv => kv.1 = Sum.inr q.1 ∧ Hnd H0 H kv.2 (q.2.map V.str)) W1 k1) :
    ∃ D, Shw K H (.ref d) D ∧ Sml 184 2 D := by
  obtain ⟨ds, h1, h2⟩ := shw_vals (K := K) (n := 36) fun kv hkv => by
    obtain ⟨q, hq, _, hn⟩ := paired_mem h hkv
    exact hnd_strs hn (ok.wn q hq) (ok.w4 q hq)
  refine ⟨_, .dK hd h1, sml_dict (n1 := 8) (n2 := 36) (m := 4) (fun x hx => ?_) h2 ?_⟩
  · obtain ⟨kv, hkv, rfl⟩ := List.mem_map.mp hx
    obtain ⟨q, hq, e, _⟩ := paired_mem h hkv
    rw [e]
    exact (sml_str (ok.nm q hq)).mono (Nat.le_refl _) (by decide)
  · rw [List.length_map, ← Paired.length h]
    exact ok.n4
theorem shw_gains {K : PySem.W.Frag} {H0 H : Hp} {d : Addr} {es : List Row} {k2 : List (List L2.Key × V)} (hd : H d = some (.dT k2)) (h : Paired (fun (e : Row) kv => kv.1 = kS e.1 ∧ Hnd H0 H kv.2 (e.2.map V.int)) es k2)
    (hk : ∀ e ∈ es, (∀ z ∈ e.1, isNm z = true) ∧ e.1.length ≤ 4) (hv : ∀ e ∈ es, (∀ z ∈ e.2, GainOk z) ∧ e.2.length ≤ 4) (hl : es.length ≤ 256) : ∃ D, Shw K H (.ref d) D ∧ Sml 218624 2 D := by
  obtain ⟨ds, h1, h2⟩ := shw_vals (K := K) (n := 816) fun kv hkv => by
    obtain ⟨e, he, _, hn⟩ := paired_mem h hkv
    exact hnd_ints hn (hv e he).1 (hv e he).2
  refine ⟨_, .dT hd h1, sml_dict (n1 := 36) (n2 := 816) (m := 256) (fun x hx => ?_) h2 ?_⟩
  · obtain ⟨kv, hkv, rfl⟩ := List.mem_map.mp hx
    obtain ⟨e, he, ek, _⟩ := paired_mem h hkv
    rw [ek]
    unfold kTD
    rw [show (kS e.1).map kD = e.1.map PyData.str by unfold kS; rw [List.map_map]; rfl]
    refine sml_tuple (n := 8) (k := 0) (m := 4) (ds := e.1.map PyData.str) (fun y hy => ?_) (by rw [List.length_map]; exact (hk e he).2)
    obtain ⟨z, hz, rfl⟩ := List.mem_map.mp hy
    exact sml_str ((hk e he).1 z hz)
  · rw [List.length_map, ← Paired.length h]
    exact hl
theorem both_fit {D1 D2 : PyData} (h1 : Sml 184 2 D1) (h2 : Sml 218624 2 D2) : PyData.showableAll [D1, D2] = true ∧ PyData.depthAll [D1, D2] ≤ 30 ∧ (PyData.list [D1, D2]).shown.length ≤ sizeLine := by
  obtain ⟨a, b, c, e⟩ := sml_all (n := 218624) (k := 2) (ds := [D1, D2]) fun d hd => by
    simp only [List.mem_cons, List.not_mem_nil, or_false] at hd
    rcases hd with rfl | rfl
    · exact h1.mono (by decide) (Nat.le_refl _)
    · exact h2
  refine ⟨b, Nat.le_trans e (by decide), ?_⟩
  have z := PyData.shown_le 64 (by decide) (.list [D1, D2]) (by simp only [PyData.leavesShort]; exact a)
  have w1 := h1.wt
  have w2 := h2.wt
  have ew : (PyData.list [D1, D2]).weight = D1.weight + 1 + (D2.weight + 1 + 0) := by simp only [PyData.weight, PyData.weightAll]
  have es : sizeLine = 16777216 := by decide
  rw [ew] at z
  omega
/-! ### data that stays -/
mutual
theorem dp_keep {K : PySem.W.Frag} {H H' : Hp} (k : ∀ c o, NotIns o → H c = some o → H' c = some o) : ∀ {v : V} {d : PyData}, Dp K H v d → Dp K H' v d
  | _, _, .non => .non
  | _, _, .bl b => .bl b
  | _, _, .int i => .int i
  | _, _, .str z => .str z
  | _, _, .lst h t => .lst (seqL_keep h k) (dpAll_keep k t)
  | _, _, .tup h t => .tup (seqT_keep h k) (dpAll_keep k t)
theorem dpAll_keep {K : PySem.W.Frag} {H H' : Hp} (k : ∀ c o, NotIns o → H c = some o → H' c = some o) : ∀ {vs : List V} {ds : List PyData}, DpAll K H vs ds → DpAll K H' vs ds
  | _, _, .nil => .nil
  | _, _, .cons h t => .cons (dp_keep k h) (dpAll_keep k t)
end
theorem ni_lst {xs : List V} : NotIns (.lst xs) := fun _ _ _ z => nomatch z
theorem ni_tup {xs : List V} : NotIns (.tup xs) := fun _ _ _ z => nomatch z
theorem ni_dK {xs : List (Key × V)} : NotIns (.dK xs) := fun _ _ _ z => nomatch z
theorem ni_dT {xs : List (List Key × V)} : NotIns (.dT xs) := fun _ _ _ z => nomatch z
mutual
theorem shw_keep {K : PySem.W.Frag} {H H' : Hp} (k : ∀ c o, NotIns o → H c = some o → H' c = some o) : ∀ {v : V} {d : PyData}, Shw K H v d → Shw K H' v d
  | _, _, .flat h => .flat (dp_keep k h)
  | _, _, .lst h t => .lst (k _ _ ni_lst h) (shwAll_keep k t)
  | _, _, .tup h t => .tup (k _ _ ni_tup h) (shwAll_keep k t)
  | _, _, .dK h t => .dK (k _ _ ni_dK h) (shwAll_keep k t)
  | _, _, .dT h t => .dT (k _ _ ni_dT h) (shwAll_keep k t)
theorem shwAll_keep {K : PySem.W.Frag} {H H' : Hp} (k : ∀ c o, NotIns o → H c = some o → H' c = some o) : ∀ {vs : List V} {ds : List PyData}, ShwAll K H vs ds → ShwAll K H' vs ds
  | _, _, .nil => .nil
  | _, _, .cons h t => .cons (shw_keep k h) (shwAll_keep k t)
end
/-! ### an instance, as isinstance sees it -/
structure InsOk (K : PySem.W.Frag) (C : Addr) : Prop where
  ha : PySem.W.findIn K (.ref C) "__class__" = some (some (.builtin "object.__class__"))
  hn : PySem.W.specialIn K (.builtin "object.__class__") "__get__" = some (some (.builtin "getset_descriptor.__get__"))
  ht : PySem.W.takesIn K (.builtin "object.__class__") = some true
  hm : PySem.W.mroIn K C (.type "object") = some true
  k : ∀ T ∈ six, PySem.W.kitOne K (.ref C) (.type T) = some false
theorem AnyV.ins {K : PySem.W.Frag} {H : Hp} {a C dx : Addr} {fs : List (Str × V)} (h : H a = some (.ins C dx fs)) (c : Cls K C) (i : InsOk K C) : AnyV K H (.ref a) .ins :=
  ⟨⟨.ref C, .base (.ins h c i.ha i.hn i.ht i.hm), fun T hT => i.k T hT⟩, (fun z => nomatch z), (fun _ z e => nomatch e)⟩
/-! ### a game when what was handed in is emptied -/
theorem GameAt.off {K : PySem.W.Frag} {C : Addr} {N : Addr → Prop} {H H' : Hp} {g : Addr} {S : List Way} {γ : List Str → List Int} {dx w l t : Addr} {vs : List V} {kvs : List (List Key × V)} (G : GameAt K C N H g S γ dx w l t vs kvs)
    (kN : ∀ c u, N c → H c = some u → H' c = some u) (kT : ∀ c xs, H c = some (.tup xs) → H' c = some (.tup xs)) (kF : ∀ c o xs, H c = some (.frz o (.tup xs)) → H' c = some (.frz o (.tup xs))) : GameAt K C (fun _ => True) H' g S γ dx w l t vs kvs where
  hg := kN _ _ G.ng G.hg
  ng := trivial
  hw := by
    obtain ⟨kw, h, p⟩ := G.hw
    exact ⟨kw, kN _ _ G.nw h, paired_imp p fun q kv ⟨e, a, ev, n, h⟩ => ⟨e, a, ev, trivial, kN _ _ n h⟩⟩
  nw := trivial
  hl := kN _ _ G.nl G.hl
  nl := trivial
  hs := G.hs.tups kT
  ht := kN _ _ G.nt G.ht
  nt := trivial
  hk := paired_imp G.hk fun st kv ⟨e, a, ev, h⟩ => ⟨e, a, ev, by
    rcases h with (h | ⟨o, h⟩) | h
    · exact .inl (.inl (kT _ _ h))
    · exact .inl (.inr ⟨o, kF _ _ _ h⟩)
    · exact .inr h⟩
end HG

namespace HG
open PySem PySem.Spec PyProof.Rows L2 HT
open C8 (pss_cut tCut)
/-! ### what stands while the bag changes -/
theorem seqT_but {K : PySem.W.Frag} {H H' : Hp} {b a : Addr} {xs : List V} (kb : But b H H') (hb : ∃ ys, H b = some (.lst ys)) (h : SqT K H a xs) : SqT K H' a xs := by
  obtain ⟨ys, hb⟩ := hb
  rcases h with (h | ⟨o, h⟩) | h
  · exact .inl (.inl (kb _ _ h (ne_of h hb (by intro z; cases z))))
  · exact .inl (.inr ⟨o, kb _ _ h (ne_of h hb (by intro z; cases z))⟩)
  · exact .inr h
theorem GameAt.but {K : PySem.W.Frag} {C : Addr} {N : Addr → Prop} {H H' : Hp} {g : Addr} {S : List Way} {γ : List Str → List Int} {dx w l t : Addr} {vs : List V} {kvs : List (List Key × V)} {b k : Addr} {ns : List Int} (G : GameAt K C N H g S γ dx w l t vs kvs) (ok : SOk S) (B : ABag H b k ns) (kb : But b H H') :
    GameAt K C N H' g S γ dx w l t vs kvs where
  hg := by
    obtain ⟨ys, hb⟩ := abag_ne B
    exact kb _ _ G.hg (ne_of G.hg hb (by intro z; cases z))
  ng := G.ng
  hw := G.hw.but B ok.w1 kb
  nw := G.nw
  hl := by
    refine kb _ _ G.hl fun z => ?_
    obtain ⟨a0, c0, n0, B⟩ := B
    have h := G.hl
    rw [z, B.at_] at h
    have hv := HO.lst.inj (Option.some.inj h)
    have p := G.hs
    rw [← hv] at p
    have l1 := Paired.length p
    have l2 := stds_ne ok
    obtain ⟨_, _, _, e, _⟩ := paired_get p (show [V.int a0, .int c0, .int n0, .ref k][0]? = some (V.int a0) from rfl)
    cases e
  nl := G.nl
  hs := G.hs.tups fun c xs h => by
    obtain ⟨ys, hb⟩ := abag_ne B
    exact kb _ _ h (ne_of h hb (by intro z; cases z))
  ht := by
    obtain ⟨ys, hb⟩ := abag_ne B
    exact kb _ _ G.ht (ne_of G.ht hb (by intro z; cases z))
  nt := G.nt
  hk := paired_imp G.hk fun st kv ⟨e, a, ev, h⟩ => ⟨e, a, ev, seqT_but kb (abag_ne B) h⟩
theorem IsG.but {K : PySem.W.Frag} {C : Addr} {N : Addr → Prop} {H H' : Hp} {g : Addr} {S : List Way} {γ : List Str → List Int} {b k : Addr} {ns : List Int} (G : IsG K C N H g S γ) (ok : SOk S) (B : ABag H b k ns) (kb : But b H H') : IsG K C N H' g S γ :=
  let ⟨dx, w, l, t, vs, kvs, h⟩ := G; ⟨dx, w, l, t, vs, kvs, h.but ok B kb⟩
theorem GnAt.but {H H' : Hp} {gd b k : Addr} {ns : List Int} {W : List Way} {γ : List Str → List Int} (h : GnAt H gd W γ) (B : ABag H b k ns) (kb : But b H H') : GnAt H' gd W γ := by
  obtain ⟨ys, hb⟩ := abag_ne B
  obtain ⟨kvs, e, h⟩ := h
  exact ⟨kvs, kb _ _ e (ne_of e hb (by intro z; cases z)), fun st hst => let ⟨l, a, v, q⟩ := h st hst; ⟨l, a, v, kb _ _ q (ne_of q hb (by intro z; cases z))⟩⟩
/-! ### the due changes, chooser by chooser -/
def dueTo (S : List Way) (st : List Str) (i : Nat) : List Ch := (chs (S.take i)).filter (mayDo S st)
theorem dueTo_all (S : List Way) (st : List Str) : dueTo S st S.length = due S st := by
  unfold dueTo due
  rw [List.take_length]
theorem dueTo_more {S : List Way} {st : List Str} {i : Nat} {q : Way} {z : Str} (nd : (names S).Nodup) (hq : S[i]? = some q) (hz : st[i]? = some z) : dueTo S st (i + 1) = dueTo S st i ++ (q.2.filter fun v => !decide (v = z)).map fun v => (q.1, v) := by
  unfold dueTo
  rw [chs_more hq, List.filter_append, List.filter_map]
  congr 2
  refine List.filter_congr fun v _ => ?_
  exact mayDo_at nd hq hz
theorem chs_tups {H : Hp} {cs : List Ch} {vs : List V} (h : Paired (ChAt H) cs vs) : TupsAt H (cs.map fun c => [c.1, c.2]) vs := by
  induction h with
  | nil => exact .nil
  | cons r _ ih =>
    obtain ⟨a, e, q⟩ := r
    exact .cons ⟨a, e, q⟩ ih
theorem due_len {S : List Way} (ok : SOk S) (st : List Str) : (due S st).length ≤ 16 := by
  have h1 := chs_len ok.w4
  have h2 := ok.n4
  exact Nat.le_trans (List.length_filter_le _ _) (by omega)
theorem due_nm {S : List Way} (ok : SOk S) {st : List Str} : ∀ x ∈ (due S st).map (fun c => [c.1, c.2]), ∀ z ∈ x, isNm z = true := by
  intro x hx z hz
  obtain ⟨c, hc, rfl⟩ := List.mem_map.mp hx
  obtain ⟨q, hq, e, hv⟩ := mem_chs.mp (List.mem_filter.mp hc).1
  simp only [List.mem_cons, List.not_mem_nil, or_false] at hz
  rcases hz with rfl | rfl
  · rw [← e]
    exact ok.nm q hq
  · exact ok.wn q hq _ hv
theorem dueTo_len {S : List Way} (ok : SOk S) (st : List Str) (i : Nat) : (dueTo S st i).length ≤ 16 := by
  have h1 := chs_len (S := S.take i) fun q hq => ok.w4 q (List.mem_of_mem_take hq)
  have h2 := ok.n4
  have h3 : (S.take i).length ≤ S.length := List.length_take_le' ..
  exact Nat.le_trans (List.length_filter_le _ _) (by omega)
/-! ### _law_changes_right -/
def spChangesR (K : PySem.W.Frag) (C : Addr) : Sp := fun args H Q _ => ∃ (b k g d gd : Addr) (ns : List Int) (W : List Way) (N : Addr → Prop) (γ : List Str → List Int), args = [.ref b, .ref g, .ref d, .ref gd] ∧ ABag H b k ns ∧ IsG K C N H g (sh W) γ ∧ ShL (fun _ => True) H d W ∧ WOk W ∧ GnAt H gd W γ ∧
  ∀ H', But b H H' → ABag H' b k ns → Q (.bl true) H'
section
variable {P : Program} {w : World} {K : PySem.W.Frag} {mg : Str → Option Value} {base : Heap} {C : Addr}
variable {fShape fNames fName fSorted fStds fTable fInts fInt fOne fPut : Addr} {dShape dNames dName dSorted dStds dTable dInts dInt dOne dPut : FuncData}
variable {fT fO fN fS fW fM fCh : Addr} {dT' dO dN dS dW dM dCh : FuncData}
abbrev NsC : List Str := ["_law_bag_here", "_law_game", "_law_ways", "_law_gains_here", "_law_names_here", "_law_standing", "_law_due", "_law_at", "_law_chooser", "_law_way", "_law_found", "_law_goal", "_law_change"]
end
end HG

namespace HG
open PySem PySem.Spec PyProof.Rows L2
/-! ### sorted of a list of data that are alike -/
theorem each_zip {α : Type} {R : α → V → Prop} : ∀ {es : List α} {zs : List V} {us : List Value}, Paired R es zs → Vals zs us → PySem.W.EachIs (fun u (b : α × V) => RelV b.2 u ∧ R b.1 b.2) us (es.zip zs)
  | _, _, _, .nil, .nil => .nil
  | _, _, _, .cons r t, .cons v vs => .cons ⟨v, r⟩ (each_zip t vs)
theorem paired_of_mem {α β : Type} {R : α → β → Prop} : ∀ {l : List (α × β)}, (∀ b ∈ l, R b.1 b.2) → Paired R (l.map Prod.fst) (l.map Prod.snd)
  | [], _ => .nil
  | b :: l, h => .cons (h b List.mem_cons_self) (paired_of_mem fun b hb => h b (List.mem_cons_of_mem _ hb))
theorem mem_of_paired {α β : Type} {R : α → β → Prop} {l : List α} {m : List β} (h : Paired R l m) : ∀ b ∈ l.zip m, R b.1 b.2 := by
  induction h with
  | nil => intro b hb; cases hb
  | cons r _ ih =>
    intro b hb
    rw [List.zip_cons_cons] at hb
    rcases List.mem_cons.mp hb with rfl | hb
    · exact r
    · exact ih b hb
theorem each_vals : ∀ {l : List (V × V)} {us : List Value}, PySem.W.EachIs (fun u (b : V × V) => RelV b.2 u) us l → Vals (l.map Prod.snd) us
  | _, _, .nil => .nil
  | _, _, .cons r t => .cons r (each_vals t)
theorem each_vals' {α : Type} : ∀ {l : List (α × V)} {us : List Value}, PySem.W.EachIs (fun u (b : α × V) => RelV b.2 u) us l → Vals (l.map Prod.snd) us
  | _, _, .nil => .nil
  | _, _, .cons r t => .cons r (each_vals' t)
def rSortD {α : Type} (K : PySem.W.Frag) (enc : α → PyData) : List V → Hp → VK → Prop := fun vs H Q => ∃ (a : Addr) (zs : List V) (es : List α) (R : α → V → Prop), vs = [.ref a] ∧ SqL K H a zs ∧ Paired R es zs ∧ (∀ x v, R x v → Dp K H v (enc x)) ∧
  (∀ x y : α, PySem.W.alike (enc x) (enc y) = true) ∧ PySem.W.Sortable (es.map enc) ∧ (∀ x ∈ es, (enc x).depth ≤ 30) ∧ ∀ zs' p, Paired R (es.mergeSort (PySem.W.dataLe false enc)) zs' → H p = none → Q (.ref p) (upd H p (.lst zs'))
theorem call_sortD {X : Cx} {α : Type} {enc : α → PyData} (hu : X.A.units + 64 < cLine) : CallR X (.builtin "sorted") (rSortD X.K enc) := by
  intro pins s σ H vs us Q I r h
  obtain ⟨a, zs, es, R, rfl, hs, hp, hR, hal, hk, hdp, q⟩ := h
  obtain ⟨its, rv, hl, hz⟩ := I.list hs
  rw [Vals.ref1 r]
  have lz : es.length = zs.length := Paired.length hp
  have lb : (es.zip zs).length = zs.length := by rw [List.length_zip, lz, Nat.min_self]
  have mb := mem_of_paired hp
  have ez := each_zip hp rv
  have mf : (es.zip zs).map Prod.fst = es := List.map_fst_zip (Nat.le_of_eq lz)
  have em : (es.zip zs).map (fun b : α × V => enc b.1) = es.map enc := by
    rw [← mf, List.map_map, mf]
    rfl
  refine PySem.W.sorted_data (enc := fun b : α × V => enc b.1) (R := fun u (b : α × V) => RelV b.2 u) hl.isList (ez.mono fun _ _ z => z.1) (ez.mono fun u b z => ?_) (PySem.W.AllAlike.of fun b b' => hal b.1 b'.1) (by rw [em]; exact hk) (by rw [lb]; exact hz) (fun b hb => ?_) fun out ho he => ?_
  · exact Dp.reads I _ _ _ (hR _ _ z.2) z.1
  · have := hdp b.1 (List.of_mem_zip hb).1
    show X.A.units + 2 + (enc b.1).depth < cLine
    omega
  · obtain ⟨ep, he'⟩ := PyProof.Rows.sortedAll_at s.heap its out.toArray
    have rv' := each_vals' he
    have hlen : (((es.zip zs).mergeSort (PySem.W.dataLe false fun b : α × V => enc b.1)).map Prod.snd).length ≤ sizeLine := by rw [List.length_map, List.length_mergeSort, lb]; exact hz
    have hq : Paired R (es.mergeSort (PySem.W.dataLe false enc)) (((es.zip zs).mergeSort (PySem.W.dataLe false fun b : α × V => enc b.1)).map Prod.snd) := by
      have e1 : ((es.zip zs).mergeSort (PySem.W.dataLe false fun b : α × V => enc b.1)).map Prod.fst = es.mergeSort (PySem.W.dataLe false enc) := by
        have := PySem.W.sort_maps (r := PySem.W.dataLe false fun b : α × V => enc b.1) (s := PySem.W.dataLe false enc) (l := es.zip zs) Prod.fst (fun _ _ _ _ => rfl)
        rw [mf] at this
        exact this
      rw [← e1]
      exact paired_of_mem fun b hb => mb b ((List.mergeSort_perm _ _).mem_iff.mp hb)
    exact ⟨.ref _, upd H (s.heap.objs.size + 1) (.lst _), I.laid (t' := s.toks) (fun _ _ => PyProof.Rows.sortedAll_old) (Nat.le_succ _) ⟨hlen, out, ep, rv', he'⟩, rfl, q _ _ hq (I.hok.fresh (Nat.le_succ _))⟩
end HG

namespace HG
open PySem PySem.Spec PyProof.Rows L2
/-! ### a comprehension of three fors -/
/-- what a turn of clause k does, what stands behind it being inner -/
def clauseTurn (C : Expr) (k : Nat) (tk ik : Expr) (fk : List Expr) (it acc : Value) (env : Env) (inner : Sem PySem.Fin → Sem PySem.Fin) : Sem PySem.Fin := do
  standAt ik.pos
  match ← pyNext it with
  | none => pure (PySem.Fin.done .next)
  | some v =>
    letOwnedTupleGo tk it v
    assign tk env v
    let mut go := true
    for c in fk do
      if go then go ← isTrue c env (eval c env)
    if go then inner (again (.compLoop C k it acc env)) else again (.compLoop C k it acc env)
abbrev C3 (elt t0 i0 t1 i1 t2 i2 : Expr) (f0 f1 f2 : List Expr) (scope : Scope) (pos : Pos) : Expr := .ListComp elt [⟨t0, i0, f0, 0⟩, ⟨t1, i1, f1, 0⟩, ⟨t2, i2, f2, 0⟩] scope pos
/-- the start of the next clause, then t -/
def nextClause (C : Expr) (k : Nat) (i : Expr) (acc : Value) (env : Env) (t : Sem PySem.Fin) : Sem PySem.Fin := do
  let x ← eval i env
  standAt i.pos
  let x ← foldedSetIterable i env x
  let it1 ← holding [x] (pyIter x)
  let _ ← runOwn (.compStart C k it1 acc env) env
  t
def lastClause (elt : Expr) (acc : Value) (env : Env) : Sem Unit := do
  let _ ← call (.builtin "list.append") [acc, ← eval elt env]
def lastThen (elt : Expr) (acc : Value) (env : Env) (t : Sem PySem.Fin) : Sem PySem.Fin := do
  lastClause elt acc env
  t
theorem turn3_0 (elt t0 i0 t1 i1 t2 i2 : Expr) (f0 f1 f2 : List Expr) (scope : Scope) (pos : Pos) (it acc : Value) (env : Env) :
    compTurn (C3 elt t0 i0 t1 i1 t2 i2 f0 f1 f2 scope pos) 0 it acc env = clauseTurn (C3 elt t0 i0 t1 i1 t2 i2 f0 f1 f2 scope pos) 0 t0 i0 f0 it acc env (nextClause (C3 elt t0 i0 t1 i1 t2 i2 f0 f1 f2 scope pos) 1 i1 acc env) := by rfl
theorem turn3_1 (elt t0 i0 t1 i1 t2 i2 : Expr) (f0 f1 f2 : List Expr) (scope : Scope) (pos : Pos) (it acc : Value) (env : Env) :
    compTurn (C3 elt t0 i0 t1 i1 t2 i2 f0 f1 f2 scope pos) 1 it acc env = clauseTurn (C3 elt t0 i0 t1 i1 t2 i2 f0 f1 f2 scope pos) 1 t1 i1 f1 it acc env (nextClause (C3 elt t0 i0 t1 i1 t2 i2 f0 f1 f2 scope pos) 2 i2 acc env) := by rfl
theorem turn3_2 (elt t0 i0 t1 i1 t2 i2 : Expr) (f0 f1 f2 : List Expr) (scope : Scope) (pos : Pos) (it acc : Value) (env : Env) :
    compTurn (C3 elt t0 i0 t1 i1 t2 i2 f0 f1 f2 scope pos) 2 it acc env = clauseTurn (C3 elt t0 i0 t1 i1 t2 i2 f0 f1 f2 scope pos) 2 t2 i2 f2 it acc env (lastThen elt acc env) := by rfl
section
variable {prog : Program} {w : World} {A : Around} {R : Result → Shared → Prop} {s : Shared} {elt : Expr} {gens : List Comprehension} {scope : Scope} {pos : Pos} {k : Nat} {tk ik : Expr} {fk : List Expr} {it acc : Value} {env : Env} {inner : Sem PySem.Fin → Sem PySem.Fin}
theorem clause_loop (hT : compTurn (.ListComp elt gens scope pos) k it acc env = clauseTurn (.ListComp elt gens scope pos) k tk ik fk it acc env inner) (I : Nat → Shared → Prop)
    (turn : ∀ n s, I n s → wpAny (model prog w) A (pyNext it) (fun r s1 => match r with
      | none => R (.ok .next) s1
      | some v => wpAny (model prog w) A (letOwnedTupleGo tk it v) (fun _ s2 => wpAny (model prog w) A (assign tk env v) (fun _ s3 =>
          wpAny (model prog w) A (forIn fk true fun c r => if r = true then do let ok ← isTrue c env (eval c env); pure (ForInStep.yield ok) else pure (ForInStep.yield r)) (fun go s4 =>
            if go = true then ∀ (t : Sem PySem.Fin) (Qf : PySem.Fin → Shared → Prop), (∀ s5, (∃ m, m < n ∧ I m s5) → wpAny (model prog w) A t Qf (notedBy (model prog w) A env fun e s' => R (.error e) s') s5) → wpAny (model prog w) A (inner t) Qf (notedBy (model prog w) A env fun e s' => R (.error e) s') s4
            else ∃ m, m < n ∧ I m s4) (notedBy (model prog w) A env fun e s' => R (.error e) s') s3) (notedBy (model prog w) A env fun e s' => R (.error e) s') s2) (notedBy (model prog w) A env fun e s' => R (.error e) s') s1) (notedBy (model prog w) A env fun e s' => R (.error e) s') s)
    (n : Nat) (h : I n s) : codeAny (model prog w) A (.compLoop (.ListComp elt gens scope pos) k it acc env) R s := by
  refine codeAny_loop rfl I (fun n s hI => ?_) n h
  show wpAny _ A ((compTurn (.ListComp elt gens scope pos) k it acc env).onRaise (fun x => do noteFrame x env; theTreesLotGoes x)) _ _ s
  refine wpAny_noted ?_
  rw [hT]
  unfold clauseTurn
  refine wpAny_bind (wpAny_standAt (wpAny_bind (wpAny_mono (turn n s hI) (fun r s1 h1 => ?_) fun _ _ z => z)))
  cases r with
  | none => exact wpAny_pure h1
  | some v =>
    refine wpAny_bind (wpAny_mono h1 (fun _ s2 h2 => wpAny_bind (wpAny_mono h2 (fun _ s3 h3 => wpAny_bind (wpAny_mono h3 (fun go s4 h4 => ?_) fun _ _ z => z)) fun _ _ z => z)) fun _ _ z => z)
    cases go with
    | false => exact wpAny_pure ⟨rfl, h4⟩
    | true => exact h4 _ _ fun s5 h5 => wpAny_pure ⟨rfl, h5⟩
theorem next_clause {C i : Expr} {E : Value → Shared → Prop} {mid : Shared → Prop} (hf : ∀ x, foldedSetIterable i env x = pure x) (h : wpAny (model prog w) A (eval i env) (fun x s1 => wpAny (model prog w) A (pyIter x) (fun it1 s2 => codeAny (model prog w) A (.compStart C k it1 acc env) (fun r s' => match r with
      | .ok _ => mid s'
      | .error _ => False) s2) E s1) E s) {t : Sem PySem.Fin} {Qf : PySem.Fin → Shared → Prop} (ht : ∀ s5, mid s5 → wpAny (model prog w) A t Qf E s5) : wpAny (model prog w) A (nextClause C k i acc env t) Qf E s := by
  unfold nextClause
  refine wpAny_bind (wpAny_mono h (fun x s1 h1 => wpAny_bind (wpAny_standAt (wpAny_bind (wpAny_of_eq (hf x) (wpAny_bind (wpAny_holding (wpAny_mono h1 (fun it1 s2 h2 => ?_) fun _ _ z => z))))))) fun _ _ z => z)
  refine wpAny_bind (wpAny_runOwn ?_)
  rw [Around.mark_none]
  refine codeAny_mono h2 fun r s' hr => ?_
  cases r with
  | ok f => exact ht _ hr
  | error e => exact hr.elim
end
section
variable {prog : Program} {w : World} {A : Around} {R : Result → Shared → Prop} {s : Shared} {elt t0 i0 t1 i1 t2 i2 : Expr} {f0 f1 f2 : List Expr} {scope : Scope} {pos : Pos} {it acc : Value} {env : Env}
theorem start3_1 (h0 : codeAny (model prog w) A (.compLoop (C3 elt t0 i0 t1 i1 t2 i2 f0 f1 f2 scope pos) 1 it acc env) R s)
    (h : wpAny (model prog w) A (pyIter it) (fun it' s' => codeAny (model prog w) A (.compLoop (C3 elt t0 i0 t1 i1 t2 i2 f0 f1 f2 scope pos) 1 it' acc env) R s') (notedBy (model prog w) A env fun x s' => R (.error x) s') s) :
    codeAny (model prog w) A (.compStart (C3 elt t0 i0 t1 i1 t2 i2 f0 f1 f2 scope pos) 1 it acc env) R s := by
  refine codeAny_of_tree ?_
  show wpAny _ _ ((compStart (C3 elt t0 i0 t1 i1 t2 i2 f0 f1 f2 scope pos) 1 it acc env).onRaise (fun x => do noteFrame x env; standAt theWindowsPlace)) _ _ s
  refine wpAny_notedAt ?_
  unfold compStart
  show wpAny _ _ (ask >>= _) _ _ s
  refine wpAny_bind (wpAny_askSetting (wpAny_ite ?_))
  split
  · first | exact wpAny_bind (wpAny_pure (wpAny_pure (And.intro rfl h0))) | exact wpAny_pure (And.intro rfl h0)
  · refine wpAny_bind (wpAny_rule ?_)
    first
      | exact wpAny_bind (wpAny_standAt (wpAny_bind (wpAny_mono h (fun it' s' z => wpAny_pure (And.intro rfl z)) fun _ _ z => z)))
      | (show wpAny _ _ (standAt i1.pos >>= _) _ _ s; exact wpAny_bind (wpAny_standAt (wpAny_bind (wpAny_mono h (fun it' s' z => wpAny_pure (And.intro rfl z)) fun _ _ z => z))))
theorem start3_2 (h0 : codeAny (model prog w) A (.compLoop (C3 elt t0 i0 t1 i1 t2 i2 f0 f1 f2 scope pos) 2 it acc env) R s)
    (h : wpAny (model prog w) A (pyIter it) (fun it' s' => codeAny (model prog w) A (.compLoop (C3 elt t0 i0 t1 i1 t2 i2 f0 f1 f2 scope pos) 2 it' acc env) R s') (notedBy (model prog w) A env fun x s' => R (.error x) s') s) :
    codeAny (model prog w) A (.compStart (C3 elt t0 i0 t1 i1 t2 i2 f0 f1 f2 scope pos) 2 it acc env) R s := by
  refine codeAny_of_tree ?_
  show wpAny _ _ ((compStart (C3 elt t0 i0 t1 i1 t2 i2 f0 f1 f2 scope pos) 2 it acc env).onRaise (fun x => do noteFrame x env; standAt theWindowsPlace)) _ _ s
  refine wpAny_notedAt ?_
  unfold compStart
  show wpAny _ _ (ask >>= _) _ _ s
  refine wpAny_bind (wpAny_askSetting (wpAny_ite ?_))
  split
  · first | exact wpAny_bind (wpAny_pure (wpAny_pure (And.intro rfl h0))) | exact wpAny_pure (And.intro rfl h0)
  · refine wpAny_bind (wpAny_rule ?_)
    first
      | exact wpAny_bind (wpAny_standAt (wpAny_bind (wpAny_mono h (fun it' s' z => wpAny_pure (And.intro rfl z)) fun _ _ z => z)))
      | (show wpAny _ _ (standAt i2.pos >>= _) _ _ s; exact wpAny_bind (wpAny_standAt (wpAny_bind (wpAny_mono h (fun it' s' z => wpAny_pure (And.intro rfl z)) fun _ _ z => z))))
end
/-- a clause's walk: B is what stands behind its store and tests, Nx what its end leads to -/
def LoopT (J : It) (g : TG) (tt : TT) (vs : List Nat) (σ : L2.St) (H1 : Hp) (Nx : Hp → Prop) (B : L2.St → Hp → (Hp → Prop) → Prop) : Prop := ∃ W : Nat → Nat → Hp → Prop, (∃ m, W 0 m H1) ∧ ∀ i m H, W i m H →
  (J.stop i H ∧ Nx H) ∨ (J.go i H ∧ ∃ N1 : Hp → Prop, (∀ H', N1 H' → ∃ m', m' < m ∧ W (i + 1) m' H') ∧ ∀ x H', J.yld i H x H' → g x (wipe σ vs) H' fun σ2 H2 => wipe σ2 vs = wipe σ vs ∧ tt σ2 H2 fun b H3 => if b = true then B σ2 H3 N1 else N1 H3)
theorem loopT_it {J : It} {n : Nat} {G : Hp → Prop} {Y : Nat → Hp → V → Hp → Prop} (w : Walk J n G Y) {g : TG} {tt : TT} {vs : List Nat} {σ : L2.St} {H1 : Hp} {Nx : Hp → Prop} {B : L2.St → Hp → (Hp → Prop) → Prop} (Pv : Nat → Hp → Prop) (h0 : Pv 0 H1) (hG : ∀ i H, i ≤ n → Pv i H → G H)
    (hs : ∀ i x H H', i < n → Pv i H → Y i H x H' → g x (wipe σ vs) H' fun σ2 H2 => wipe σ2 vs = wipe σ vs ∧ tt σ2 H2 fun b H3 => if b = true then B σ2 H3 (Pv (i + 1)) else Pv (i + 1) H3) (hd : ∀ H, Pv n H → Nx H) : LoopT J g tt vs σ H1 Nx B := by
  refine ⟨fun i m H => m = n - i ∧ i ≤ n ∧ Pv i H, ⟨n, by simp, Nat.zero_le _, h0⟩, ?_⟩
  rintro i m H ⟨rfl, hi, p⟩
  have q := hG i H hi p
  by_cases hlt : i < n
  · exact .inr ⟨w.goes i H hlt q, Pv (i + 1), fun H' p' => ⟨n - (i + 1), by omega, rfl, hlt, p'⟩, fun x H' y => hs i x H H' hlt p (w.yields i H x H' hlt q y)⟩
  · have e : i = n := by omega
    subst e
    exact .inl ⟨w.stops H q, hd H p⟩
section
variable {X : Cx}
theorem clause_inv {s0 : Shared} {H0 : Hp} {scope sc2 : Scope} {ce : Env} {fp0 : List Addr} {P : List (Addr × Obj)} {σ : L2.St} {H : Hp} {s : Shared} {elt : Expr} {gens : List Comprehension} {pos : Pos} {k : Nat} {tk ik : Expr} {fk : List Expr} {acc : Value} {inner : Sem PySem.Fin → Sem PySem.Fin}
    {J : It} {fp : List Addr} {it : Addr} {tn : Nat → Heap → Prop} {g : TG} {tt : TT} {vs : List Nat} {B : L2.St → Hp → (Hp → Prop) → Prop} {Nx : Hp → Prop} (hc : X.calm = true)
    (hT : compTurn (.ListComp elt gens sc2 pos) k (.ref it) acc ce = clauseTurn (.ListComp elt gens sc2 pos) k tk ik fk (.ref it) acc ce inner)
    (pg : PG (X.blk s0 H0 scope ce fp0) tk g) (pt : PTs (X.blk s0 H0 scope ce fp0) fk tt) (T : Turn X.prog X.w X.K tk J fp it tn) (I : Inv (X.blk s0 H0 scope ce fp0) P (wipe σ vs) H s) (st : tn 0 s.heap) (nf : ∀ b ∈ fp, H b = none)
    (ok : ∀ {H' : Hp}, (∀ b ∈ fp, H' b = none) → ∀ b ∈ fp, FpOk (X.blk s0 H0 scope ce fp0) P H' b) (L : LoopT J g tt vs σ H Nx B)
    (hin : ∀ (P' : List (Addr × Obj)) (σ' : L2.St) (H' : Hp) (s' : Shared) (N1 : Hp → Prop), Inv (X.blk s0 H0 scope ce fp0) P' σ' H' s' → B σ' H' N1 → ∀ (t : Sem PySem.Fin) (Qf : PySem.Fin → Shared → Prop) (Ef : Value → Shared → Prop),
      (∀ σ'' H'' s'', Inv (X.blk s0 H0 scope ce fp0) P' σ'' H'' s'' → σ''.length = σ'.length → (∀ (j : Nat) v, (wipe σ' vs)[j]? = some (some v) → σ''[j]? = some (some v)) → N1 H'' → wpAny (model X.prog X.w) X.A t Qf Ef s'') → wpAny (model X.prog X.w) X.A (inner t) Qf Ef s') :
    codeAny (model X.prog X.w) X.A (.compLoop (.ListComp elt gens sc2 pos) k (.ref it) acc ce) (fun r s' => match r with
      | .ok f => f = .next ∧ ∃ H', Inv (X.blk s0 H0 scope ce fp0) P (wipe σ vs) H' s' ∧ Nx H'
      | .error _ => False) s := by
  obtain ⟨W, ⟨m0, w0⟩, turn⟩ := L
  refine clause_loop hT (fun m s' => ∃ j H', Inv (X.blk s0 H0 scope ce fp0) P (wipe σ vs) H' s' ∧ tn j s'.heap ∧ (∀ b ∈ fp, H' b = none) ∧ W j m H') ?_ m0 ⟨0, H, I, st, nf, w0⟩
  rintro n s1 ⟨j, H1, I1, st1, n1, w1⟩
  rcases turn j n H1 w1 with ⟨stop, nx⟩ | ⟨go, N1, hN1, step⟩
  · refine thnF (T.done (X.blk s0 H0 scope ce fp0) rfl rfl rfl hc j _ s1 (wipe σ vs) H1 (fun _ _ => False) I1 (ok n1) st1 stop) fun r s2 ⟨hr, I2⟩ => ?_
    subst hr
    exact ⟨rfl, H1, I2, nx⟩
  · refine thnF (T.item (X.blk s0 H0 scope ce fp0) rfl rfl rfl hc j _ s1 (wipe σ vs) H1 (fun _ _ => False) I1 (ok n1) st1 go) fun r s2 ⟨u, hr, h2⟩ => ?_
    subst hr
    refine thnF h2 fun _ s3 ⟨x, H3, I3, r3, y3, st3, n3⟩ => ?_
    have Ip := I3.pinned (ok n3) (T.obj _ _ st3)
    refine thnF (pg.run _ s3 (wipe σ vs) H3 x u _ Ip r3 (step x H3 y3)) fun _ s4 ⟨σ4, H4, I4, hw4, q4⟩ => ?_
    refine thnF (pt.run _ s4 σ4 H4 _ I4 q4) fun b s5 ⟨H5, I5, q5⟩ => ?_
    have fin : ∀ {σ' : L2.St} {s' : Shared} {H' : Hp}, Inv (X.blk s0 H0 scope ce fp0) (P ++ pinsAt fp s3.heap) σ' H' s' → (wipe σ vs).length = σ'.length → (∀ (j : Nat) v, (wipe σ vs)[j]? = some (some v) → σ'[j]? = some (some v)) → N1 H' →
        ∃ m, m < n ∧ ∃ j H', Inv (X.blk s0 H0 scope ce fp0) P (wipe σ vs) H' s' ∧ tn j s'.heap ∧ (∀ b ∈ fp, H' b = none) ∧ W j m H' := fun {σ' s' H'} I' hl hk nx => by
      obtain ⟨m', hm, w'⟩ := hN1 H' nx
      have pin : ∀ b ∈ fp, ∀ o, s3.heap.get? b = some o → s'.heap.get? b = some o ∧ H' b = none := fun b hb o e => let z := I'.pin (b, o) (List.mem_append_right _ (List.mem_append_right _ (mem_pinsAt hb e))); ⟨z.1, z.2.1⟩
      refine ⟨m', hm, j + 1, H', I'.unpinned.weak hl hk, T.keep _ _ _ st3 fun b hb o e => (pin b hb o e).1, fun b hb => ?_, w'⟩
      obtain ⟨o, e, _⟩ := T.obj _ _ st3 b hb
      exact (pin b hb o e).2
    have l4 : (wipe σ vs).length = σ4.length := by rw [← hw4, wipe_length]
    have k4 : ∀ (j : Nat) v, (wipe σ vs)[j]? = some (some v) → (wipe σ4 vs)[j]? = some (some v) := fun j v e => by rw [hw4]; exact e
    cases b with
    | false =>
      simp only [Bool.false_eq_true, if_false] at q5 ⊢
      exact fin I5 l4 (fun j v e => (wipe_some (k4 j v e)).1) q5
    | true =>
      simp only [if_true] at q5 ⊢
      exact fun t Qf ht => hin _ σ4 H5 s5 N1 I5 q5 t Qf _ fun σ'' H'' s'' I'' hl hk nx => ht _ (fin I'' (l4.trans hl.symm) (fun j v e => hk j v (k4 j v e)) nx)
/-- [elt for t0 in i0 if .. for t1 in i1 if .. for t2 in i2 if ..] -/
def tLc3 (wi : TI) (g : TG) (tt : TT) (wi1 : TI) (g1 : TG) (tt1 : TT) (wi2 : TI) (g2 : TG) (tt2 : TT) (te : TE) (vs vs1 vs2 : List Nat) : TE := fun σ H Q => wi σ H fun J H1 => ∀ D, H1 D = none →
  LoopT J g tt vs σ (upd H1 D (.lst [])) (fun H => Q (.ref D) H) fun σ2 H2 Nx => wi1 σ2 H2 fun J1 H3 => LoopT J1 g1 tt1 vs1 σ2 H3 Nx fun σ3 H4 N1 => wi2 σ3 H4 fun J2 H5 => LoopT J2 g2 tt2 vs2 σ3 H5 N1 fun σ4 H6 N2 =>
    te σ4 H6 fun y H7 => ∃ xs, H7 D = some (.lst xs) ∧ xs.length < sizeLine ∧ N2 (upd H7 D (.lst (xs ++ [y])))
theorem wipe_keep {σ : L2.St} {vs vs1 : List Nat} (hv : ∀ i ∈ vs1, i ∈ vs) {j : Nat} {v : V} (e : (wipe σ vs)[j]? = some (some v)) : (wipe σ vs1)[j]? = some (some v) := by
  obtain ⟨e1, e2⟩ := wipe_some e
  rw [wipe_out fun z => e2 (hv j z)]
  exact e1
theorem pe_lc3 {elt t0 i0 t1 i1 t2 i2 : Expr} {f0 f1 f2 : List Expr} {scope : Scope} {own : List (Str × Nat)} {vs1 vs2 : List Nat} {pos : Pos} {wi wi1 wi2 : TI} {g g1 g2 : TG} {tt tt1 tt2 : TT} {te : TE} (hc : X.calm = true) (hN : X.N.Nodup) (hi : PI X t0 i0 wi) (ok : BlkOk X.N X.env.scope scope own)
    (hv1 : ∀ i ∈ vs1, i ∈ own.map (·.2)) (hv2 : ∀ i ∈ vs2, i ∈ vs1)
    (hg : ∀ (s : Shared) (H : Hp) (C : Addr) (cl : List (Str × Addr)) (fp : List Addr), PG (X.blk s H scope (compEnvC scope cl C X.env) fp) t0 g) (ht : ∀ (s : Shared) (H : Hp) (C : Addr) (cl : List (Str × Addr)) (fp : List Addr), PTs (X.blk s H scope (compEnvC scope cl C X.env) fp) f0 tt)
    (hi1 : ∀ (s : Shared) (H : Hp) (C : Addr) (cl : List (Str × Addr)) (fp : List Addr), PI (X.blk s H scope (compEnvC scope cl C X.env) fp) t1 i1 wi1) (hg1 : ∀ (s : Shared) (H : Hp) (C : Addr) (cl : List (Str × Addr)) (fp : List Addr), PG (X.blk s H scope (compEnvC scope cl C X.env) fp) t1 g1)
    (ht1 : ∀ (s : Shared) (H : Hp) (C : Addr) (cl : List (Str × Addr)) (fp : List Addr), PTs (X.blk s H scope (compEnvC scope cl C X.env) fp) f1 tt1) (hi2 : ∀ (s : Shared) (H : Hp) (C : Addr) (cl : List (Str × Addr)) (fp : List Addr), PI (X.blk s H scope (compEnvC scope cl C X.env) fp) t2 i2 wi2)
    (hg2 : ∀ (s : Shared) (H : Hp) (C : Addr) (cl : List (Str × Addr)) (fp : List Addr), PG (X.blk s H scope (compEnvC scope cl C X.env) fp) t2 g2) (ht2 : ∀ (s : Shared) (H : Hp) (C : Addr) (cl : List (Str × Addr)) (fp : List Addr), PTs (X.blk s H scope (compEnvC scope cl C X.env) fp) f2 tt2)
    (he : ∀ (s : Shared) (H : Hp) (C : Addr) (cl : List (Str × Addr)) (fp : List Addr), PE (X.blk s H scope (compEnvC scope cl C X.env) fp) elt te) (hs : ∀ x, foldedSetIterable i0 X.env x = pure x := by intro _; rfl) (hs1 : ∀ env x, foldedSetIterable i1 env x = pure x := by intro _ _; rfl) (hs2 : ∀ env x, foldedSetIterable i2 env x = pure x := by intro _ _; rfl) :
    PE X (.ListComp elt [⟨t0, i0, f0, 0⟩, ⟨t1, i1, f1, 0⟩, ⟨t2, i2, f2, 0⟩] scope pos) (tLc3 wi g tt wi1 g1 tt1 wi2 g2 tt2 te (own.map (·.2)) vs1 vs2) := by
  refine ⟨fun pins s σ H Q I h => ?_⟩
  rw [eval_ListComp]
  have hfree : ∀ y ∈ scope.names, y.2 = .free → ∃ c, X.env.cells.lookup y.1 = some c := fun y hy e => by
    rcases ok.free y hy e with z | z
    · exact I.ok.has _ (.inl z)
    · exact I.ok.has _ (.inr z)
  refine wpAny_comprehension_free (use := none) rfl hs (closure_ok hfree) ok.kind (fun y hy e => by rw [ok.uniq y hy, e]) (thn (hi.run pins s σ H _ I h) fun xv s1 hx => thn hx fun itv s2 h2 => ?_)
  obtain ⟨it, fp, tn, J, H2, e, I2, T, st2, f2', q⟩ := h2
  subst e
  refine wpAny_newObj_type (newEnv_comp ?_) (by show 0 ≤ sizeLine; decide)
  generalize eD : s2.heap.objs.size = D
  have nD : H2 D = none := I2.hok.fresh (Nat.le_of_eq eD)
  have L := q D nD
  generalize es3 : ({ s2 with heap := s2.heap.push { cls := .type "list", data := .seq ([] : List Value).toArray } } : Shared) = s3
  have I3 : Inv X pins σ (upd H2 D (.lst [])) s3 := by
    rw [← es3]
    refine I2.laid (t' := s2.toks) (fun b o z => Heap.get?_push_of_some _ z) (Nat.le_of_eq eD) ⟨Nat.zero_le _, [], 0, .nil, ?_⟩
    rw [← eD]
    exact Heap.get?_push_size _ rfl
  have e3 : s3.heap = s2.heap.push { cls := .type "list", data := .seq ([] : List Value).toArray } := by rw [← es3]
  have lowf : ∀ b ∈ fp, b < s2.heap.objs.size := fun b hb => let ⟨_, z, _⟩ := T.obj _ _ st2 b hb; Heap.lt_size z
  have f3 : ∀ b ∈ fp, FpOk X pins (upd H2 D (.lst [])) b ∧ b < s3.heap.objs.size := fun b hb => by
    refine ⟨⟨?_, (f2' b hb).2⟩, by rw [e3, Heap.size_push]; exact Nat.lt_succ_of_lt (lowf b hb)⟩
    rw [upd_ne (by rw [← eD]; exact Nat.ne_of_lt (lowf b hb))]
    exact (f2' b hb).1
  have st3 : tn 0 s3.heap := T.keep _ _ _ st2 fun b _ o z => by rw [e3]; exact Heap.get?_push_of_some _ z
  have I4 := block_start I3 ok hN f3
  show codeAny _ _ (.compStart (C3 elt t0 i0 t1 i1 t2 i2 f0 f1 f2 scope pos) 0 (.ref it) (.ref D) (compEnvC scope (cellsFrom (s3.heap.objs.size + 1) scope.names (cloFrom X.env.cells scope.names [])) s3.heap.objs.size X.env)) (compPost (model X.prog X.w) X.A X.xe none _ (.ref D) s3.heap.objs.size) { s3 with heap := pushCells (s3.heap.push { cls := .type "dict", data := .dict #[] }) scope.names }
  have nf3 : ∀ b ∈ fp, (upd H2 D (.lst [])) b = none := fun b hb => (f3 b hb).1.1
  have pg := hg s3 (upd H2 D (.lst [])) s3.heap.objs.size (cellsFrom (s3.heap.objs.size + 1) scope.names (cloFrom X.env.cells scope.names [])) fp
  have pt := ht s3 (upd H2 D (.lst [])) s3.heap.objs.size (cellsFrom (s3.heap.objs.size + 1) scope.names (cloFrom X.env.cells scope.names [])) fp
  have pi1 := hi1 s3 (upd H2 D (.lst [])) s3.heap.objs.size (cellsFrom (s3.heap.objs.size + 1) scope.names (cloFrom X.env.cells scope.names [])) fp
  have pg1 := hg1 s3 (upd H2 D (.lst [])) s3.heap.objs.size (cellsFrom (s3.heap.objs.size + 1) scope.names (cloFrom X.env.cells scope.names [])) fp
  have pt1 := ht1 s3 (upd H2 D (.lst [])) s3.heap.objs.size (cellsFrom (s3.heap.objs.size + 1) scope.names (cloFrom X.env.cells scope.names [])) fp
  have pi2 := hi2 s3 (upd H2 D (.lst [])) s3.heap.objs.size (cellsFrom (s3.heap.objs.size + 1) scope.names (cloFrom X.env.cells scope.names [])) fp
  have pg2 := hg2 s3 (upd H2 D (.lst [])) s3.heap.objs.size (cellsFrom (s3.heap.objs.size + 1) scope.names (cloFrom X.env.cells scope.names [])) fp
  have pt2 := ht2 s3 (upd H2 D (.lst [])) s3.heap.objs.size (cellsFrom (s3.heap.objs.size + 1) scope.names (cloFrom X.env.cells scope.names [])) fp
  have pe := he s3 (upd H2 D (.lst [])) s3.heap.objs.size (cellsFrom (s3.heap.objs.size + 1) scope.names (cloFrom X.env.cells scope.names [])) fp
  generalize hce : compEnvC scope (cellsFrom (s3.heap.objs.size + 1) scope.names (cloFrom X.env.cells scope.names [])) s3.heap.objs.size X.env = ce at I4 pg pt pi1 pg1 pt1 pi2 pg2 pt2 pe ⊢
  have cL : ce.locals = s3.heap.objs.size := by subst hce; rfl
  generalize upd H2 D (.lst []) = H3 at I3 I4 pg pt pi1 pg1 pt1 pi2 pg2 pt2 pe L nf3 f3
  generalize es4 : ({ s3 with heap := pushCells (s3.heap.push { cls := .type "dict", data := .dict #[] }) scope.names } : Shared) = s4 at I4 ⊢
  have st4 : tn 0 s4.heap := T.keep _ _ _ st3 fun b _ o z => by rw [← es4]; exact pushCells_keeps _ _ _ _ (Heap.get?_push_of_some _ z)
  -- the innermost
  have in2 : ∀ (P' : List (Addr × Obj)) (σ' : L2.St) (H' : Hp) (s' : Shared) (N2 : Hp → Prop), Inv (X.blk s3 H3 scope ce fp) P' σ' H' s' → te σ' H' (fun y H7 => ∃ xs, H7 D = some (.lst xs) ∧ xs.length < sizeLine ∧ N2 (upd H7 D (.lst (xs ++ [y])))) → ∀ (t : Sem PySem.Fin) (Qf : PySem.Fin → Shared → Prop) (Ef : Value → Shared → Prop),
      (∀ σ'' H'' s'', Inv (X.blk s3 H3 scope ce fp) P' σ'' H'' s'' → σ''.length = σ'.length → (∀ (j : Nat) v, (wipe σ' vs2)[j]? = some (some v) → σ''[j]? = some (some v)) → N2 H'' → wpAny (model X.prog X.w) X.A t Qf Ef s'') → wpAny (model X.prog X.w) X.A (lastThen elt (.ref D) ce t) Qf Ef s' := by
    intro P' σ' H' s' N2 I' hB t Qf Ef kt
    unfold lastThen
    refine wpAny_bind ?_
    unfold lastClause
    refine wpAny_bind (thnF (pe.run _ s' σ' H' _ I' hB) fun v s1 ⟨y, H1, I1, r1, xs, hD1, hz1, nx⟩ => ?_)
    exact wpAny_bind (app_ok (X := X.blk s3 H3 scope ce fp) I1 hD1 hz1 r1 fun s2 I2 => wpAny_pure (kt σ' _ s2 I2 rfl (fun j v z => (wipe_some z).1) nx))
  have in1 : ∀ (P' : List (Addr × Obj)) (σ' : L2.St) (H' : Hp) (s' : Shared) (N1 : Hp → Prop), Inv (X.blk s3 H3 scope ce fp) P' σ' H' s' → wi2 σ' H' (fun J2 H5 => LoopT J2 g2 tt2 vs2 σ' H5 N1 fun σ4 H6 N2 => te σ4 H6 fun y H7 => ∃ xs, H7 D = some (.lst xs) ∧ xs.length < sizeLine ∧ N2 (upd H7 D (.lst (xs ++ [y])))) → ∀ (t : Sem PySem.Fin) (Qf : PySem.Fin → Shared → Prop) (Ef : Value → Shared → Prop),
      (∀ σ'' H'' s'', Inv (X.blk s3 H3 scope ce fp) P' σ'' H'' s'' → σ''.length = σ'.length → (∀ (j : Nat) v, (wipe σ' vs1)[j]? = some (some v) → σ''[j]? = some (some v)) → N1 H'' → wpAny (model X.prog X.w) X.A t Qf Ef s'') → wpAny (model X.prog X.w) X.A (nextClause (C3 elt t0 i0 t1 i1 t2 i2 f0 f1 f2 scope pos) 2 i2 (.ref D) ce t) Qf Ef s' := by
    intro P' σ' H' s' N1 I' hB t Qf Ef kt
    refine next_clause (mid := fun s5 => ∃ H5, Inv (X.blk s3 H3 scope ce fp) P' (wipe σ' vs2) H5 s5 ∧ N1 H5) (hs2 ce) (thnF (pi2.run _ s' σ' H' _ I' hB) fun xv s1 hx => thnF hx fun itv s5 h5 => ?_) fun s5 ⟨H5, I5, nx⟩ => kt (wipe σ' vs2) H5 s5 I5 (wipe_length _ _) (fun j v z => wipe_keep hv2 z) nx
    obtain ⟨it2, fp2, tn2, J2, H5, e5, I5, T2, st5, f5, L2⟩ := h5
    subst e5
    have lp := codeAny_mono (clause_inv hc (turn3_2 elt t0 i0 t1 i1 t2 i2 f0 f1 f2 scope pos (.ref it2) (.ref D) ce) pg2 pt2 T2 (I5.weak (wipe_length _ _) fun j v z => (wipe_some z).1) st5 (fun b hb => (f5 b hb).1) (fun hn b hb => ⟨hn b hb, (f5 b hb).2⟩) L2 in2)
      (R' := fun r s' => match r with | .ok _ => ∃ H5, Inv (X.blk s3 H3 scope ce fp) P' (wipe σ' vs2) H5 s' ∧ N1 H5 | .error _ => False) fun r s' hr => by
        cases r with
        | ok f => exact hr.2
        | error _ => exact hr
    exact start3_2 lp (T2.self X.A 0 _ _ _ st5 lp)
  have in0 : ∀ (P' : List (Addr × Obj)) (σ' : L2.St) (H' : Hp) (s' : Shared) (Nx : Hp → Prop), Inv (X.blk s3 H3 scope ce fp) P' σ' H' s' → wi1 σ' H' (fun J1 H3 => LoopT J1 g1 tt1 vs1 σ' H3 Nx fun σ3 H4 N1 => wi2 σ3 H4 fun J2 H5 => LoopT J2 g2 tt2 vs2 σ3 H5 N1 fun σ4 H6 N2 => te σ4 H6 fun y H7 => ∃ xs, H7 D = some (.lst xs) ∧ xs.length < sizeLine ∧ N2 (upd H7 D (.lst (xs ++ [y])))) →
      ∀ (t : Sem PySem.Fin) (Qf : PySem.Fin → Shared → Prop) (Ef : Value → Shared → Prop), (∀ σ'' H'' s'', Inv (X.blk s3 H3 scope ce fp) P' σ'' H'' s'' → σ''.length = σ'.length → (∀ (j : Nat) v, (wipe σ' (own.map (·.2)))[j]? = some (some v) → σ''[j]? = some (some v)) → Nx H'' → wpAny (model X.prog X.w) X.A t Qf Ef s'') →
      wpAny (model X.prog X.w) X.A (nextClause (C3 elt t0 i0 t1 i1 t2 i2 f0 f1 f2 scope pos) 1 i1 (.ref D) ce t) Qf Ef s' := by
    intro P' σ' H' s' Nx I' hB t Qf Ef kt
    refine next_clause (mid := fun s5 => ∃ H5, Inv (X.blk s3 H3 scope ce fp) P' (wipe σ' vs1) H5 s5 ∧ Nx H5) (hs1 ce) (thnF (pi1.run _ s' σ' H' _ I' hB) fun xv s1 hx => thnF hx fun itv s5 h5 => ?_) fun s5 ⟨H5, I5, nx⟩ => kt (wipe σ' vs1) H5 s5 I5 (wipe_length _ _) (fun j v z => wipe_keep hv1 z) nx
    obtain ⟨it2, fp2, tn2, J2, H5, e5, I5, T2, st5, f5, L2⟩ := h5
    subst e5
    have lp := codeAny_mono (clause_inv hc (turn3_1 elt t0 i0 t1 i1 t2 i2 f0 f1 f2 scope pos (.ref it2) (.ref D) ce) pg1 pt1 T2 (I5.weak (wipe_length _ _) fun j v z => (wipe_some z).1) st5 (fun b hb => (f5 b hb).1) (fun hn b hb => ⟨hn b hb, (f5 b hb).2⟩) L2 in1)
      (R' := fun r s' => match r with | .ok _ => ∃ H5, Inv (X.blk s3 H3 scope ce fp) P' (wipe σ' vs1) H5 s' ∧ Nx H5 | .error _ => False) fun r s' hr => by
        cases r with
        | ok f => exact hr.2
        | error _ => exact hr
    exact start3_1 lp (T2.self X.A 0 _ _ _ st5 lp)
  have lp0 := clause_inv hc (turn3_0 elt t0 i0 t1 i1 t2 i2 f0 f1 f2 scope pos (.ref it) (.ref D) ce) pg pt T I4 st4 nf3 (fun hn b hb => ⟨hn b hb, (I4.ok.exf b hb).1, I4.ok.exfs b hb, .inl hb, fun x c z => (I4.ok.exf b hb).2 x c z, fun p hp => absurd (show p ∈ ([] : List (Addr × Obj)) ++ [] from hp) (by simp)⟩) L in0
  have lp : codeAny (model X.prog X.w) X.A (.compLoop (C3 elt t0 i0 t1 i1 t2 i2 f0 f1 f2 scope pos) 0 (.ref it) (.ref D) ce) (compPost (model X.prog X.w) X.A X.xe none (fun v s' => ∃ x H', Inv X pins σ H' s' ∧ RelV x v ∧ Q x H') (.ref D) s3.heap.objs.size) s4 := by
    refine codeAny_mono lp0 fun r s6 hr => ?_
    cases r with
    | error _ => exact hr.elim
    | ok f =>
      obtain ⟨rfl, H6, I6, qq⟩ := hr
      have I7 : Inv X pins σ H6 s6 := I3.call' (ch := fp) I6.os I6.base I6.hok I6.bare fun b hb => ⟨(f3 b hb).1.2.2.2.1, (f3 b hb).1.2.1, (f3 b hb).1.2.2.2.2.1, (f3 b hb).1.2.2.2.2.2⟩
      have nC : H6 s3.heap.objs.size = none := by
        have z : H6 ce.locals = none := I6.free
        rwa [cL] at z
      obtain ⟨m, hm, _⟩ := I6.loc
      have hm : s6.heap.Ns ce.locals m := hm
      rw [cL] at hm
      obtain ⟨a0, a1, a2, a3, a4, a5⟩ := I3.fpOk (Nat.le_refl _) nC
      exact ⟨m, hm, fun h'' sb => ⟨.ref D, H6, I7.turned (t' := s6.toks) (fun b o hb z => (sb.2 b hb).trans z) a0 a1 a3 a4 a5, rfl, qq⟩⟩
  exact codeAny_compStart_list lp (T.self X.A 0 _ _ _ st4 lp)
end
end HG

namespace HG
open PySem PySem.Spec PyProof.Rows L2
/-! ### a comprehension of two fors, the first over an object whose own __iter__ tells a list's iterator -/
abbrev C2 (elt t0 i0 t1 i1 : Expr) (f0 f1 : List Expr) (scope : Scope) (pos : Pos) : Expr := .ListComp elt [⟨t0, i0, f0, 0⟩, ⟨t1, i1, f1, 0⟩] scope pos
theorem turn2_0 (elt t0 i0 t1 i1 : Expr) (f0 f1 : List Expr) (scope : Scope) (pos : Pos) (it acc : Value) (env : Env) :
    compTurn (C2 elt t0 i0 t1 i1 f0 f1 scope pos) 0 it acc env = clauseTurn (C2 elt t0 i0 t1 i1 f0 f1 scope pos) 0 t0 i0 f0 it acc env (nextClause (C2 elt t0 i0 t1 i1 f0 f1 scope pos) 1 i1 acc env) := by rfl
theorem turn2_1 (elt t0 i0 t1 i1 : Expr) (f0 f1 : List Expr) (scope : Scope) (pos : Pos) (it acc : Value) (env : Env) :
    compTurn (C2 elt t0 i0 t1 i1 f0 f1 scope pos) 1 it acc env = clauseTurn (C2 elt t0 i0 t1 i1 f0 f1 scope pos) 1 t1 i1 f1 it acc env (lastThen elt acc env) := by rfl
theorem start2_1 {prog : Program} {w : World} {A : Around} {R : Result → Shared → Prop} {s : Shared} {elt t0 i0 t1 i1 : Expr} {f0 f1 : List Expr} {scope : Scope} {pos : Pos} {it acc : Value} {env : Env} (h0 : codeAny (model prog w) A (.compLoop (C2 elt t0 i0 t1 i1 f0 f1 scope pos) 1 it acc env) R s)
    (h : wpAny (model prog w) A (pyIter it) (fun it' s' => codeAny (model prog w) A (.compLoop (C2 elt t0 i0 t1 i1 f0 f1 scope pos) 1 it' acc env) R s') (notedBy (model prog w) A env fun x s' => R (.error x) s') s) :
    codeAny (model prog w) A (.compStart (C2 elt t0 i0 t1 i1 f0 f1 scope pos) 1 it acc env) R s := by
  refine codeAny_of_tree ?_
  show wpAny _ _ ((compStart (C2 elt t0 i0 t1 i1 f0 f1 scope pos) 1 it acc env).onRaise (fun x => do noteFrame x env; standAt theWindowsPlace)) _ _ s
  refine wpAny_notedAt ?_
  unfold compStart
  show wpAny _ _ (ask >>= _) _ _ s
  refine wpAny_bind (wpAny_askSetting (wpAny_ite ?_))
  split
  · first | exact wpAny_bind (wpAny_pure (wpAny_pure (And.intro rfl h0))) | exact wpAny_pure (And.intro rfl h0)
  · refine wpAny_bind (wpAny_rule ?_)
    first
      | exact wpAny_bind (wpAny_standAt (wpAny_bind (wpAny_mono h (fun it' s' z => wpAny_pure (And.intro rfl z)) fun _ _ z => z)))
      | (show wpAny _ _ (standAt i1.pos >>= _) _ _ s; exact wpAny_bind (wpAny_standAt (wpAny_bind (wpAny_mono h (fun it' s' z => wpAny_pure (And.intro rfl z)) fun _ _ z => z))))
/-- a walk by the iterator `it` of the list l that H itself tracks -/
def LoopK (K : PySem.W.Frag) (it l : Addr) (g : TG) (tt : TT) (vs : List Nat) (σ : L2.St) (H1 : Hp) (Nx : Hp → Prop) (B : L2.St → Hp → (Hp → Prop) → Prop) : Prop := ∃ (zs : List V) (W : Nat → Hp → Prop), W 0 H1 ∧ ∀ i H, W i H → H it = some (ItO l it i) ∧ SqL K H l zs ∧
  (zs[i]? = none → Nx (upd H it (ItE it i))) ∧ ∀ v, zs[i]? = some v → g v (wipe σ vs) (upd H it (ItO l it (i + 1))) fun σ2 H2 => wipe σ2 vs = wipe σ vs ∧ tt σ2 H2 fun b H3 => if b = true then B σ2 H3 (W (i + 1)) else W (i + 1) H3
section
variable {X : Cx}
theorem clause_trk {s0 : Shared} {H0 : Hp} {scope sc2 : Scope} {ce : Env} {fp0 : List Addr} {P : List (Addr × Obj)} {σ : L2.St} {H : Hp} {s : Shared} {elt : Expr} {gens : List Comprehension} {pos : Pos} {k : Nat} {tk ik : Expr} {fk : List Expr} {acc : Value} {inner : Sem PySem.Fin → Sem PySem.Fin}
    {it l : Addr} {g : TG} {tt : TT} {vs : List Nat} {B : L2.St → Hp → (Hp → Prop) → Prop} {Nx : Hp → Prop} (hc : X.calm = true)
    (hT : compTurn (.ListComp elt gens sc2 pos) k (.ref it) acc ce = clauseTurn (.ListComp elt gens sc2 pos) k tk ik fk (.ref it) acc ce inner)
    (pg : PG (X.blk s0 H0 scope ce fp0) tk g) (pt : PTs (X.blk s0 H0 scope ce fp0) fk tt) (I : Inv (X.blk s0 H0 scope ce fp0) P (wipe σ vs) H s) (L : LoopK X.K it l g tt vs σ H Nx B)
    (hin : ∀ (σ' : L2.St) (H' : Hp) (s' : Shared) (N1 : Hp → Prop), Inv (X.blk s0 H0 scope ce fp0) P σ' H' s' → B σ' H' N1 → ∀ (t : Sem PySem.Fin) (Qf : PySem.Fin → Shared → Prop) (Ef : Value → Shared → Prop),
      (∀ σ'' H'' s'', Inv (X.blk s0 H0 scope ce fp0) P σ'' H'' s'' → σ''.length = σ'.length → (∀ (j : Nat) v, (wipe σ' vs)[j]? = some (some v) → σ''[j]? = some (some v)) → N1 H'' → wpAny (model X.prog X.w) X.A t Qf Ef s'') → wpAny (model X.prog X.w) X.A (inner t) Qf Ef s') :
    codeAny (model X.prog X.w) X.A (.compLoop (.ListComp elt gens sc2 pos) k (.ref it) acc ce) (fun r s' => match r with
      | .ok f => f = .next ∧ ∃ H', Inv (X.blk s0 H0 scope ce fp0) P (wipe σ vs) H' s' ∧ Nx H'
      | .error _ => False) s := by
  obtain ⟨zs, W, w0, turn⟩ := L
  refine clause_loop hT (fun m s' => ∃ i H', m = zs.length - i ∧ Inv (X.blk s0 H0 scope ce fp0) P (wipe σ vs) H' s' ∧ W i H') ?_ zs.length ⟨0, H, rfl, I, w0⟩
  rintro n s1 ⟨i, H1, rfl, I1, w1⟩
  obtain ⟨hit, hsq, hend, step⟩ := turn i H1 w1
  cases hv : zs[i]? with
  | none => exact pynext_end (X := X.blk s0 H0 scope ce fp0) (I1.ok.hd hc) I1 hit hsq hv fun s2 I2 => ⟨rfl, _, I2, hend hv⟩
  | some v =>
    have hlt : i < zs.length := (List.getElem?_eq_some_iff.mp hv).1
    refine pynext_item (X := X.blk s0 H0 scope ce fp0) I1 hit hsq hv fun u s2 ru I2 => ?_
    refine go_of (itO_get I2 upd_same) rfl rfl (by decide) ?_
    refine thnF (pg.run _ s2 (wipe σ vs) _ v u _ I2 ru (step v hv)) fun _ s4 ⟨σ4, H4, I4, hw4, q4⟩ => ?_
    refine thnF (pt.run _ s4 σ4 H4 _ I4 q4) fun b s5 ⟨H5, I5, q5⟩ => ?_
    have fin : ∀ {σ' : L2.St} {s' : Shared} {H' : Hp}, Inv (X.blk s0 H0 scope ce fp0) P σ' H' s' → (wipe σ vs).length = σ'.length → (∀ (j : Nat) v, (wipe σ vs)[j]? = some (some v) → σ'[j]? = some (some v)) → W (i + 1) H' →
        ∃ m, m < zs.length - i ∧ ∃ i H', m = zs.length - i ∧ Inv (X.blk s0 H0 scope ce fp0) P (wipe σ vs) H' s' ∧ W i H' := fun {σ' s' H'} I' hl hk nx => ⟨zs.length - (i + 1), by omega, i + 1, H', rfl, I'.weak hl hk, nx⟩
    have l4 : (wipe σ vs).length = σ4.length := by rw [← hw4, wipe_length]
    have k4 : ∀ (j : Nat) v, (wipe σ vs)[j]? = some (some v) → (wipe σ4 vs)[j]? = some (some v) := fun j v e => by rw [hw4]; exact e
    cases b with
    | false =>
      simp only [Bool.false_eq_true, if_false] at q5 ⊢
      exact fin I5 l4 (fun j v e => (wipe_some (k4 j v e)).1) q5
    | true =>
      simp only [if_true] at q5 ⊢
      exact fun t Qf ht => hin σ4 H5 s5 _ I5 q5 t Qf _ fun σ'' H'' s'' I'' hl hk nx => ht _ (fin I'' (l4.trans hl.symm) (fun j v e => hk j v (k4 j v e)) nx)
variable {C fI : Addr} {fdI : FuncData} {psI : List Str} {n : Nat} {spI : Sp}
theorem pyiter_own {pins : List (Addr × Obj)} {σ : L2.St} {H : Hp} {s : Shared} {a dx : Addr} {fs : List (Str × V)} {Q : Value → Shared → Prop} {E : Value → Shared → Prop} {R : Addr → Addr → Hp → Prop} (hi : PySem.W.findIn X.K (.ref C) "__iter__" = some (some (.ref fI))) (hiF : PySem.W.isFn X.K (.ref fI) = true)
    (FI : FnOk X.prog X.w X.K X.mg X.base CX0 n fI fdI psI spI) (bI : Binds X.K fdI psI []) (hr : Room n X.A) (I : Inv X pins σ H s) (ha : H a = some (.ins C dx fs))
    (hsp : spI [.ref a] H (fun v H1 => ∃ it l, v = .ref it ∧ H1 it = some (ItO l it 0) ∧ R it l H1) E0) (hQ : ∀ it l H1 s', Inv X pins σ H1 s' → H1 it = some (ItO l it 0) → R it l H1 → Q (.ref it) s') : wpAny (model X.prog X.w) X.A (pyIter (.ref a)) Q E s := by
  obtain ⟨mA, J, _⟩ := ins_get I.hok ha
  obtain ⟨od, J, _⟩ := J.look
  obtain ⟨m0, hF⟩ := I.fr
  refine PySem.W.owit_iter hF I.ok.mod.kin J hi hiF ?_
  have hln := FI.len _ _ _ _ hsp
  refine wpAny_call (codeAny_mono (FI.run X.A X.stack s H ⟨[.ref a], []⟩ [.ref a] [.ref a] _ E0 hr I.env0 (by
    have := bI s [.ref a] I.kIn (by simpa using hln)
    simpa using this) (.cons rfl .nil) hsp) fun r s' hq => ?_)
  cases r with
  | error e => exact False.elim hq
  | ok fl =>
    cases fl with
    | next => exact False.elim hq
    | brk => exact False.elim hq
    | cont => exact False.elim hq
    | ret u =>
      obtain ⟨v, H1, I1, rv, it, l, rfl, hit, hR⟩ := I.after hq
      cases (show u = Value.ref it from rv)
      have hT : s'.TypeIs (.ref it) "list_iterator" := ⟨_, itO_get I1 hit, rfl⟩
      show wpAny _ _ _ _ _ _
      exact wpAny_specialOf (name := Str.ofString "__next__") hT slot_listiter_next.lookup (hQ it l H1 s' I1 hit hR)
/-- [elt for t0 in o if .. for t1 in i1 if ..], o an instance whose __iter__ tells a list's iterator -/
def tLcK (K : PySem.W.Frag) (spI : Sp) (te0 : TE) (g : TG) (tt : TT) (wi1 : TI) (g1 : TG) (tt1 : TT) (te : TE) (C : Addr) (vs vs1 : List Nat) : TE := fun σ H Q => te0 σ H fun x H0 => ∃ a dx fs, x = .ref a ∧ H0 a = some (.ins C dx fs) ∧ spI [.ref a] H0 (fun v H1 => ∃ it l, v = .ref it ∧ H1 it = some (ItO l it 0) ∧ ∀ D, H1 D = none →
  LoopK K it l g tt vs σ (upd H1 D (.lst [])) (fun H => Q (.ref D) H) fun σ2 H2 Nx => wi1 σ2 H2 fun J1 H3 => LoopT J1 g1 tt1 vs1 σ2 H3 Nx fun σ4 H6 N2 => te σ4 H6 fun y H7 => ∃ xs, H7 D = some (.lst xs) ∧ xs.length < sizeLine ∧ N2 (upd H7 D (.lst (xs ++ [y])))) E0
theorem pe_lcOwn {elt t0 i0 t1 i1 : Expr} {f0 f1 : List Expr} {scope : Scope} {own : List (Str × Nat)} {vs1 : List Nat} {pos : Pos} {te0 : TE} {wi1 : TI} {g g1 : TG} {tt tt1 : TT} {te : TE} (hc : X.calm = true) (hN : X.N.Nodup) (hIt : PySem.W.findIn X.K (.ref C) "__iter__" = some (some (.ref fI))) (hItF : PySem.W.isFn X.K (.ref fI) = true)
    (FI : FnOk X.prog X.w X.K X.mg X.base CX0 n fI fdI psI spI) (bI : Binds X.K fdI psI []) (hr : Room n X.A) (h0 : PE X i0 te0) (ok : BlkOk X.N X.env.scope scope own) (hv1 : ∀ i ∈ vs1, i ∈ own.map (·.2))
    (hg : ∀ (s : Shared) (H : Hp) (C : Addr) (cl : List (Str × Addr)) (fp : List Addr), PG (X.blk s H scope (compEnvC scope cl C X.env) fp) t0 g) (ht : ∀ (s : Shared) (H : Hp) (C : Addr) (cl : List (Str × Addr)) (fp : List Addr), PTs (X.blk s H scope (compEnvC scope cl C X.env) fp) f0 tt)
    (hi1 : ∀ (s : Shared) (H : Hp) (C : Addr) (cl : List (Str × Addr)) (fp : List Addr), PI (X.blk s H scope (compEnvC scope cl C X.env) fp) t1 i1 wi1) (hg1 : ∀ (s : Shared) (H : Hp) (C : Addr) (cl : List (Str × Addr)) (fp : List Addr), PG (X.blk s H scope (compEnvC scope cl C X.env) fp) t1 g1)
    (ht1 : ∀ (s : Shared) (H : Hp) (C : Addr) (cl : List (Str × Addr)) (fp : List Addr), PTs (X.blk s H scope (compEnvC scope cl C X.env) fp) f1 tt1) (he : ∀ (s : Shared) (H : Hp) (C : Addr) (cl : List (Str × Addr)) (fp : List Addr), PE (X.blk s H scope (compEnvC scope cl C X.env) fp) elt te)
    (hs : ∀ x, foldedSetIterable i0 X.env x = pure x := by intro _; rfl) (hs1 : ∀ env x, foldedSetIterable i1 env x = pure x := by intro _ _; rfl) : PE X (.ListComp elt [⟨t0, i0, f0, 0⟩, ⟨t1, i1, f1, 0⟩] scope pos) (tLcK X.K spI te0 g tt wi1 g1 tt1 te C (own.map (·.2)) vs1) := by
  refine ⟨fun pins s σ H Q I h => ?_⟩
  rw [eval_ListComp]
  have hfree : ∀ y ∈ scope.names, y.2 = .free → ∃ c, X.env.cells.lookup y.1 = some c := fun y hy e => by
    rcases ok.free y hy e with z | z
    · exact I.ok.has _ (.inl z)
    · exact I.ok.has _ (.inr z)
  refine wpAny_comprehension_free (use := none) rfl hs (closure_ok hfree) ok.kind (fun y hy e => by rw [ok.uniq y hy, e]) (thn (h0.run pins s σ H _ I h) fun xv s1 ⟨x, H1, I1, r1, a, dx, fs, ex, ha, hsp⟩ => ?_)
  subst ex
  cases r1
  refine pyiter_own hIt hItF FI bI hr I1 ha hsp fun it l H2 s2 I2 hit q => ?_
  refine wpAny_newObj_type (newEnv_comp ?_) (by show 0 ≤ sizeLine; decide)
  generalize eD : s2.heap.objs.size = D
  have nD : H2 D = none := I2.hok.fresh (Nat.le_of_eq eD)
  have L := q D nD
  generalize es3 : ({ s2 with heap := s2.heap.push { cls := .type "list", data := .seq ([] : List Value).toArray } } : Shared) = s3
  have I3 : Inv X pins σ (upd H2 D (.lst [])) s3 := by
    rw [← es3]
    refine I2.laid (t' := s2.toks) (fun b o z => Heap.get?_push_of_some _ z) (Nat.le_of_eq eD) ⟨Nat.zero_le _, [], 0, .nil, ?_⟩
    rw [← eD]
    exact Heap.get?_push_size _ rfl
  have hit3 : (upd H2 D (.lst [])) it = some (ItO l it 0) := by rw [upd_ne (ne_of_none hit nD)]; exact hit
  have f3 : ∀ b ∈ ([] : List Addr), FpOk X pins (upd H2 D (.lst [])) b ∧ b < s3.heap.objs.size := fun b hb => nomatch hb
  have I4 := block_start I3 ok hN f3
  show codeAny _ _ (.compStart (C2 elt t0 i0 t1 i1 f0 f1 scope pos) 0 (.ref it) (.ref D) (compEnvC scope (cellsFrom (s3.heap.objs.size + 1) scope.names (cloFrom X.env.cells scope.names [])) s3.heap.objs.size X.env)) (compPost (model X.prog X.w) X.A X.xe none _ (.ref D) s3.heap.objs.size) { s3 with heap := pushCells (s3.heap.push { cls := .type "dict", data := .dict #[] }) scope.names }
  have pg := hg s3 (upd H2 D (.lst [])) s3.heap.objs.size (cellsFrom (s3.heap.objs.size + 1) scope.names (cloFrom X.env.cells scope.names [])) []
  have pt := ht s3 (upd H2 D (.lst [])) s3.heap.objs.size (cellsFrom (s3.heap.objs.size + 1) scope.names (cloFrom X.env.cells scope.names [])) []
  have pi1 := hi1 s3 (upd H2 D (.lst [])) s3.heap.objs.size (cellsFrom (s3.heap.objs.size + 1) scope.names (cloFrom X.env.cells scope.names [])) []
  have pg1 := hg1 s3 (upd H2 D (.lst [])) s3.heap.objs.size (cellsFrom (s3.heap.objs.size + 1) scope.names (cloFrom X.env.cells scope.names [])) []
  have pt1 := ht1 s3 (upd H2 D (.lst [])) s3.heap.objs.size (cellsFrom (s3.heap.objs.size + 1) scope.names (cloFrom X.env.cells scope.names [])) []
  have pe := he s3 (upd H2 D (.lst [])) s3.heap.objs.size (cellsFrom (s3.heap.objs.size + 1) scope.names (cloFrom X.env.cells scope.names [])) []
  generalize hce : compEnvC scope (cellsFrom (s3.heap.objs.size + 1) scope.names (cloFrom X.env.cells scope.names [])) s3.heap.objs.size X.env = ce at I4 pg pt pi1 pg1 pt1 pe ⊢
  have cL : ce.locals = s3.heap.objs.size := by subst hce; rfl
  generalize upd H2 D (.lst []) = H3 at I3 I4 pg pt pi1 pg1 pt1 pe L f3 hit3
  generalize es4 : ({ s3 with heap := pushCells (s3.heap.push { cls := .type "dict", data := .dict #[] }) scope.names } : Shared) = s4 at I4 ⊢
  have in1 : ∀ (P' : List (Addr × Obj)) (σ' : L2.St) (H' : Hp) (s' : Shared) (N2 : Hp → Prop), Inv (X.blk s3 H3 scope ce []) P' σ' H' s' → te σ' H' (fun y H7 => ∃ xs, H7 D = some (.lst xs) ∧ xs.length < sizeLine ∧ N2 (upd H7 D (.lst (xs ++ [y])))) → ∀ (t : Sem PySem.Fin) (Qf : PySem.Fin → Shared → Prop) (Ef : Value → Shared → Prop),
      (∀ σ'' H'' s'', Inv (X.blk s3 H3 scope ce []) P' σ'' H'' s'' → σ''.length = σ'.length → (∀ (j : Nat) v, (wipe σ' vs1)[j]? = some (some v) → σ''[j]? = some (some v)) → N2 H'' → wpAny (model X.prog X.w) X.A t Qf Ef s'') → wpAny (model X.prog X.w) X.A (lastThen elt (.ref D) ce t) Qf Ef s' := by
    intro P' σ' H' s' N2 I' hB t Qf Ef kt
    unfold lastThen
    refine wpAny_bind ?_
    unfold lastClause
    refine wpAny_bind (thnF (pe.run _ s' σ' H' _ I' hB) fun v s1 ⟨y, H1, I1, r1, xs, hD1, hz1, nx⟩ => ?_)
    exact wpAny_bind (app_ok (X := X.blk s3 H3 scope ce []) I1 hD1 hz1 r1 fun s2 I2 => wpAny_pure (kt σ' _ s2 I2 rfl (fun j v z => (wipe_some z).1) nx))
  have in0 : ∀ (σ' : L2.St) (H' : Hp) (s' : Shared) (Nx : Hp → Prop), Inv (X.blk s3 H3 scope ce []) [] σ' H' s' → wi1 σ' H' (fun J1 H3 => LoopT J1 g1 tt1 vs1 σ' H3 Nx fun σ4 H6 N2 => te σ4 H6 fun y H7 => ∃ xs, H7 D = some (.lst xs) ∧ xs.length < sizeLine ∧ N2 (upd H7 D (.lst (xs ++ [y])))) →
      ∀ (t : Sem PySem.Fin) (Qf : PySem.Fin → Shared → Prop) (Ef : Value → Shared → Prop), (∀ σ'' H'' s'', Inv (X.blk s3 H3 scope ce []) [] σ'' H'' s'' → σ''.length = σ'.length → (∀ (j : Nat) v, (wipe σ' (own.map (·.2)))[j]? = some (some v) → σ''[j]? = some (some v)) → Nx H'' → wpAny (model X.prog X.w) X.A t Qf Ef s'') →
      wpAny (model X.prog X.w) X.A (nextClause (C2 elt t0 i0 t1 i1 f0 f1 scope pos) 1 i1 (.ref D) ce t) Qf Ef s' := by
    intro σ' H' s' Nx I' hB t Qf Ef kt
    refine next_clause (mid := fun s5 => ∃ H5, Inv (X.blk s3 H3 scope ce []) [] (wipe σ' vs1) H5 s5 ∧ Nx H5) (hs1 ce) (thnF (pi1.run _ s' σ' H' _ I' hB) fun xv s1 hx => thnF hx fun itv s5 h5 => ?_) fun s5 ⟨H5, I5, nx⟩ => kt (wipe σ' vs1) H5 s5 I5 (wipe_length _ _) (fun j v z => wipe_keep hv1 z) nx
    obtain ⟨it2, fp2, tn2, J2, H5, e5, I5, T2, st5, f5, L2⟩ := h5
    subst e5
    have lp := codeAny_mono (clause_inv hc (turn2_1 elt t0 i0 t1 i1 f0 f1 scope pos (.ref it2) (.ref D) ce) pg1 pt1 T2 (I5.weak (wipe_length _ _) fun j v z => (wipe_some z).1) st5 (fun b hb => (f5 b hb).1) (fun hn b hb => ⟨hn b hb, (f5 b hb).2⟩) L2 in1)
      (R' := fun r s' => match r with | .ok _ => ∃ H5, Inv (X.blk s3 H3 scope ce []) [] (wipe σ' vs1) H5 s' ∧ Nx H5 | .error _ => False) fun r s' hr => by
        cases r with
        | ok f => exact hr.2
        | error _ => exact hr
    exact start2_1 lp (T2.self X.A 0 _ _ _ st5 lp)
  have lp0 := clause_trk hc (turn2_0 elt t0 i0 t1 i1 f0 f1 scope pos (.ref it) (.ref D) ce) pg pt I4 L in0
  have lp : codeAny (model X.prog X.w) X.A (.compLoop (C2 elt t0 i0 t1 i1 f0 f1 scope pos) 0 (.ref it) (.ref D) ce) (compPost (model X.prog X.w) X.A X.xe none (fun v s' => ∃ x H', Inv X pins σ H' s' ∧ RelV x v ∧ Q x H') (.ref D) s3.heap.objs.size) s4 := by
    refine codeAny_mono lp0 fun r s6 hr => ?_
    cases r with
    | error _ => exact hr.elim
    | ok f =>
      obtain ⟨rfl, H6, I6, qq⟩ := hr
      have I7 : Inv X pins σ H6 s6 := I3.call' (ch := []) I6.os I6.base I6.hok I6.bare fun b hb => nomatch hb
      have nC : H6 s3.heap.objs.size = none := by
        have z : H6 ce.locals = none := I6.free
        rwa [cL] at z
      obtain ⟨m, hm, _⟩ := I6.loc
      have hm : s6.heap.Ns ce.locals m := hm
      rw [cL] at hm
      obtain ⟨a0, a1, a2, a3, a4, a5⟩ := I3.fpOk (Nat.le_refl _) nC
      exact ⟨m, hm, fun h'' sb => ⟨.ref D, H6, I7.turned (t' := s6.toks) (fun b o hb z => (sb.2 b hb).trans z) a0 a1 a3 a4 a5, rfl, qq⟩⟩
  have stI : s4.heap.IsListIter it l 0 := ⟨_, itO_get I4 hit3, rfl, rfl⟩
  exact codeAny_compStart_list lp (wpAny_pyIter_listiter stI lp)
end
end HG

namespace HG
open PySem PySem.Spec PyProof.Rows L2 HT
open C8 (pss_cut tCut)
theorem fn_or {P : Program} {w : World} {K : PySem.W.Frag} {mg : Str → Option Value} {base : Heap} {CX : CXT} {k : Nat} {f : Addr} {fd : FuncData} {ps : List Str} {sp1 sp2 : Sp} (F1 : FnOk P w K mg base CX k f fd ps sp1) (F2 : FnOk P w K mg base CX k f fd ps sp2) :
    FnOk P w K mg base CX k f fd ps (fun vs H Q E => sp1 vs H Q E ∨ sp2 vs H Q E) :=
  ⟨fun vs H Q E h => h.elim (F1.len vs H Q E) (F2.len vs H Q E), fun A outer s H args us vs Q E hr he hb hv hs => hs.elim (F1.run A outer s H args us vs Q E hr he hb hv) (F2.run A outer s H args us vs Q E hr he hb hv)⟩
/-! ### is_row -/
def JNames (K : PySem.W.Frag) (H : Hp) (x : V) (b : Bool) : Prop :=
  (∃ xs, SeqV K H x xs ∧ (1 ≤ xs.length → xs.length ≤ 4 → ∀ y ∈ xs, ∃ t, AnyV K H y t) ∧ b = namesV xs) ∨ (∃ t, AnyV K H x t ∧ t ≠ .lst ∧ t ≠ .tup ∧ b = false)
def JChange (K : PySem.W.Frag) (H : Hp) (x : V) (b : Bool) : Prop :=
  (∃ xs, SeqV K H x xs ∧ (1 ≤ xs.length → xs.length ≤ 4 → ∀ y ∈ xs, ∃ t, AnyV K H y t) ∧ b = (namesV xs && decide (xs.length = 2))) ∨ (∃ t, AnyV K H x t ∧ t ≠ .lst ∧ t ≠ .tup ∧ b = false)
def JMany (K : PySem.W.Frag) (H : Hp) (z : V) (b : Bool) : Prop :=
  (∃ t, AnyV K H z t ∧ t ≠ .lst ∧ t ≠ .tup ∧ b = false) ∨
  (∃ zs, SeqV K H z zs ∧ zs.length ≤ 100000 ∧ ((200 < zs.length ∧ b = false) ∨ (∃ bs, zs.length ≤ 200 ∧ Paired (JChange K H) zs bs ∧ b = bs.all id)))
def JRow (K : PySem.W.Frag) (H : Hp) (x : V) (b : Bool) : Prop :=
  (∃ t, AnyV K H x t ∧ t ≠ .lst ∧ t ≠ .tup ∧ b = false) ∨ (∃ xs, SeqV K H x xs ∧ xs.length ≠ 2 ∧ b = false) ∨
  (∃ y z, SeqV K H x [y, z] ∧ ((JNames K H y false ∧ b = false) ∨ (JNames K H y true ∧ JMany K H z b)))
theorem JNames.same {K : PySem.W.Frag} {H H' : Hp} {x : V} {b : Bool} (h : JNames K H x b) (s : Same H H') : JNames K H' x b := by
  rcases h with ⟨xs, h1, h2, h3⟩ | ⟨t, h1, h2⟩
  · exact .inl ⟨xs, h1.same s, fun a c y hy => let ⟨t, h⟩ := h2 a c y hy; ⟨t, h.same s⟩, h3⟩
  · exact .inr ⟨t, h1.same s, h2⟩
theorem JChange.same {K : PySem.W.Frag} {H H' : Hp} {x : V} {b : Bool} (h : JChange K H x b) (s : Same H H') : JChange K H' x b := by
  rcases h with ⟨xs, h1, h2, h3⟩ | ⟨t, h1, h2⟩
  · exact .inl ⟨xs, h1.same s, fun a c y hy => let ⟨t, h⟩ := h2 a c y hy; ⟨t, h.same s⟩, h3⟩
  · exact .inr ⟨t, h1.same s, h2⟩
theorem JMany.same {K : PySem.W.Frag} {H H' : Hp} {x : V} {b : Bool} (h : JMany K H x b) (s : Same H H') : JMany K H' x b := by
  rcases h with ⟨t, h1, h2⟩ | ⟨zs, h1, hz, h2 | ⟨bs, h2, h3, h4⟩⟩
  · exact .inl ⟨t, h1.same s, h2⟩
  · exact .inr ⟨zs, h1.same s, hz, .inl h2⟩
  · exact .inr ⟨zs, h1.same s, hz, .inr ⟨bs, h2, paired_imp h3 fun _ _ h => h.same s, h4⟩⟩
theorem JRow.same {K : PySem.W.Frag} {H H' : Hp} {x : V} {b : Bool} (h : JRow K H x b) (s : Same H H') : JRow K H' x b := by
  rcases h with ⟨t, h1, h2⟩ | ⟨xs, h1, h2⟩ | ⟨y, z, h1, h2⟩
  · exact .inl ⟨t, h1.same s, h2⟩
  · exact .inr (.inl ⟨xs, h1.same s, h2⟩)
  · exact .inr (.inr ⟨y, z, h1.same s, h2.imp (fun ⟨a, b⟩ => ⟨a.same s, b⟩) (fun ⟨a, b⟩ => ⟨a.same s, b.same s⟩)⟩)
theorem names_of {K : PySem.W.Frag} {H : Hp} {y : V} {b : Bool} {Q : VK} {E : XK} (h : JNames K H y b) (k : ∀ H', Same H H' → Q (.bl b) H') : spAreNames K [y] H Q E := by
  rcases h with ⟨xs, h1, h2, rfl⟩ | ⟨t, h1, h2, h3, rfl⟩
  · exact ⟨y, rfl, .inl ⟨xs, h1, h2, k⟩⟩
  · exact ⟨y, rfl, .inr ⟨t, h1, h2, h3, k⟩⟩
theorem change_of {K : PySem.W.Frag} {H : Hp} {y : V} {b : Bool} {Q : VK} {E : XK} (h : JChange K H y b) (k : ∀ H', Same H H' → Q (.bl b) H') : spIsChange K [y] H Q E := by
  rcases h with ⟨xs, h1, h2, rfl⟩ | ⟨t, h1, h2, h3, rfl⟩
  · exact ⟨y, rfl, .inl ⟨xs, h1, h2, k⟩⟩
  · exact ⟨y, rfl, .inr ⟨t, h1, h2, h3, k⟩⟩
theorem not_seq {t : Tg} (n1 : t ≠ .lst) (n2 : t ≠ .tup) : (t.isa "list" || t.isa "tuple") = false := by cases t <;> first | rfl | exact absurd rfl n1 | exact absurd rfl n2
/-! ### raise X(v), X with one field -/
def spErr (C : Addr) (f : Str) : Sp := fun vs H Q _ => ∃ (a : Addr) (v : V), vs = [.ref a, v] ∧ H a = some (exo a C none) ∧ ∀ dx, H dx = none → dx ≠ a → Q .non (upd (upd H dx (exd dx [(f, v)])) a (exo a C (some dx)))
/-- an error class of the program: its name, its field -/
structure EK (K : PySem.W.Frag) (mg : Str → Option Value) (x f : Str) (C fI : Addr) (fd : FuncData) : Prop where
  g : mg x = some (.ref C)
  o : OexC K C
  no : PySem.W.findIn K (.ref C) f = some none
  iC : PySem.W.findIn K (.ref C) "__init__" = some (some (.ref fI))
  tI : PySem.W.typeIn K (.ref fI) = some (.type "function")
  c : ErrC K C
  ok : ∀ (P : Program) (w : World) (base : Heap), FnOk P w K mg base CX0 1 fI fd ["self", f] (spErr C f)
  b : Binds K fd ["self", f] []
def tErr (C : Addr) (f : Str) (ta : TA) : L2.St → Hp → XK → Prop := fun σ H Q => ta σ H fun vs H1 => ∃ v, vs = [v] ∧ ∀ d, H1 d = none → Q (.ref C) (some d) (upd H1 d (.xd [(f, v)]))
theorem pa_mono {X : Cx} {es : List Expr} {ta : TA} (h : PA X es ta) : PA X es (fun σ H R => ∃ R0, ta σ H R0 ∧ ∀ vs H1, R0 vs H1 → R vs H1) :=
  ⟨fun pos pins s σ H R I ⟨R0, q, k⟩ => thn (h.run pos pins s σ H R0 I q) fun us s1 ⟨vs, H1, I1, r1, z⟩ => ⟨vs, H1, I1, r1, k vs H1 z⟩⟩
theorem pmk_err {X : Cx} {x f : Str} {C fI : Addr} {fd : FuncData} {e : Expr} {ta : TA} {p pos : Pos} (T : EK X.K X.mg x f C fI fd) (hr : Room 2 X.A) (hg : Gl X x) (ha : PA X [e] ta) (hdb : (x == ("__debug__" : Str)) = false := by decide)
    (he : starEach [e] X.env = (false, eval e X.env) :: starEach [] X.env := by rfl) (hpl : (backTo pos (starEach [] X.env)).any (·.1) = false := by rfl) : PMk X (.Call (.Name x p) [e] [] pos) (tErr C f ta) := by
  intro pins s σ H Q I h
  refine pmk_oex T.o T.iC T.tI (T.ok X.prog X.w X.base) hr T.b .nil pass0 hg T.g (pa_mono ha) hdb he hpl pins s σ H Q I ⟨_, h, ?_⟩
  rintro vs H1 ⟨v, rfl, k⟩
  refine ⟨by show 1 ≤ 1000; decide, fun a na => ⟨a, v, rfl, upd_same, fun dx nd ne => ⟨rfl, dx, [(f, v)], upd_same, ?_, ?_, ?_⟩⟩⟩
  · rw [upd_ne ne, upd_same]
  · rw [upd_ne ne] at nd
    exact nd
  · rw [upd_ne ne] at nd
    have e : upd (del (upd (upd (upd H1 a (exo a C none)) dx (exd dx [(f, v)])) a (exo a C (some dx))) a) dx (.xd [(f, v)]) = upd H1 dx (.xd [(f, v)]) := ?_
    · rw [e]
      exact k dx nd
    funext b
    by_cases hb : b = dx
    · rw [hb, upd_same, upd_same]
    · rw [upd_ne hb, upd_ne hb]
      by_cases ha' : b = a
      · rw [ha', del_same, na]
      · rw [del_ne ha', upd_ne ha', upd_ne hb, upd_ne ha']
theorem names_at {S : List Way} {i : Nat} {q : Way} (h : S[i]? = some q) : (names S)[i]? = some q.1 := by
  unfold names
  rw [List.getElem?_map, h]
  rfl
theorem one_place {S : List Way} (nd : (names S).Nodup) {i j : Nat} {q r : Way} (hi : S[i]? = some q) (hj : S[j]? = some r) (e : r.1 = q.1) : j = i := by
  obtain ⟨h1, e1⟩ := List.getElem?_eq_some_iff.mp (names_at hi)
  obtain ⟨h2, e2⟩ := List.getElem?_eq_some_iff.mp (names_at hj)
  exact (List.getElem_inj nd).mp (e2.trans (e.trans e1.symm))
def Seq2 (H : Hp) (v : V) (xs : List V) : Prop := ∃ a, v = .ref a ∧ (H a = some (.lst xs) ∨ H a = some (.tup xs))
theorem Seq2.seq {K : PySem.W.Frag} {H : Hp} {v : V} {xs : List V} (h : Seq2 H v xs) : SeqV K H v xs := by
  obtain ⟨a, rfl, h | h⟩ := h
  · exact .lst (SqL.of h) (AnyV.lst h)
  · exact .tup (SqT.of h) (AnyV.tup h)
theorem Seq2.same {H H' : Hp} {v : V} {xs : List V} (h : Seq2 H v xs) (s : Same H H') : Seq2 H' v xs := let ⟨a, e, h⟩ := h; ⟨a, e, h.imp (s _ _) (s _ _)⟩
theorem paired_map {α β γ : Type} {R : α → β → Prop} {R' : β → γ → Prop} {f : α → γ} {l : List α} {m : List β} (h : Paired R l m) (k : ∀ a ∈ l, ∀ b, R a b → R' b (f a)) : Paired R' m (l.map f) := by
  induction h with
  | nil => exact .nil
  | cons r _ ih => exact .cons (k _ List.mem_cons_self _ r) (ih fun a ha => k a (List.mem_cons_of_mem _ ha))
section
variable {K : PySem.W.Frag}
theorem tup_of2 {K : PySem.W.Frag} {H : Hp} {y : V} {xs : List V} {Q : VK} (h : Seq2 H y xs) (k : ∀ H' p, Same H H' → H' p = some (.tup xs) → Q (.ref p) H') : rTupOf K [y] H Q := by
  obtain ⟨a, rfl, h | h⟩ := h
  · exact ⟨a, xs, rfl, .inl ⟨SqL.of h, fun l nl => k _ l (same_upd nl) upd_same⟩⟩
  · exact ⟨a, xs, rfl, .inr ⟨SqT.of h, k H a (Same.refl _) h⟩⟩
theorem ix2 {K : PySem.W.Frag} {H : Hp} {v : V} {xs : List V} {j : Nat} {y : V} {Q : VK} (h : Seq2 H v xs) (e : xs[j]? = some y) (q : Q y H) : rIx K v (.int (j : Int)) H Q := by
  obtain ⟨a, rfl, h | h⟩ := h
  · exact rIx_of (.inl (SqL.of h)) e q
  · exact rIx_of (.inr (SqT.of h)) e q
theorem atI_fin {α : Type} {xs : List α} {v : α} {n : Nat} (h : xs.length = n + 1) (e : xs[n]? = some v) : atI xs (-1) = some v := by
  have z : xs = xs.take n ++ [v] := by
    have := List.take_add_one (l := xs) (i := n)
    rw [e, ← h, List.take_length] at this
    exact this
  rw [z]
  exact atI_last _ _
theorem sq_off {K : PySem.W.Frag} {H : Hp} {a b : Addr} {o : HO} {xs : List V} (ne : a ≠ b) : (SqL K (upd H b o) a xs → SqL K H a xs) ∧ (SqT K (upd H b o) a xs → SqT K H a xs) := by
  refine ⟨fun h => ?_, fun h => ?_⟩
  · rcases h with (h | ⟨u, h⟩) | h
    · rw [upd_ne ne] at h
      exact .inl (.inl h)
    · rw [upd_ne ne] at h
      exact .inl (.inr ⟨u, h⟩)
    · exact .inr h
  · rcases h with (h | ⟨u, h⟩) | h
    · rw [upd_ne ne] at h
      exact .inl (.inl h)
    · rw [upd_ne ne] at h
      exact .inl (.inr ⟨u, h⟩)
    · exact .inr h
end
def rReprD (K : PySem.W.Frag) : List V → Hp → VK → Prop := fun vs H Q => ∃ (a : Addr) (d : PyData), vs = [.ref a] ∧ Dp K H (.ref a) d ∧ d.showable = true ∧ d.depth ≤ 30 ∧ d.shown.length ≤ sizeLine ∧ Q (.str d.shown) H
theorem call_reprD {X : Cx} (hgd : X.A.guards = some []) (hu : X.A.units + 64 < cLine) : CallR X (.builtin "repr") (rReprD X.K) := by
  intro pins s σ H vs us Q I r h
  obtain ⟨a, d, rfl, hd, hs, h30, hz, q⟩ := h
  rw [Vals.ref1 r]
  obtain ⟨as, rd⟩ := Dp.reads I d (.ref a) (.ref a) hd rfl
  exact repr_of_reads' rd hs (fun z => by rw [dp_nodict hd] at z; cases z) hgd (by omega) (fun _ _ z => z) (fun h' u tk hk => ⟨.str d.shown, H, I.kept (t' := tk) hk, ⟨u, rfl⟩, q⟩) hz
def rReprB : List V → Hp → VK → Prop := fun vs H Q => ∃ b : Bool, vs = [.bl b] ∧ Q (.str (if b then "True" else "False")) H
theorem call_reprB {X : Cx} : CallR X (.builtin "repr") rReprB := by
  intro pins s σ H vs us Q I r h
  obtain ⟨b, rfl, q⟩ := h
  obtain ⟨u, rfl, ru⟩ := Vals.one r
  obtain rfl : u = Value.bool b := ru
  refine PySem.P.repr_of_bool ⟨.str (if b then "True" else "False"), H, I.tok _, ⟨s.toks, ?_⟩, q⟩
  cases b <;> rfl
theorem dp_two {K : PySem.W.Frag} {H : Hp} {a : Addr} {x y : V} {d e : PyData} (h : H a = some (.tup [x, y])) (hx : Dp K H x d) (hy : Dp K H y e) : Dp K H (.ref a) (.tuple [d, e]) := .tup (SqT.of h) (.cons hx (.cons hy .nil))
theorem sml_two {n m k : Nat} {d e : PyData} (h1 : Sml n k d) (h2 : Sml n k e) : Sml (2 * (n + 1)) (k + 1) (.tuple [d, e]) := sml_tuple (m := 2) (fun x hx => by
  rcases List.mem_cons.mp hx with rfl | hx
  · exact h1
  · rw [List.mem_singleton.mp hx]
    exact h2) (Nat.le_refl 2)
theorem sml_names {st : List Str} (h4 : st.length ≤ 4) (h : ∀ z ∈ st, isNm z = true) : Sml 36 1 (HG.dT st) := sml_tuple (n := 8) (k := 0) (m := 4) (fun d hd => by
  obtain ⟨z, hz, rfl⟩ := List.mem_map.mp hd
  exact sml_str (h z hz)) (by rw [List.length_map]; exact h4)
theorem small_int {j : Nat} (h : j ≤ 1000) : Sml 203 0 (.int (j : Int)) := sml_int (by
  unfold GainOk
  omega)
theorem read_sml {K : PySem.W.Frag} {H : Hp} {a : Addr} {d : PyData} {n k : Nat} {Q : VK} (h : Dp K H (.ref a) d) (s : Sml n k d) (hn : 66 * n + 64 ≤ sizeLine) (hk : k ≤ 30) (q : Q (.str d.shown) H) : rReprD K [.ref a] H Q :=
  ⟨a, d, rfl, h, s.sh, Nat.le_trans s.dp hk, s.fits hn, q⟩
theorem dp_seq2 {K : PySem.W.Frag} {H : Hp} {v : V} {xs : List V} {ds : List PyData} {n k m : Nat} (h : Seq2 H v xs) (t : DpAll K H xs ds) (hs : ∀ d ∈ ds, Sml n k d) (hm : ds.length ≤ m) : ∃ a d, v = .ref a ∧ Dp K H (.ref a) d ∧ Sml (m * (n + 1)) (k + 1) d := by
  obtain ⟨a, rfl, h | h⟩ := h
  · exact ⟨a, _, rfl, .lst (SqL.of h) t, sml_list hs hm⟩
  · exact ⟨a, _, rfl, .tup (SqT.of h) t, sml_tuple hs hm⟩
section
variable {P : Program} {w : World} {K : PySem.W.Frag} {mg : Str → Option Value} {base : Heap} {C fI : Addr} {fd : FuncData}
theorem ok_eNoSquare (F : Fun K "__init__" "NoSquare.__init__" s_NoSquare___init fI fd) (o : OexC K C) (no : PySem.W.findIn K (.ref C) "square" = some none) : FnOk P w K mg base CX0 1 fI fd ["self", "square"] (spErr C "square") := by
  have S : FnScope ["self", "square"] ["self", "square"] (defScope s_NoSquare___init) := ⟨rfl, rfl, rfl, by decide +kernel, rfl, by decide +kernel, by decide +kernel⟩
  refine F.ok S (fun vs H Q E h => ?_) (fun cdv A outer s H vs Q E hr h => ?_)
  · obtain ⟨a, v, rfl, _⟩ := h
    rfl
  · obtain ⟨a, v, rfl, ha, q⟩ := h
    exact ⟨_, pss_one (ps_ost (pv 0) (pv 1)), _, rfl, _, rfl, a, C, rfl, o, no, .inl ⟨ha, q⟩⟩
end
end HG

set_option maxHeartbeats 1000000
namespace HG
open PySem PySem.Spec PyProof.Rows L2 HT
open C8 (pss_cut tCut)
/-! ### squares, as plain functions -/
def sLt (a b : Str) : Bool := decide (a.cps.toList < b.cps.toList)
abbrev Sq := List Str × Str × Str × Str × Str
def upB (S : List Way) (st : List Str) (c : Ch) : Bool := (S.zip st).any fun p => decide (p.1.1 = c.1) && sLt p.2 c.2
def upsOf (S : List Way) (st : List Str) : List Ch := (due S st).filter (upB S st)
def prsOf (zs : List Str) : List (Str × Str) := zs.flatMap fun a => (zs.filter (sLt a)).map fun b => (a, b)
def sqRow (st : List Str) (us : List Ch) (p : Str × Str) (c : Ch) : List Sq := (us.filter fun d => decide (d.1 = p.2)).map fun d => (st, p.1, p.2, c.2, d.2)
def sqsBy (st : List Str) (us : List Ch) (p : Str × Str) : List Sq := (us.filter fun c => decide (c.1 = p.1)).flatMap (sqRow st us p)
def sqsAt (S : List Way) (st : List Str) : List Sq := (prsOf (names S)).flatMap (sqsBy st (upsOf S st))
def sqs (S : List Way) : List Sq := (stds S).flatMap (sqsAt S)
theorem flat_more {α β : Type} {l : List α} {i : Nat} {x : α} (f : α → List β) (h : l[i]? = some x) : (l.take (i + 1)).flatMap f = (l.take i).flatMap f ++ f x := by
  rw [List.take_add_one, h, List.flatMap_append]
  exact congrArg _ (by rw [Option.toList_some, List.flatMap_cons, List.flatMap_nil, List.append_nil])
theorem filt_more {α : Type} {l : List α} {i : Nat} {x : α} (p : α → Bool) (h : l[i]? = some x) : (l.take (i + 1)).filter p = (l.take i).filter p ++ if p x = true then [x] else [] := by
  rw [List.take_add_one, h, List.filter_append]
  refine congrArg _ ?_
  rw [Option.toList_some, List.filter_cons, List.filter_nil]
theorem flat_len {α β : Type} {m : Nat} (f : α → List β) : ∀ {l : List α}, (∀ x ∈ l, (f x).length ≤ m) → (l.flatMap f).length ≤ l.length * m
  | [], _ => Nat.zero_le _
  | x :: l, h => by
    rw [List.flatMap_cons, List.length_append, List.length_cons, Nat.add_mul, Nat.one_mul, Nat.add_comm]
    exact Nat.add_le_add (flat_len f fun y hy => h y (List.mem_cons_of_mem _ hy)) (h x List.mem_cons_self)
def SqAt (H : Hp) (x : Sq) (v : V) : Prop := ∃ p a, v = .ref p ∧ H p = some (.tup [.ref a, .str x.2.1, .str x.2.2.1, .str x.2.2.2.1, .str x.2.2.2.2]) ∧ H a = some (.tup (x.1.map V.str))
theorem SqAt.same {H H' : Hp} {x : Sq} {v : V} (h : SqAt H x v) (s : Same H H') : SqAt H' x v := let ⟨p, a, e, h1, h2⟩ := h; ⟨p, a, e, s _ _ h1, s _ _ h2⟩
theorem SqAt.upd {H : Hp} {x : Sq} {v : V} {D : Addr} {xs : List V} {o : HO} (h : SqAt H x v) (hD : H D = some (.lst xs)) : SqAt (upd H D o) x v := by
  obtain ⟨p, a, e, h1, h2⟩ := h
  refine ⟨p, a, e, ?_, ?_⟩
  · rw [upd_ne (ne_of h1 hD (by intro z; cases z))]
    exact h1
  · rw [upd_ne (ne_of h2 hD (by intro z; cases z))]
    exact h2
theorem upB_at {S : List Way} {st : List Str} {i : Nat} {q : Way} {z v : Str} (nd : (names S).Nodup) (hq : S[i]? = some q) (hz : st[i]? = some z) : upB S st (q.1, v) = sLt z v := by
  unfold upB
  rw [Bool.eq_iff_iff, List.any_eq_true]
  constructor
  · rintro ⟨p, hp, e⟩
    obtain ⟨j, hj⟩ := List.mem_iff_getElem?.mp hp
    rw [List.getElem?_zip_eq_some] at hj
    obtain ⟨e1, e2⟩ := Bool.and_eq_true_iff.mp e
    have := one_place nd hq hj.1 (of_decide_eq_true e1)
    subst this
    rw [Option.some.inj (hz.symm.trans hj.2)]
    exact e2
  · intro e
    exact ⟨(q, z), List.mem_iff_getElem?.mpr ⟨i, List.getElem?_zip_eq_some.mpr ⟨hq, hz⟩⟩, by simpa using e⟩
/-! ### slots that a comprehension wipes -/
theorem wipe_get (σ : L2.St) (j : Nat) : ∀ vs : List Nat, (wipe σ vs)[j]? = if j ∈ vs then (σ[j]?).map (fun _ => none) else σ[j]?
  | [] => by rw [if_neg (List.not_mem_nil)]; rfl
  | v :: vs => by
    show ((wipe σ vs).set v none)[j]? = _
    have ih := wipe_get σ j vs
    have hl : (wipe σ vs).length = σ.length := wipe_length _ _
    by_cases h : v = j
    · subst h
      rw [List.getElem?_set_self', ih, if_pos List.mem_cons_self]
      by_cases hm : v ∈ vs
      · rw [if_pos hm]
        cases σ[v]? <;> rfl
      · rw [if_neg hm]
        cases σ[v]? <;> rfl
    · rw [List.getElem?_set_ne h, ih]
      by_cases hm : j ∈ vs
      · rw [if_pos hm, if_pos (List.mem_cons_of_mem _ hm)]
      · rw [if_neg hm, if_neg fun z => (List.mem_cons.mp z).elim (fun q => h q.symm) hm]
theorem wipe_two {σ : L2.St} {vs : List Nat} {i j : Nat} {x y : Option V} (hi : i ∈ vs) (hj : j ∈ vs) : wipe (((wipe σ vs).set i x).set j y) vs = wipe σ vs := by
  refine List.ext_getElem? fun k => ?_
  rw [wipe_get, wipe_get]
  by_cases hk : k ∈ vs
  · rw [if_pos hk, if_pos hk]
    have l : (((wipe σ vs).set i x).set j y).length = σ.length := by rw [List.length_set, List.length_set, wipe_length]
    by_cases hl : k < σ.length
    · rw [List.getElem?_eq_getElem hl, List.getElem?_eq_getElem (by rw [l]; exact hl)]
      rfl
    · rw [List.getElem?_eq_none (by omega), List.getElem?_eq_none (by omega)]
  · rw [if_neg hk, if_neg hk, List.getElem?_set_ne (fun z => hk (by rw [← z]; exact hj)), List.getElem?_set_ne (fun z => hk (by rw [← z]; exact hi)), wipe_get, if_neg hk]
theorem two_out {σ : L2.St} {vs : List Nat} {i j k : Nat} {x y : Option V} {v : Option V} (h : σ[k]? = some v) (hk : k ∉ vs) (h1 : i ≠ k) (h2 : j ≠ k) : (((wipe σ vs).set i x).set j y)[k]? = some v := by
  rw [List.getElem?_set_ne h2, List.getElem?_set_ne h1, wipe_get, if_neg hk, h]
theorem two_i {σ : L2.St} {vs : List Nat} {i j : Nat} {x y : Option V} (hi : i < σ.length) (h : j ≠ i) : (((wipe σ vs).set i x).set j y)[i]? = some x := by
  rw [List.getElem?_set_ne h, List.getElem?_set_self (by rw [wipe_length]; exact hi)]
theorem two_j {σ : L2.St} {vs : List Nat} {i j : Nat} {x y : Option V} (hj : j < σ.length) : (((wipe σ vs).set i x).set j y)[j]? = some y := List.getElem?_set_self (by rw [List.length_set, wipe_length]; exact hj)
section
variable {K : PySem.W.Frag}
theorem sq_in2 {σ : L2.St} {H H2 : Hp} {U a D : Addr} {us : List V} {st : List Str} {UP : List Ch} {p : Str × Str} {c2 : Str} {acc : List Sq} {Nx : Hp → Prop} (l11 : σ.length = 11) (h1 : σ[1]? = some (some (.ref a))) (h5 : σ[5]? = some (some (.str p.1))) (h6 : σ[6]? = some (some (.str p.2))) (h8 : σ[8]? = some (some (.str c2)))
    (hU : H2 U = some (.lst us)) (hus : Paired (ChAt H2) UP us) (ul : UP.length ≤ 16) (ha : H2 a = some (.tup (st.map V.str))) (nD : H2 D = none) (al : acc.length ≤ 9000) {zs : List V} (hD : H D = some (.lst zs)) (hzs : Paired (SqAt H) acc zs) (s : Same H2 H)
    (hN : ∀ H' zs', H' D = some (.lst zs') → Paired (SqAt H') (acc ++ (UP.filter fun d => decide (d.1 = p.2)).map fun d => (st, p.1, p.2, c2, d.2)) zs' → Same H2 H' → Nx H') :
    LoopT (Itl K U) (gTup K 2 (gCons (gName 9) (gCons (gName 10) gNil))) (tTest (tOp rEq (tVar 9) (tVar 6))) [9, 10] σ H Nx fun σ4 H6 N2 => tTup (tCons (tVar 1) (tCons (tVar 5) (tCons (tVar 6) (tCons (tVar 8) (tCons (tVar 10) tNil))))) σ4 H6 fun y H7 => ∃ xs, H7 D = some (.lst xs) ∧ xs.length < sizeLine ∧ N2 (upd H7 D (.lst (xs ++ [y]))) := by
  have usl : us.length = UP.length := (Paired.length hus).symm
  refine loopT_it (walk_list (K := K) (a := U) (xs := us)) (fun k H' => ∃ zs, H' D = some (.lst zs) ∧ Paired (SqAt H') (acc ++ ((UP.take k).filter fun d => decide (d.1 = p.2)).map fun d => (st, p.1, p.2, c2, d.2)) zs ∧ Same H2 H')
    ⟨zs, hD, by rw [List.take_zero, List.filter_nil, List.map_nil, List.append_nil]; exact hzs, s⟩ (fun k H' _ ⟨_, _, _, sx⟩ => SqL.of (sx _ _ hU)) ?_ ?_
  · rintro k y Hz H5 hk ⟨zs5, hD5, hzs5, s5⟩ ⟨rfl, hy⟩
    obtain ⟨d1, hd1, pd1, rfl, hpd1⟩ := paired_get hus hy
    have fm2 := filt_more (fun d : Ch => decide (d.1 = p.2)) hd1
    refine ⟨pd1, _, rfl, SqT.of (s5 _ _ hpd1), rfl, _, _, rfl, _, _, rfl, rfl, wipe_two (by decide) (by decide), _, two_i (by omega) (by decide), _, two_out h6 (by decide) (by decide) (by decide), rfl, _, rfl, ?_⟩
    rw [show decide (V.str d1.1 = V.str p.2) = decide (d1.1 = p.2) by
      rw [Bool.eq_iff_iff, decide_eq_true_iff, decide_eq_true_iff]
      exact ⟨fun h => V.str.inj h, fun h => by rw [h]⟩]
    cases e2 : decide (d1.1 = p.2) with
    | false =>
      refine iteF ⟨zs5, hD5, ?_, s5⟩
      rw [fm2, e2, if_neg (by decide), List.append_nil]
      exact hzs5
    | true =>
      refine iteT ⟨_, two_out h1 (by decide) (by decide) (by decide), _, two_out h5 (by decide) (by decide) (by decide), _, two_out h6 (by decide) (by decide) (by decide), _, two_out h8 (by decide) (by decide) (by decide), _, two_j (by omega), (by show 5 ≤ sizeLine; decide), fun t nt => ?_⟩
      have st5 := same_upd (o := .tup [V.ref a, V.str p.1, V.str p.2, V.str c2, V.str d1.2]) nt
      have hD6 := st5 _ _ hD5
      have zl : zs5.length ≤ 10000 := by
        rw [← Paired.length hzs5, List.length_append, List.length_map]
        have h1 := List.length_filter_le (fun d : Ch => decide (d.1 = p.2)) (UP.take k)
        have h2 : (UP.take k).length ≤ UP.length := List.length_take_le' ..
        omega
      refine ⟨zs5, hD6, Nat.lt_of_le_of_lt zl (by rw [sizeLine_eq]; decide), zs5 ++ [.ref t], upd_same, ?_, fun b o e' => ?_⟩
      · rw [fm2, e2, if_pos rfl, List.map_append, ← List.append_assoc]
        refine paired_append (paired_imp hzs5 fun x' v' h' => (h'.same st5).upd hD6) (.cons ?_ .nil)
        exact SqAt.upd ⟨t, a, rfl, upd_same, st5 _ _ (s5 _ _ ha)⟩ hD6
      · rw [upd_ne (ne_of_none e' nD)]
        exact st5 _ _ (s5 _ _ e')
  · rintro H5 ⟨zs5, hD5, hzs5, s5⟩
    rw [usl, List.take_length] at hzs5
    exact hN H5 zs5 hD5 hzs5 s5
theorem sq_in1 {σ : L2.St} {H H2 : Hp} {U a D : Addr} {us : List V} {st : List Str} {UP : List Ch} {p : Str × Str} {acc : List Sq} {Nx : Hp → Prop} (l11 : σ.length = 11) (h1 : σ[1]? = some (some (.ref a))) (h2 : σ[2]? = some (some (.ref U))) (h5 : σ[5]? = some (some (.str p.1))) (h6 : σ[6]? = some (some (.str p.2)))
    (hU : H2 U = some (.lst us)) (hus : Paired (ChAt H2) UP us) (ul : UP.length ≤ 16) (ha : H2 a = some (.tup (st.map V.str))) (nD : H2 D = none) (al : acc.length ≤ 5000) {zs : List V} (hD : H D = some (.lst zs)) (hzs : Paired (SqAt H) acc zs) (s : Same H2 H)
    (hN : ∀ H' zs', H' D = some (.lst zs') → Paired (SqAt H') (acc ++ sqsBy st UP p) zs' → Same H2 H' → Nx H') :
    LoopT (Itl K U) (gTup K 2 (gCons (gName 7) (gCons (gName 8) gNil))) (tTest (tOp rEq (tVar 7) (tVar 5))) [7, 8, 9, 10] σ H Nx fun σ3 H4 N1 => iList K (tVar 2) σ3 H4 fun J2 H5 => LoopT J2 (gTup K 2 (gCons (gName 9) (gCons (gName 10) gNil))) (tTest (tOp rEq (tVar 9) (tVar 6))) [9, 10] σ3 H5 N1 fun σ4 H6 N2 =>
      tTup (tCons (tVar 1) (tCons (tVar 5) (tCons (tVar 6) (tCons (tVar 8) (tCons (tVar 10) tNil))))) σ4 H6 fun y H7 => ∃ xs, H7 D = some (.lst xs) ∧ xs.length < sizeLine ∧ N2 (upd H7 D (.lst (xs ++ [y]))) := by
  have usl : us.length = UP.length := (Paired.length hus).symm
  have rowl : ∀ c, (sqRow st UP p c).length ≤ 16 := fun c => by
    unfold sqRow
    rw [List.length_map]
    exact Nat.le_trans (List.length_filter_le _ _) ul
  refine loopT_it (walk_list (K := K) (a := U) (xs := us)) (fun j H' => ∃ zs, H' D = some (.lst zs) ∧ Paired (SqAt H') (acc ++ ((UP.take j).filter fun c => decide (c.1 = p.1)).flatMap (sqRow st UP p)) zs ∧ Same H2 H')
    ⟨zs, hD, by rw [List.take_zero, List.filter_nil, List.flatMap_nil, List.append_nil]; exact hzs, s⟩ (fun j H' _ ⟨_, _, _, sx⟩ => SqL.of (sx _ _ hU)) ?_ ?_
  · rintro j y Hz H4 hj ⟨zs4, hD4, hzs4, s4⟩ ⟨rfl, hy⟩
    obtain ⟨c1, hc1, pc1, rfl, hpc1⟩ := paired_get hus hy
    have fm := filt_more (fun c : Ch => decide (c.1 = p.1)) hc1
    refine ⟨pc1, _, rfl, SqT.of (s4 _ _ hpc1), rfl, _, _, rfl, _, _, rfl, rfl, wipe_two (by decide) (by decide), _, two_i (by omega) (by decide), _, two_out h5 (by decide) (by decide) (by decide), rfl, _, rfl, ?_⟩
    rw [show decide (V.str c1.1 = V.str p.1) = decide (c1.1 = p.1) by
      rw [Bool.eq_iff_iff, decide_eq_true_iff, decide_eq_true_iff]
      exact ⟨fun h => V.str.inj h, fun h => by rw [h]⟩]
    cases e : decide (c1.1 = p.1) with
    | false =>
      refine iteF ⟨zs4, hD4, ?_, s4⟩
      rw [fm, e, if_neg (by decide), List.append_nil]
      exact hzs4
    | true =>
      have bl : (((UP.take j).filter fun c => decide (c.1 = p.1)).flatMap (sqRow st UP p)).length ≤ 16 * 16 := Nat.le_trans (flat_len (m := 16) _ fun c _ => rowl c) (Nat.mul_le_mul_right 16 (Nat.le_trans (List.length_filter_le _ _) (Nat.le_trans (List.length_take_le' ..) ul)))
      refine iteT ⟨_, two_out h2 (by decide) (by decide) (by decide), U, rfl, ⟨_, SqL.of (s4 _ _ hU)⟩, ?_⟩
      refine sq_in2 (by rw [List.length_set, List.length_set, wipe_length]; exact l11) (two_out h1 (by decide) (by decide) (by decide)) (two_out h5 (by decide) (by decide) (by decide)) (two_out h6 (by decide) (by decide) (by decide)) (two_j (by omega)) hU hus ul ha nD (by rw [List.length_append]; omega) hD4 hzs4 s4 fun H' zs' hD' hzs' s' => ⟨zs', hD', ?_, s'⟩
      rw [fm, e, if_pos rfl, List.flatMap_append, List.flatMap_cons, List.flatMap_nil, List.append_nil, ← List.append_assoc]
      exact hzs'
  · rintro H4 ⟨zs4, hD4, hzs4, s4⟩
    rw [usl, List.take_length] at hzs4
    exact hN H4 zs4 hD4 hzs4 s4
end
def spSqAt (K : PySem.W.Frag) (C : Addr) : Sp := fun args H Q _ => ∃ (g a : Addr) (st : List Str) (N : Addr → Prop) (S : List Way) (γ : List Str → List Int), args = [.ref g, .ref a] ∧ IsG K C N H g S γ ∧ SOk S ∧ H a = some (.tup (st.map V.str)) ∧ st ∈ stds S ∧
  ∀ H' p vs, Same H H' → H p = none → H' p = some (.lst vs) → Paired (SqAt H') (sqsAt S st) vs → Q (.ref p) H'
abbrev NsSA : List Str := ["game", "standing", "upward", "pairs", "change", "one", "other", "chooser", "first", "partner", "second"]
def rGtS : R2 := fun x y H Q => ∃ i j, x = .str i ∧ y = .str j ∧ Q (.bl (decide (j.cps.toList < i.cps.toList))) H
def rLtS : R2 := fun x y H Q => ∃ i j, x = .str i ∧ y = .str j ∧ Q (.bl (decide (i.cps.toList < j.cps.toList))) H
structure GmT (K : PySem.W.Frag) (mg : Str → Option Value) (C : Addr) (fCg fS fI fC fH fT fCs : Addr) (dCg dS dI dC dH dT dCs : FuncData) : Prop where
  cg : Mt K C "changes" "Game.changes" s_Game_changes ["self", "standing"] fCg dCg
  st : MtStand K C fS dS
  inn : MtIn K C fI dI
  can : MtCan K C fC dC
  has : MtHas K C fH dH
  seat : MtSeat K C fT dT
  cs : Mt K C "choosers" "Game.choosers" s_Game_choosers ["self"] fCs dCs
section
variable {P : Program} {w : World} {K : PySem.W.Frag} {mg : Str → Option Value} {base : Heap} {C : Addr}
variable {fShape fNames fName fSorted fStds fTable fInts fInt fOne fPut : Addr} {dShape dNames dName dSorted dStds dTable dInts dInt dOne dPut : FuncData}
variable {fCh fCg fS fI fC fH fT fCs : Addr} {dCh dCg dS dI dC dH dT dCs : FuncData}
theorem ok_squares_at {f : Addr} {fd : FuncData} (G : GD K mg fShape fNames fName fSorted fStds fTable fInts fInt fOne fPut dShape dNames dName dSorted dStds dTable dInts dInt dOne dPut) (GH : GDC K mg fCh dCh) (c : GC K C) (M : GmT K mg C fCg fS fI fC fH fT fCs dCg dS dI dC dH dT dCs)
    (D : Df K mg "squares_at" s_squares_at f fd) : FnOk P w K mg base CX0 6 f fd ["game", "standing"] (spSqAt K C) := by
  have S : FnScope NsSA ["game", "standing"] (defScope s_squares_at) := ⟨rfl, rfl, rfl, by decide +kernel, rfl, by decide +kernel, by decide +kernel⟩
  have nd := S.nd
  refine D.F.ok S (fun vs H Q E h => ?_) (fun cdv A outer s H vs Q E hr h => ?_)
  · obtain ⟨g, a, st, N, S, γ, rfl, _⟩ := h
    rfl
  · obtain ⟨g, a, st, N, S, γ, rfl, hg, ok, ha, hst, q⟩ := h
    have hu := hu_of hr
    have oCg := ok_changes (P := P) (w := w) (base := base) G GH c M.cg M.st M.inn M.can M.has M.seat
    have oSt := ok_seat (P := P) (w := w) (base := base) G.T c M.seat
    have oCs := ok_choosers (P := P) (w := w) (base := base) G.T c M.cs
    refine ⟨_, pss_cut (ps_set (i := 2) nd rfl (Or.inr rfl) (pe_lc (own := [("change", 4)]) (g := gName 4) rfl nd (pi_list (pe_meth (pv 0) c.cl M.cg.me oCg (hr.mono (by decide)) M.cg.b .nil pass0 (pa_cons (pv 1) pa_nil))) (blkOk_by (N := NsSA) (sc := defScope s_squares_at) (by decide +kernel)) (fun _ _ _ _ _ => pg_name (i := 4) nd rfl (Or.inl rfl))
          (fun _ _ _ _ _ => pts_one (pt_cmpR (r := rGtS) op_gt_str (pe_ix (r := rIxT K) ix_tup (pv 4) pe_int (fun _ _ => rfl)) (pe_ix (r := rIxT K) ix_tup (pv 1) (pe_meth (pv 0) c.cl M.seat.me oSt (hr.mono (by decide)) M.seat.b .nil pass0 (pa_cons (pe_ix (r := rIxT K) ix_tup (pv 4) pe_int (fun _ _ => rfl)) pa_nil)) (fun _ _ => rfl)) (nomark _))) (fun _ _ _ _ _ => pv 4)))
      (pss_cut (ps_setLc2 (i := 3) (own := [("one", 5), ("other", 6)]) (vs1 := [6]) (g := gName 5) (g1 := gName 6) (tt := tYes) (wi1 := iList K (tMeth C "choosers" (spChoosers K C) [] E0 (tVar 0) tNil)) rfl nd rfl rfl (sw_true rfl rfl rfl (by decide +kernel)) (pi_list (pe_meth0 (pv 0) c.cl M.cs.me oCs (hr.mono (by decide)) M.cs.b .nil pass0)) (blkOk_by (N := NsSA) (sc := defScope s_squares_at) (by decide +kernel)) (by decide)
          (fun _ _ _ _ _ => pg_name (i := 5) nd rfl (Or.inl rfl)) (fun _ _ _ _ _ => pts_nil) (fun _ _ _ _ _ => pi_list (pe_meth0 (pv 0) c.cl M.cs.me oCs (hr.mono (by decide)) M.cs.b .nil pass0)) (fun _ _ _ _ _ => pg_name (i := 6) nd rfl (Or.inl rfl))
          (fun _ _ _ _ _ => pts_one (pt_cmpR (r := rLtS) op_lt_str (pv 5) (pv 6) (nomark _))) (fun _ _ _ _ _ => pe_tup (pa_cons (pv 5) (pa_cons (pv 6) pa_nil))))
      (pss_one (ps_ret (pe_lc3 (own := [("one", 5), ("other", 6), ("chooser", 7), ("first", 8), ("partner", 9), ("second", 10)]) (vs1 := [7, 8, 9, 10]) (vs2 := [9, 10]) (tt := tYes) (wi1 := iList K (tVar 2)) (wi2 := iList K (tVar 2)) (g := gTup K 2 (gCons (gName 5) (gCons (gName 6) gNil))) (g1 := gTup K 2 (gCons (gName 7) (gCons (gName 8) gNil))) (g2 := gTup K 2 (gCons (gName 9) (gCons (gName 10) gNil))) rfl nd (pi_list (pv 3)) (blkOk_by (N := NsSA) (sc := defScope s_squares_at) (by decide +kernel)) (by decide) (by decide)
          (fun _ _ _ _ _ => pg_tup rfl (pgs_cons (pg_name (i := 5) nd rfl (Or.inl rfl)) (pgs_cons (pg_name (i := 6) nd rfl (Or.inl rfl)) pgs_nil))) (fun _ _ _ _ _ => pts_nil)
          (fun _ _ _ _ _ => pi_list (pv 2)) (fun _ _ _ _ _ => pg_tup rfl (pgs_cons (pg_name (i := 7) nd rfl (Or.inl rfl)) (pgs_cons (pg_name (i := 8) nd rfl (Or.inl rfl)) pgs_nil))) (fun _ _ _ _ _ => pts_one (pt_cmpR (r := rEq) op_eq (pv 7) (pv 5) (nomark _)))
          (fun _ _ _ _ _ => pi_list (pv 2)) (fun _ _ _ _ _ => pg_tup rfl (pgs_cons (pg_name (i := 9) nd rfl (Or.inl rfl)) (pgs_cons (pg_name (i := 10) nd rfl (Or.inl rfl)) pgs_nil))) (fun _ _ _ _ _ => pts_one (pt_cmpR (r := rEq) op_eq (pv 9) (pv 6) (nomark _)))
          (fun _ _ _ _ _ => pe_tup (pa_cons (pv 1) (pa_cons (pv 5) (pa_cons (pv 6) (pa_cons (pv 8) (pa_cons (pv 10) pa_nil)))))))))), ?_⟩
    obtain ⟨dx, wa, l, ta, vs0, kvs, hG⟩ := id hg
    refine ⟨fun σ H' => ∃ (U : Addr) (us : List V) (v3 v4 v5 v6 v7 v8 v9 v10 : Option V), σ = [some (.ref g), some (.ref a), some (.ref U), v3, v4, v5, v6, v7, v8, v9, v10] ∧ Same H H' ∧ H' U = some (.lst us) ∧ Paired (ChAt H') (upsOf S st) us, ?_, ?_⟩
    · refine ⟨_, rfl, g, dx, _, rfl, hG.hg, rfl, _, rfl, g, a, st, N, S, γ, rfl, hg, ok, ha, hst, fun H1 p es s1 np hp hes => ⟨p, rfl, ⟨_, SqL.of hp⟩, fun D nD => ?_⟩⟩
      have sD := same_upd (o := .lst []) nD
      have hsl : (due S st).length = es.length := Paired.length hes
      have few : es.length ≤ 16 := by
        rw [← hsl]
        exact due_len ok st
      refine lc_it (walk_list (K := K) (a := p) (xs := es)) (fun m H' => ∃ zs, H' D = some (.lst zs) ∧ Paired (ChAt H') (((due S st).take m).filter (upB S st)) zs ∧ Same H1 H') ⟨[], upd_same, .nil, sD⟩ (fun m H' _ ⟨_, _, _, sx⟩ => SqL.of (sx _ _ hp)) ?_ ?_
      · rintro m y Hz H2 hm ⟨zs, hD, hzs, s2⟩ ⟨rfl, hy⟩
        obtain ⟨ch, hch, pc, rfl, hpc⟩ := paired_get hes hy
        have hcm : ch ∈ due S st := List.mem_of_getElem? hch
        obtain ⟨qw, hqm, e1, hv⟩ := mem_chs.mp (List.mem_filter.mp hcm).1
        obtain ⟨i, hi⟩ := List.mem_iff_getElem?.mp hqm
        have hil : i < st.length := by rw [stds_mem hst]; exact (List.getElem?_eq_some_iff.mp hi).1
        have hz : st[i]? = some (st[i]'hil) := List.getElem?_eq_getElem hil
        have s12 := s1.trans s2
        have zl : zs.length ≤ 16 := by
          rw [← Paired.length hzs]
          refine Nat.le_trans (List.length_filter_le _ _) ?_
          rw [List.length_take]
          omega
        have tk : (due S st).take (m + 1) = (due S st).take m ++ [ch] := by
          rw [List.take_add_one, hch]
          rfl
        have hub : upB S st ch = sLt (st[i]'hil) ch.2 := by
          have := upB_at (v := ch.2) ok.nd hi hz
          rwa [e1] at this
        refine ⟨rfl, _, rfl, pc, _, 1, .str ch.2, rfl, rfl, SqT.of (s2 _ _ hpc), rfl, _, rfl, _, rfl, g, dx, _, rfl, s12 _ _ hG.hg, rfl, _, rfl, pc, _, 0, .str ch.1, rfl, rfl, SqT.of (s2 _ _ hpc), rfl, g, ch.1, i, N, S, γ, rfl, hg.same s12, ok.nd, by rw [names_at hi, e1], fun H3 s3 => ?_⟩
        refine ⟨a, _, i, .str (st[i]'hil), rfl, rfl, SqT.of ((s12.trans s3) _ _ ha), atI_nat (by rw [List.getElem?_map, hz]; rfl), _, _, rfl, rfl, _, rfl, ?_⟩
        rw [show decide ((st[i]'hil).cps.toList < ch.2.cps.toList) = sLt (st[i]'hil) ch.2 from rfl, ← hub]
        have hD3 := s3 _ _ hD
        cases eu : upB S st ch with
        | false =>
          refine iteF ⟨zs, hD3, ?_, s2.trans s3⟩
          rw [tk, List.filter_append, List.filter_cons, eu, if_neg (by decide), List.filter_nil, List.append_nil]
          exact paired_imp hzs fun _ _ h => h.same s3
        | true =>
          refine iteT ⟨_, rfl, zs, hD3, small1000 (by omega), zs ++ [.ref pc], upd_same, ?_, fun b o e => ?_⟩
          · rw [tk, List.filter_append, List.filter_cons, eu, if_pos rfl, List.filter_nil]
            refine paired_append (paired_imp hzs fun c' v' ⟨p', e', h'⟩ => ⟨p', e', ?_⟩) (.cons ⟨pc, rfl, ?_⟩ .nil)
            · have h2 := s3 _ _ h'
              rw [upd_ne (ne_of h2 hD3 (by intro z; cases z))]
              exact h2
            · have h2 := s3 _ _ (s2 _ _ hpc)
              rw [upd_ne (ne_of h2 hD3 (by intro z; cases z))]
              exact h2
          · rw [upd_ne (ne_of_none e nD)]
            exact s3 _ _ (s2 _ _ e)
      · rintro H2 ⟨zs, hD, hzs, s2⟩
        rw [← hsl, List.take_length] at hzs
        exact ⟨D, zs, _, _, _, _, _, _, _, _, rfl, s1.trans s2, hD, hzs⟩
    rintro σ H1 ⟨U, us, v3, v4, v5, v6, v7, v8, v9, v10, rfl, s1, hU, hus⟩
    have n4 : (names S).length ≤ 4 := by
      unfold names
      rw [List.length_map]
      exact ok.n4
    have ul : (upsOf S st).length ≤ 16 := Nat.le_trans (List.length_filter_le _ _) (due_len ok st)
    have hg1 := hg.same s1
    have ha1 := s1 _ _ ha
    refine ⟨fun σ H' => ∃ (R : Addr) (ps : List V) (v4 v5 v6 v7 v8 v9 v10 : Option V), σ = [some (.ref g), some (.ref a), some (.ref U), some (.ref R), v4, v5, v6, v7, v8, v9, v10] ∧ Same H1 H' ∧ H' R = some (.lst ps) ∧ Paired (ChAt H') (prsOf (names S)) ps, ?_, ?_⟩
    · refine ⟨_, rfl, g, dx, _, rfl, s1 _ _ hG.hg, rfl, g, N, S, γ, rfl, hg1, fun p np => ⟨p, rfl, ⟨_, SqL.of upd_same⟩, fun D nD => ?_⟩⟩
      have s2 := same_upd (o := .lst ((names S).map V.str)) np
      have hp := upd_same (H := H1) (a := p) (o := .lst ((names S).map V.str))
      generalize (upd H1 p (.lst ((names S).map V.str))) = H2 at s2 hp nD
      have sD := same_upd (o := .lst []) nD
      refine loopT_it (walk_list (K := K) (a := p) (xs := (names S).map V.str)) (fun i H' => ∃ zs, H' D = some (.lst zs) ∧ Paired (ChAt H') (((names S).take i).flatMap fun x => ((names S).filter (sLt x)).map fun y => (x, y)) zs ∧ Same H2 H') ⟨[], upd_same, .nil, sD⟩ (fun i H' _ ⟨_, _, _, sx⟩ => SqL.of (sx _ _ hp)) ?_ ?_
      · rintro i y Hz H3 hi ⟨zs, hD, hzs, s3⟩ ⟨rfl, hy⟩
        rw [List.getElem?_map] at hy
        obtain ⟨x, hx, rfl⟩ := Option.map_eq_some_iff.mp hy
        have s13 := s2.trans s3
        refine ⟨rfl, _, rfl, g, dx, _, rfl, (s1.trans s13) _ _ hG.hg, rfl, g, N, S, γ, rfl, hg1.same s13, fun p2 np2 => ⟨p2, rfl, ⟨_, SqL.of upd_same⟩, ?_⟩⟩
        have s4 := same_upd (o := .lst ((names S).map V.str)) np2
        have hp2 := upd_same (H := H3) (a := p2) (o := .lst ((names S).map V.str))
        have hD4 := s4 _ _ hD
        have hzs4 : Paired (ChAt (upd H3 p2 (.lst ((names S).map V.str)))) (((names S).take i).flatMap fun x => ((names S).filter (sLt x)).map fun y => (x, y)) zs := paired_imp hzs fun _ _ h => h.same s4
        have p2D : p2 ≠ D := fun z => by
          rw [z, hD] at np2
          cases np2
        generalize (upd H3 p2 (.lst ((names S).map V.str))) = H4 at s4 hp2 hD4 hzs4
        have pl : (((names S).take i).flatMap fun x => ((names S).filter (sLt x)).map fun y => (x, y)).length ≤ 4 * 4 := by
          refine Nat.le_trans (flat_len (m := 4) _ fun x _ => ?_) (Nat.mul_le_mul_right 4 (Nat.le_trans (List.length_take_le' ..) n4))
          rw [List.length_map]
          exact Nat.le_trans (List.length_filter_le _ _) n4
        refine loopT_it (walk_list (K := K) (a := p2) (xs := (names S).map V.str)) (fun j H' => ∃ zs, H' D = some (.lst zs) ∧ Paired (ChAt H') ((((names S).take i).flatMap fun x => ((names S).filter (sLt x)).map fun y => (x, y)) ++ (((names S).take j).filter (sLt x)).map fun y => (x, y)) zs ∧ Same H2 H' ∧ H' p2 = some (.lst ((names S).map V.str)))
          ⟨zs, hD4, by rw [List.take_zero, List.filter_nil, List.map_nil, List.append_nil]; exact hzs4, s3.trans s4, hp2⟩ (fun j H' _ ⟨_, _, _, _, hq⟩ => SqL.of hq) ?_ ?_
        · rintro j y Hz H5 hj ⟨zs, hD5, hzs5, s5, hp5⟩ ⟨rfl, hy⟩
          rw [List.getElem?_map] at hy
          obtain ⟨z, hz, rfl⟩ := Option.map_eq_some_iff.mp hy
          refine ⟨rfl, _, rfl, _, rfl, _, _, rfl, rfl, _, rfl, ?_⟩
          rw [show decide (x.cps.toList < z.cps.toList) = sLt x z from rfl]
          have fm := filt_more (sLt x) hz
          cases e : sLt x z with
          | false =>
            refine iteF ⟨zs, hD5, ?_, s5, hp5⟩
            rw [fm, e, if_neg (by decide), List.append_nil]
            exact hzs5
          | true =>
            refine iteT ⟨_, rfl, _, rfl, (by show 2 ≤ sizeLine; decide), fun t nt => ?_⟩
            have st5 := same_upd (o := .tup [V.str x, V.str z]) nt
            have hD6 := st5 _ _ hD5
            have zl : zs.length ≤ 20 := by
              rw [← Paired.length hzs5, List.length_append, List.length_map]
              have h1 := List.length_filter_le (sLt x) ((names S).take j)
              have h2 : ((names S).take j).length ≤ (names S).length := List.length_take_le' ..
              omega
            refine ⟨zs, hD6, small1000 (by omega), zs ++ [.ref t], upd_same, ?_, fun b o e' => ?_, ?_⟩
            · rw [fm, e, if_pos rfl, List.map_append, ← List.append_assoc]
              refine paired_append (paired_imp hzs5 fun c' v' ⟨p', e', h'⟩ => ⟨p', e', ?_⟩) (.cons ⟨t, rfl, ?_⟩ .nil)
              · have h2 := st5 _ _ h'
                rw [upd_ne (ne_of h2 hD6 (by intro z; cases z))]
                exact h2
              · rw [upd_ne (ne_of upd_same hD6 (by intro z; cases z))]
                exact upd_same
            · rw [upd_ne (ne_of_none e' nD)]
              exact st5 _ _ (s5 _ _ e')
            · rw [upd_ne p2D]
              exact st5 _ _ hp5
        · rintro H5 ⟨zs, hD5, hzs5, s5, _⟩
          rw [List.length_map, List.take_length] at hzs5
          exact ⟨zs, hD5, by rw [flat_more _ hx]; exact hzs5, s5⟩
      · rintro H3 ⟨zs, hD, hzs, s3⟩
        rw [List.length_map, List.take_length] at hzs
        exact ⟨D, zs, _, _, _, _, _, _, _, rfl, s2.trans s3, hD, hzs⟩
    clear v3 v4 v5 v6 v7 v8 v9 v10
    rintro σ H2 ⟨R, ps, v4, v5, v6, v7, v8, v9, v10, rfl, s2, hR, hps⟩
    have s02 := s1.trans s2
    have hU2 := s2 _ _ hU
    have hus2 : Paired (ChAt H2) (upsOf S st) us := paired_imp hus fun _ _ h => h.same s2
    have ha2 := s02 _ _ ha
    have usl : us.length = (upsOf S st).length := (Paired.length hus).symm
    refine ⟨_, rfl, R, rfl, ⟨_, SqL.of hR⟩, fun D nD => ?_⟩
    have sD := same_upd (o := .lst []) nD
    have rowl : ∀ p c, (sqRow st (upsOf S st) p c).length ≤ 16 := fun p c => by
      unfold sqRow
      rw [List.length_map]
      exact Nat.le_trans (List.length_filter_le _ _) ul
    have byl : ∀ p, (sqsBy st (upsOf S st) p).length ≤ 16 * 16 := fun p => Nat.le_trans (flat_len (m := 16) _ fun c _ => rowl p c) (Nat.mul_le_mul_right 16 (Nat.le_trans (List.length_filter_le _ _) ul))
    have prl : (prsOf (names S)).length ≤ 4 * 4 := by
      refine Nat.le_trans (flat_len (m := 4) _ fun x _ => ?_) (Nat.mul_le_mul_right 4 n4)
      rw [List.length_map]
      exact Nat.le_trans (List.length_filter_le _ _) n4
    refine loopT_it (walk_list (K := K) (a := R) (xs := ps)) (fun i H' => ∃ zs, H' D = some (.lst zs) ∧ Paired (SqAt H') (((prsOf (names S)).take i).flatMap (sqsBy st (upsOf S st))) zs ∧ Same H2 H') ⟨[], upd_same, .nil, sD⟩ (fun i H' _ ⟨_, _, _, sx⟩ => SqL.of (sx _ _ hR)) ?_ ?_
    · rintro i y Hz H3 hi ⟨zs, hD, hzs, s3⟩ ⟨rfl, hy⟩
      obtain ⟨p, hp, pp, rfl, hpp⟩ := paired_get hps hy
      have al : (((prsOf (names S)).take i).flatMap (sqsBy st (upsOf S st))).length ≤ 16 * (16 * 16) := Nat.le_trans (flat_len (m := 16 * 16) _ fun x _ => byl x) (Nat.mul_le_mul_right _ (Nat.le_trans (List.length_take_le' ..) prl))
      refine ⟨pp, _, rfl, SqT.of (s3 _ _ hpp), rfl, _, _, rfl, _, _, rfl, rfl, wipe_two (by decide) (by decide), _, two_out (σ := [some (.ref g), some (.ref a), some (.ref U), some (.ref R), v4, v5, v6, v7, v8, v9, v10]) rfl (by decide) (by decide) (by decide), U, rfl, ⟨_, SqL.of (s3 _ _ hU2)⟩, ?_⟩
      exact sq_in1 (by rw [List.length_set, List.length_set, wipe_length]; rfl) (two_out (σ := [some (.ref g), some (.ref a), some (.ref U), some (.ref R), v4, v5, v6, v7, v8, v9, v10]) rfl (by decide) (by decide) (by decide)) (two_out (σ := [some (.ref g), some (.ref a), some (.ref U), some (.ref R), v4, v5, v6, v7, v8, v9, v10]) rfl (by decide) (by decide) (by decide)) (two_i (by show 5 < 11; decide) (by decide)) (two_j (by show 6 < 11; decide)) hU2 hus2 ul ha2 nD (by omega) hD hzs s3
        fun H' zs' hD' hzs' s' => ⟨zs', hD', by rw [flat_more _ hp]; exact hzs', s'⟩
    · rintro H3 ⟨zs, hD, hzs, s3⟩
      rw [← Paired.length hps, List.take_length] at hzs
      exact q H3 D zs (s02.trans s3) (s02.free nD) hD hzs
end
end HG

set_option maxHeartbeats 1000000
namespace HG
open PySem PySem.Spec PyProof.Rows L2 HT
open C8 (pss_cut tCut)
theorem sqat_updX {H : Hp} {x : Sq} {v : V} {D : Addr} {o0 o : HO} (h : SqAt H x v) (hD : H D = some o0) (hk : ∀ xs, o0 ≠ .tup xs) : SqAt (upd H D o) x v := by
  obtain ⟨p, a, e, h1, h2⟩ := h
  refine ⟨p, a, e, ?_, ?_⟩
  · rw [upd_ne fun z => hk _ (by rw [z, hD] at h1; exact Option.some.inj h1)]
    exact h1
  · rw [upd_ne fun z => hk _ (by rw [z, hD] at h2; exact Option.some.inj h2)]
    exact h2
theorem itO_tup {l it : Addr} {i : Nat} {xs : List V} : ItO l it i ≠ .tup xs := fun z => by cases z
def spSquares (K : PySem.W.Frag) (C : Addr) : Sp := fun args H Q _ => ∃ (g : Addr) (N : Addr → Prop) (S : List Way) (γ : List Str → List Int), args = [.ref g] ∧ IsG K C N H g S γ ∧ SOk S ∧
  ∀ H' p vs, Same H H' → H p = none → H' p = some (.lst vs) → Paired (SqAt H') (sqs S) vs → Q (.ref p) H'
theorem sqsAt_len {S : List Way} (ok : SOk S) (st : List Str) : (sqsAt S st).length ≤ 4096 := by
  have n4 : (names S).length ≤ 4 := by
    unfold names
    rw [List.length_map]
    exact ok.n4
  have ul : (upsOf S st).length ≤ 16 := Nat.le_trans (List.length_filter_le _ _) (due_len ok st)
  have rowl : ∀ p c, (sqRow st (upsOf S st) p c).length ≤ 16 := fun p c => by
    unfold sqRow
    rw [List.length_map]
    exact Nat.le_trans (List.length_filter_le _ _) ul
  have byl : ∀ p, (sqsBy st (upsOf S st) p).length ≤ 16 * 16 := fun p => Nat.le_trans (flat_len (m := 16) _ fun c _ => rowl p c) (Nat.mul_le_mul_right 16 (Nat.le_trans (List.length_filter_le _ _) ul))
  have prl : (prsOf (names S)).length ≤ 4 * 4 := by
    refine Nat.le_trans (flat_len (m := 4) _ fun x _ => ?_) (Nat.mul_le_mul_right 4 n4)
    rw [List.length_map]
    exact Nat.le_trans (List.length_filter_le _ _) n4
  exact Nat.le_trans (flat_len (m := 16 * 16) _ fun x _ => byl x) (Nat.mul_le_mul_right _ prl)
abbrev NsSq : List Str := ["game", "standing", "square"]
section
variable {P : Program} {w : World} {K : PySem.W.Frag} {mg : Str → Option Value} {base : Heap} {C : Addr}
theorem ok_squares {f fA fI : Addr} {fd dA dI : FuncData} (mi : mg "iter" = none) (c : GC K C) (MI : MtIter K C fI dI) (DA : Df K mg "squares_at" s_squares_at fA dA) (bA : Binds K dA ["game", "standing"] []) (oA : FnOk P w K mg base CX0 6 fA dA ["game", "standing"] (spSqAt K C))
    (D : Df K mg "squares" s_squares f fd) : FnOk P w K mg base CX0 7 f fd ["game"] (spSquares K C) := by
  have S : FnScope NsSq ["game"] (defScope s_squares) := ⟨rfl, rfl, rfl, by decide +kernel, rfl, by decide +kernel, by decide +kernel⟩
  have nd := S.nd
  refine D.F.ok S (fun vs H Q E h => ?_) (fun cdv A outer s H vs Q E hr h => ?_)
  · obtain ⟨g, N, S, γ, rfl, _⟩ := h
    rfl
  · obtain ⟨g, N, S, γ, rfl, hg, ok, q⟩ := h
    have oI := ok_iter (P := P) (w := w) (base := base) mi c MI
    refine ⟨_, pss_one (ps_ret (pe_lcOwn (C := C) (own := [("standing", 1), ("square", 2)]) (vs1 := [2]) (g := gName 1) (g1 := gName 2) (tt := tYes) (tt1 := tYes) (wi1 := iList K (tCall (spSqAt K C) [] E0 (tCons (tVar 0) (tCons (tVar 1) tNil)))) rfl nd MI.me.at_ MI.me.fn oI MI.b (hr.mono (by decide)) (pv 0) (blkOk_by (N := NsSq) (sc := defScope s_squares) (by decide +kernel)) (by decide)
        (fun _ _ _ _ _ => pg_name (i := 1) nd rfl (Or.inl rfl)) (fun _ _ _ _ _ => pts_nil) (fun _ _ _ _ _ => pi_list (pe_call oA hr (by rfl) DA.g DA.F.kp bA .nil pass0 (pa_cons (pv 0) (pa_cons (pv 1) pa_nil)))) (fun _ _ _ _ _ => pg_name (i := 2) nd rfl (Or.inl rfl)) (fun _ _ _ _ _ => pts_nil) (fun _ _ _ _ _ => pv 2))), ?_⟩
    obtain ⟨dx, wa, l0, ta, vs0, kvs, hG⟩ := id hg
    refine ⟨_, rfl, g, dx, _, rfl, hG.hg, g, N, S, γ, rfl, hg, fun it l vs nit hl nl hts => ⟨it, l, rfl, upd_same, fun D nD => ?_⟩⟩
    have si := same_upd (o := ItO l it 0) nit
    have sD := same_upd (o := .lst []) nD
    have Dit : D ≠ it := fun z => by
      rw [z, upd_same] at nD
      cases nD
    have nD0 : H D = none := si.free nD
    have al : ∀ i, (((stds S).take i).flatMap (sqsAt S)).length ≤ 256 * 4096 := fun i => Nat.le_trans (flat_len (m := 4096) _ fun x _ => sqsAt_len ok x) (Nat.mul_le_mul_right _ (Nat.le_trans (List.length_take_le' ..) ok.few))
    refine ⟨vs, fun i H' => H' it = some (ItO l it i) ∧ i ≤ vs.length ∧ Same H H' ∧ ∃ zs, H' D = some (.lst zs) ∧ Paired (SqAt H') (((stds S).take i).flatMap (sqsAt S)) zs, ⟨by rw [upd_ne (Ne.symm Dit)]; exact upd_same, Nat.zero_le _, si.trans sD, [], upd_same, .nil⟩, ?_⟩
    rintro i H1 ⟨hit, hil, s1, zs, hD, hzs⟩
    refine ⟨hit, SqL.of (s1 _ _ hl), fun hn => ?_, fun v hv => ?_⟩
    · have e : i = vs.length := by
        rw [List.getElem?_eq_none_iff] at hn
        omega
      rw [e, ← Paired.length hts, List.take_length] at hzs
      refine q _ D zs (fun b o z => ?_) nD0 (by rw [upd_ne Dit]; exact hD) (paired_imp hzs fun _ _ h => sqat_updX h hit fun _ => itO_tup)
      rw [upd_ne fun y => by rw [y, nit] at z; cases z]
      exact s1 _ _ z
    · obtain ⟨st, hst, a, rfl, ha⟩ := paired_get hts hv
      have hlt : i < vs.length := (List.getElem?_eq_some_iff.mp hv).1
      have s2 : Same H (upd H1 it (ItO l it (i + 1))) := fun b o z => by
        rw [upd_ne fun y => by rw [y, nit] at z; cases z]
        exact s1 _ _ z
      have hit2 : (upd H1 it (ItO l it (i + 1))) it = some (ItO l it (i + 1)) := upd_same
      have hD2 : (upd H1 it (ItO l it (i + 1))) D = some (.lst zs) := by rw [upd_ne Dit]; exact hD
      have hzs2 : Paired (SqAt (upd H1 it (ItO l it (i + 1)))) (((stds S).take i).flatMap (sqsAt S)) zs := paired_imp hzs fun _ _ h => sqat_updX h hit fun _ => itO_tup
      generalize (upd H1 it (ItO l it (i + 1))) = H2 at s2 hit2 hD2 hzs2
      refine ⟨rfl, _, rfl, _, rfl, g, a, st, N, S, γ, rfl, hg.same s2, ok, s2 _ _ ha, List.mem_of_getElem? hst, fun H3 p es s3 np hp hes => ⟨p, rfl, ⟨_, SqL.of hp⟩, ?_⟩⟩
      have hD3 := s3 _ _ hD2
      have pD : p ≠ D := fun z => by
        rw [z, hD2] at np
        cases np
      have pit : p ≠ it := fun z => by
        rw [z, hit2] at np
        cases np
      refine loopT_it (walk_list (K := K) (a := p) (xs := es)) (fun j H' => H' it = some (ItO l it (i + 1)) ∧ Same H H' ∧ H' p = some (.lst es) ∧ Paired (SqAt H') (sqsAt S st) es ∧ ∃ zs, H' D = some (.lst zs) ∧ Paired (SqAt H') (((stds S).take i).flatMap (sqsAt S) ++ (sqsAt S st).take j) zs)
        ⟨s3 _ _ hit2, s2.trans s3, hp, hes, zs, hD3, by rw [List.take_zero, List.append_nil]; exact paired_imp hzs2 fun _ _ h => h.same s3⟩ (fun j H' _ ⟨_, _, hq, _⟩ => SqL.of hq) ?_ ?_
      · rintro j y Hz H4 hj ⟨hit4, s4, hp4, hes4, zs4, hD4, hzs4⟩ ⟨rfl, hy⟩
        obtain ⟨x, hx, hsq⟩ := paired_get hes4 hy
        have zl : zs4.length ≤ 257 * 4096 := by
          rw [← Paired.length hzs4, List.length_append]
          have h1 := al i
          have h2 : ((sqsAt S st).take j).length ≤ (sqsAt S st).length := List.length_take_le' ..
          have h3 := sqsAt_len ok st
          omega
        refine ⟨rfl, _, rfl, zs4, hD4, Nat.lt_of_le_of_lt zl (by rw [sizeLine_eq]; decide), by rw [upd_ne (Ne.symm Dit)]; exact hit4, fun b o z => ?_, by rw [upd_ne pD]; exact hp4, paired_imp hes4 fun _ _ h => h.upd hD4, zs4 ++ [y], upd_same, ?_⟩
        · rw [upd_ne fun y => by rw [y, nD0] at z; cases z]
          exact s4 _ _ z
        · rw [List.take_add_one, hx, Option.toList_some, ← List.append_assoc]
          exact paired_append (paired_imp hzs4 fun _ _ h => h.upd hD4) (.cons (hsq.upd hD4) .nil)
      · rintro H4 ⟨hit4, s4, _, _, zs4, hD4, hzs4⟩
        rw [← Paired.length hes, List.take_length] at hzs4
        exact ⟨hit4, hlt, s4, zs4, hD4, by rw [flat_more _ hst]; exact hzs4⟩
end
end HG

set_option maxHeartbeats 2000000
namespace HG
open PySem PySem.Spec PyProof.Rows L2 HT
open C8 (pss_cut tCut)
def upN (S : List Way) (st : List Str) (c : Ch) : Bool := (S.zip st).any fun p => decide (p.1.1 = c.1) && (decide (c.2 ∈ p.1.2) && sLt p.2 c.2)
theorem upN_at {S : List Way} {st : List Str} {i : Nat} {q : Way} {z v : Str} (nd : (names S).Nodup) (hq : S[i]? = some q) (hz : st[i]? = some z) : upN S st (q.1, v) = (decide (v ∈ q.2) && sLt z v) := by
  unfold upN
  rw [Bool.eq_iff_iff, List.any_eq_true]
  constructor
  · rintro ⟨p, hp, e⟩
    obtain ⟨j, hj⟩ := List.mem_iff_getElem?.mp hp
    rw [List.getElem?_zip_eq_some] at hj
    obtain ⟨e1, e2⟩ := Bool.and_eq_true_iff.mp e
    have := one_place nd hq hj.1 (of_decide_eq_true e1)
    subst this
    rw [Option.some.inj (hz.symm.trans hj.2), Option.some.inj (hq.symm.trans hj.1)]
    exact e2
  · intro e
    exact ⟨(q, z), List.mem_iff_getElem?.mpr ⟨i, List.getElem?_zip_eq_some.mpr ⟨hq, hz⟩⟩, by simpa using e⟩
theorem upN_no {S : List Way} {st : List Str} {c : Ch} (h : c.1 ∉ names S) : upN S st c = false := by
  unfold upN
  rw [List.any_eq_false]
  intro p hp
  have hne : p.1.1 ≠ c.1 := fun e => h (by rw [← e]; exact List.mem_map.mpr ⟨p.1, (List.of_mem_zip hp).1, rfl⟩)
  rw [decide_eq_false hne]
  simp
def sqB (S : List Way) (x : Sq) : Bool := decide (x.1 ∈ stds S) && (sLt x.2.1 x.2.2.1 && (upN S x.1 (x.2.1, x.2.2.2.1) && upN S x.1 (x.2.2.1, x.2.2.2.2)))
def spUpward (K : PySem.W.Frag) (C : Addr) : Sp := fun args H Q _ => ∃ (g : Addr) (x : V) (ch wy : Str) (st : List Str) (N : Addr → Prop) (S : List Way) (γ : List Str → List Int), args = [.ref g, x, .str ch, .str wy] ∧ IsG K C N H g S γ ∧ SOk S ∧ Seq2 H x (st.map V.str) ∧ st.length = S.length ∧ isNm ch = true ∧ isNm wy = true ∧
  ∀ H', Same H H' → Q (.bl (upN S st (ch, wy))) H'
/-- a value of five parts, or another one, and whether it is a square -/
def JSq (K : PySem.W.Frag) (S : List Way) (H : Hp) (x : V) (b : Bool) : Prop :=
  (∃ t, AnyV K H x t ∧ t ≠ .lst ∧ t ≠ .tup ∧ b = false) ∨ (∃ xs, SeqV K H x xs ∧ xs.length ≠ 5 ∧ b = false) ∨ (∃ y zs, Seq2 H x (y :: zs) ∧ zs.length = 4 ∧ JNames K H y false ∧ b = false) ∨
  (∃ y zs, Seq2 H x (y :: zs) ∧ zs.length = 4 ∧ JNames K H y true ∧ (∀ z ∈ zs, ∃ t, AnyV K H z t) ∧ zs.all nameV = false ∧ b = false) ∨
  (∃ y st z1 z2 z3 z4, Seq2 H x [y, .str z1, .str z2, .str z3, .str z4] ∧ Seq2 H y (st.map V.str) ∧ (∀ z ∈ st, isNm z = true) ∧ 1 ≤ st.length ∧ st.length ≤ 4 ∧ (∀ z ∈ [z1, z2, z3, z4], isNm z = true) ∧ b = sqB S (st, z1, z2, z3, z4))
theorem JSq.same {K : PySem.W.Frag} {S : List Way} {H H' : Hp} {x : V} {b : Bool} (h : JSq K S H x b) (s : Same H H') : JSq K S H' x b := by
  rcases h with ⟨t, h1, h2⟩ | ⟨xs, h1, h2⟩ | ⟨y, zs, h1, h2, h3, h4⟩ | ⟨y, zs, h1, h2, h3, h4, h5⟩ | ⟨y, st, z1, z2, z3, z4, h1, h2, h3⟩
  · exact .inl ⟨t, h1.same s, h2⟩
  · exact .inr (.inl ⟨xs, h1.same s, h2⟩)
  · exact .inr (.inr (.inl ⟨y, zs, h1.same s, h2, h3.same s, h4⟩))
  · exact .inr (.inr (.inr (.inl ⟨y, zs, h1.same s, h2, h3.same s, fun z hz => let ⟨t, q⟩ := h4 z hz; ⟨t, q.same s⟩, h5⟩)))
  · exact .inr (.inr (.inr (.inr ⟨y, st, z1, z2, z3, z4, h1.same s, h2.same s, h3⟩)))
abbrev NsIS : List Str := ["game", "thing", "standing", "one", "other", "first", "second", "item"]
def spIsSq (K : PySem.W.Frag) (C : Addr) : Sp := fun args H Q _ => ∃ (g : Addr) (x : V) (b : Bool) (N : Addr → Prop) (S : List Way) (γ : List Str → List Int), args = [.ref g, x] ∧ IsG K C N H g S γ ∧ SOk S ∧ JSq K S H x b ∧ ∀ H', Same H H' → Q (.bl b) H'
theorem inG_not' {S : List Way} {st : List Str} (h : st ∉ stds S) : inG S (st.map V.str) = false := by
  unfold inG
  rw [decide_eq_false, Bool.and_false]
  intro hm
  obtain ⟨s', hs, e⟩ := List.mem_map.mp hm
  have : s' = st := List.map_inj_right (fun x y e => V.str.inj e) |>.mp e
  exact h (this ▸ hs)
theorem all_read {K : PySem.W.Frag} {σ : L2.St} {H : Hp} {Q : VK} {x y : V} {zs : List V} (h1 : σ[1]? = some (some x)) (hx : Seq2 H x (y :: zs)) (hz : zs.length ≤ 99) (hall : ∀ z ∈ zs, ∃ t, AnyV K H z t) (h7 : 7 < σ.length) (k : ∀ H', Same H H' → Q (.bl (zs.all nameV)) H') :
    tCB (rAll K) (tCons (tLc (fun σ H R => iList K (tSl (rSlL K) (tVar 1) (tPart (tC (.int 1))) tNoPart) σ H R ∨ iTup K (tSl rSlB (tVar 1) (tPart (tC (.int 1))) tNoPart) σ H R) (gName 7) tYes (tCall (spIsName K) [] E0 (tCons (tVar 7) tNil)) [7]) tNil) σ H Q := by
  have h7' : ∀ v : V, ((wipe σ [7]).set 7 (some v))[7]? = some (some v) := fun v => List.getElem?_set_self (by rw [wipe_length]; exact h7)
  have hw : ∀ v : V, wipe ((wipe σ [7]).set 7 (some v)) [7] = wipe σ [7] := fun v => by
    have := wipe_two (σ := σ) (vs := [7]) (i := 7) (j := 7) (x := some v) (y := some v) (by decide) (by decide)
    rwa [List.set_set] at this
  have fin : ∀ {H2 : Hp} {D : Addr}, Same H H2 → H2 D = some (.lst (zs.map fun z => V.bl (nameV z))) → rAll K [V.ref D] H2 Q := fun s hD => by
    refine ⟨_, zs.map nameV, rfl, SqL.of (by rw [List.map_map]; exact hD), ?_⟩
    rw [List.all_map]
    exact k _ s
  obtain ⟨a, rfl, h | h⟩ := hx
  · refine .inl ⟨_, h1, 1, rfl, a, _, rfl, SqL.of h, fun p np => ⟨p, rfl, ⟨_, SqL.of upd_same⟩, fun D nD => ?_⟩⟩
    have ec : cutV (y :: zs) (some 1) none = zs := cut_from (y :: zs) 1
    rw [ec] at nD ⊢
    have s1 := same_upd (o := .lst zs) np
    have hp := upd_same (H := H) (a := p) (o := .lst zs)
    generalize (upd H p (.lst zs)) = H1 at s1 hp nD
    have sD := same_upd (o := .lst []) nD
    refine lc_it (walk_list (K := K) (a := p) (xs := zs)) (fun i H' => H' D = some (.lst ((zs.take i).map fun z => V.bl (nameV z))) ∧ Same H1 H') ⟨upd_same, sD⟩ (fun i H' _ ⟨_, sx⟩ => SqL.of (sx _ _ hp)) ?_ ?_
    · rintro i z Hz H2 hi ⟨hD, s2⟩ ⟨rfl, hy⟩
      obtain ⟨t, ht⟩ := hall z (List.mem_of_getElem? hy)
      refine ⟨hw z, _, h7' z, z, t, rfl, ht.same (s1.trans s2), _, hD, small1000 (by rw [List.length_map, List.length_take]; omega), ?_, fun b o e => ?_⟩
      · rw [upd_same, List.take_add_one, hy, List.map_append]
        rfl
      · rw [upd_ne (ne_of_none e nD)]
        exact s2 _ _ e
    · rintro H2 ⟨hD, s2⟩
      rw [List.take_length] at hD
      show rAll K [V.ref D] H2 Q
      exact fin (s1.trans s2) hD
  · refine .inr ⟨_, h1, 1, rfl, a, _, rfl, h, fun H1 p s1 hp => ⟨p, rfl, ⟨_, SqT.of hp⟩, fun D nD => ?_⟩⟩
    have ec : cutV (y :: zs) (some 1) none = zs := cut_from (y :: zs) 1
    rw [ec] at hp
    have sD := same_upd (o := .lst []) nD
    refine lc_it (walk_tup (K := K) (a := p) (xs := zs)) (fun i H' => H' D = some (.lst ((zs.take i).map fun z => V.bl (nameV z))) ∧ Same H1 H') ⟨upd_same, sD⟩ (fun i H' _ ⟨_, sx⟩ => SqT.of (sx _ _ hp)) ?_ ?_
    · rintro i z Hz H2 hi ⟨hD, s2⟩ ⟨rfl, hy⟩
      obtain ⟨t, ht⟩ := hall z (List.mem_of_getElem? hy)
      refine ⟨hw z, _, h7' z, z, t, rfl, ht.same (s1.trans s2), _, hD, small1000 (by rw [List.length_map, List.length_take]; omega), ?_, fun b o e => ?_⟩
      · rw [upd_same, List.take_add_one, hy, List.map_append]
        rfl
      · rw [upd_ne (ne_of_none e nD)]
        exact s2 _ _ e
    · rintro H2 ⟨hD, s2⟩
      rw [List.take_length] at hD
      show rAll K [V.ref D] H2 Q
      exact fin (s1.trans s2) hD
section
variable {P : Program} {w : World} {K : PySem.W.Frag} {mg : Str → Option Value} {base : Heap} {C : Addr}
variable {fShape fNames fName fSorted fStds fTable fInts fInt fOne fPut : Addr} {dShape dNames dName dSorted dStds dTable dInts dInt dOne dPut : FuncData}
theorem ok_upward {f fH fW fK fT : Addr} {fd dH dW dK dT : FuncData} (G : GD K mg fShape fNames fName fSorted fStds fTable fInts fInt fOne fPut dShape dNames dName dSorted dStds dTable dInts dInt dOne dPut) (c : GC K C) (MH : MtHas K C fH dH) (MW : Mt K C "ways" "Game.ways" s_Game_ways ["self", "chooser"] fW dW) (MK : MtCheck K C fK dK) (MT : MtSeat K C fT dT)
    (D : Df K mg "is_upward" s_is_upward f fd) : FnOk P w K mg base CX0 5 f fd ["game", "standing", "chooser", "way"] (spUpward K C) := by
  have S : FnScope ["game", "standing", "chooser", "way"] ["game", "standing", "chooser", "way"] (defScope s_is_upward) := ⟨rfl, rfl, rfl, by decide +kernel, rfl, by decide +kernel, by decide +kernel⟩
  have nd := S.nd
  refine D.F.ok S (fun vs H Q E h => ?_) (fun cdv A outer s H vs Q E hr h => ?_)
  · obtain ⟨g, x, ch, wy, st, N, S, γ, rfl, _⟩ := h
    rfl
  · obtain ⟨g, x, ch, wy, st, N, S, γ, rfl, hg, ok, hx, hl, n1, n2, q⟩ := h
    have oH := ok_has_chooser (P := P) (w := w) (base := base) G c MH
    have oW := ok_ways (P := P) (w := w) (base := base) G c MW MK MH
    have oT := ok_seat (P := P) (w := w) (base := base) G.T c MT
    refine ⟨_, pss_cons (ps_if (pt_not (pt_val (pe_meth (pv 0) c.cl MH.me oH (hr.mono (by decide)) MH.b .nil pass0 (pa_cons (pv 2) pa_nil)))) (pss_one (ps_ret pe_bl)) pss_nil)
      (pss_one (ps_ret (pe_and (pe_cmpR op_in_seq (pv 3) (pe_meth (pv 0) c.cl MW.me oW (hr.mono (by decide)) MW.b .nil pass0 (pa_cons (pv 2) pa_nil)) (by rfl)) (pe_one (pe_cmpR op_gt_str (pv 3) (pe_ix ix_seq (pv 1) (pe_meth (pv 0) c.cl MT.me oT (hr.mono (by decide)) MT.b .nil pass0 (pa_cons (pv 2) pa_nil)) (fun _ _ => rfl)) (nomark _)))))), ?_⟩
    obtain ⟨dx, wa, l, ta, vs, kvs, hG⟩ := id hg
    refine ⟨_, rfl, g, dx, _, rfl, hG.hg, rfl, _, rfl, g, .str ch, .str, N, S, γ, rfl, hg, nm_any n1, ?_⟩
    rw [show hasCh S (.str ch) = decide (ch ∈ names S) by
      show (isNm ch && decide (ch ∈ names S)) = _
      rw [n1, Bool.true_and]]
    by_cases hm : ch ∈ names S
    · obtain ⟨i, hi⟩ := List.mem_iff_getElem?.mp hm
      have hi' := hi
      unfold names at hi'
      rw [List.getElem?_map] at hi'
      obtain ⟨qw, hq, e⟩ := Option.map_eq_some_iff.mp hi'
      have e' : qw.1 = ch := e
      subst e'
      have hil : i < st.length := by rw [hl]; exact (List.getElem?_eq_some_iff.mp hq).1
      have hz : st[i]? = some (st[i]'hil) := List.getElem?_eq_getElem hil
      rw [decide_eq_true hm]
      refine ⟨_, rfl, iteF ⟨_, rfl, _, rfl, g, dx, _, rfl, hG.hg, rfl, _, rfl, g, qw, N, S, γ, rfl, hg, ok, List.mem_of_getElem? hq, fun p np => ⟨p, _, rfl, .inl (SqL.of upd_same), rfl, flat_strs _, ?_⟩⟩⟩
      have s1 := same_upd (o := .lst (qw.2.map V.str)) np
      rw [if_neg (by decide), inV_strs]
      refine ⟨_, rfl, ?_⟩
      have q1 := q _ s1
      rw [upN_at ok.nd hq hz] at q1
      cases e2 : decide (wy ∈ qw.2) with
      | false =>
        rw [e2, Bool.false_and] at q1
        exact iteF q1
      | true =>
        rw [e2, Bool.true_and] at q1
        refine iteT ⟨_, rfl, _, rfl, _, rfl, g, dx, _, rfl, s1 _ _ hG.hg, rfl, _, rfl, g, qw.1, i, N, S, γ, rfl, hg.same s1, ok.nd, hi, fun H2 s2 => ?_⟩
        refine ix2 (j := i) (y := .str (st[i]'hil)) ((hx.same s1).same s2) (by rw [List.getElem?_map, hz]; rfl) ⟨_, _, rfl, rfl, ?_⟩
        have q2 := q _ (s1.trans s2)
        rw [upN_at ok.nd hq hz, e2, Bool.true_and] at q2
        exact q2
    · rw [decide_eq_false hm]
      refine ⟨_, rfl, iteT ?_⟩
      have q1 := q H (Same.refl _)
      rw [upN_no (c := (ch, wy)) hm] at q1
      exact q1
theorem ok_is_square {f fU fI : Addr} {fd dU dI : FuncData} (G : GD K mg fShape fNames fName fSorted fStds fTable fInts fInt fOne fPut dShape dNames dName dSorted dStds dTable dInts dInt dOne dPut) (c : GC K C) (MI : MtIn K C fI dI) (DU : Df K mg "is_upward" s_is_upward fU dU) (bU : Binds K dU ["game", "standing", "chooser", "way"] [])
    (oU : FnOk P w K mg base CX0 5 fU dU ["game", "standing", "chooser", "way"] (spUpward K C)) (D : Df K mg "is_square" s_is_square f fd) : FnOk P w K mg base CX0 6 f fd ["game", "thing"] (spIsSq K C) := by
  have S : FnScope NsIS ["game", "thing"] (defScope s_is_square) := ⟨rfl, rfl, rfl, by decide +kernel, rfl, by decide +kernel, by decide +kernel⟩
  have nd := S.nd
  have T := G.T
  refine D.F.ok S (fun vs H Q E h => ?_) (fun cdv A outer s H vs Q E hr h => ?_)
  · obtain ⟨g, x, b, N, S, γ, rfl, _⟩ := h
    rfl
  · obtain ⟨g, x, b, N, S, γ, rfl, hg, ok, hJ, q⟩ := h
    have oI := ok_in (P := P) (w := w) (base := base) G c MI
    refine ⟨_, pss_cons (ps_if (PW.pt (pw_or (pt_not (pt_val (pe_callB call_isiLT (by rfl) T.m_isinstance (by decide +kernel) (pa_cons (pv 1) (pa_cons (pe_tup (pa_cons (pe_bltn (v := .ty "tuple") (by rfl) T.m_tuple (by decide +kernel) rfl) (pa_cons (pe_bltn (v := .ty "list") (by rfl) T.m_list (by decide +kernel) rfl) pa_nil))) pa_nil)))))
        (pw_or1 (pt_cmpR op_ne (pe_callB call_len_seq (by rfl) T.m_len PySem.boot_len (pa_cons (pv 1) pa_nil)) pe_int (nomark _))))) (pss_one (ps_ret pe_bl)) pss_nil)
      (pss_cons (ps_if (PW.pt (pw_or (pt_not (pt_val (pe_call (ok_are_names G.names G.name G.bName T) (hr.mono (by decide)) (by rfl) G.names.g G.names.F.kp G.bNames .nil pass0 (pa_cons (pe_ix ix_seq (pv 1) pe_int (fun _ _ => rfl)) pa_nil))))
        (pw_or1 (pt_not (pt_val (pe_callB (cr_all rfl) (by rfl) T.m_all (by decide +kernel) (pa_cons (pe_lc (own := [("item", 7)]) (g := gName 7) (tt := tYes) rfl nd (pi_or (pi_list (pe_slice sl_list (pv 1) (po_some pe_int) po_none)) (pi_tup (pe_slice sl_tupB (pv 1) (po_some pe_int) po_none))) (blkOk_by (N := NsIS) (sc := defScope s_is_square) (by decide +kernel)) (fun _ _ _ _ _ => pg_name (i := 7) nd rfl (Or.inl rfl)) (fun _ _ _ _ _ => pts_nil)
          (fun _ _ _ _ _ => pe_call (ok_is_name (P := P) (w := w) (base := base) G.name T) (hr.mono (by decide)) (by rfl) G.name.g G.name.F.kp G.bName .nil pass0 (pa_cons (pv 7) pa_nil))) pa_nil))))))) (pss_one (ps_ret pe_bl)) pss_nil)
      (pss_cons (ps_asg (pv 1) (pg_seq rfl (pgs_cons (pg_name (i := 2) nd rfl (Or.inl rfl)) (pgs_cons (pg_name (i := 3) nd rfl (Or.inl rfl)) (pgs_cons (pg_name (i := 4) nd rfl (Or.inl rfl)) (pgs_cons (pg_name (i := 5) nd rfl (Or.inl rfl)) (pgs_cons (pg_name (i := 6) nd rfl (Or.inl rfl)) pgs_nil)))))))
      (pss_cons (ps_if (PW.pt (pw_or (pt_cmpR (op_notInOwn (E := E0) MI.me.at_ MI.me.fn oI (hr.mono (by decide)) MI.b pass0) (pe_callTy (T := "tuple") (r := rTupOf K) call_tup (by rfl) T.m_tuple (by decide +kernel) (pa_cons (pv 2) pa_nil)) (pv 0) (by rfl)) (pw_or1 (pt_not (pt_cmpR op_lt_str (pv 3) (pv 4) (nomark _)))))) (pss_one (ps_ret pe_bl)) pss_nil)
      (pss_one (ps_ret (pe_and (pe_call oU hr (by rfl) DU.g DU.F.kp bU .nil pass0 (pa_cons (pv 0) (pa_cons (pv 2) (pa_cons (pv 3) (pa_cons (pv 5) pa_nil))))) (pe_one (pe_call oU hr (by rfl) DU.g DU.F.kp bU .nil pass0 (pa_cons (pv 0) (pa_cons (pv 2) (pa_cons (pv 4) (pa_cons (pv 6) pa_nil)))))))))))), ?_⟩
    have two : [V.ty "tuple", V.ty "list"].length ≤ sizeLine := by show 2 ≤ sizeLine; decide
    rcases hJ with ⟨t, ht, n1, n2, rfl⟩ | ⟨xs, hx, hn, rfl⟩ | hJ
    · refine ⟨_, rfl, two, fun pt npt => ?_⟩
      have st := same_upd (o := .tup [.ty "tuple", .ty "list"]) npt
      refine ⟨_, t, pt, _, _, rfl, upd_same, .inr ⟨rfl, rfl⟩, ht.same st, _, rfl, ?_⟩
      rw [not_seq n1 n2]
      exact iteT (q _ st)
    · obtain ⟨t, ht, hb⟩ := hx.any
      obtain ⟨p, rfl, hl⟩ := hx.len
      refine ⟨_, rfl, two, fun pt npt => ?_⟩
      have st := same_upd (o := .tup [.ty "tuple", .ty "list"]) npt
      refine ⟨_, t, pt, _, _, rfl, upd_same, .inr ⟨rfl, rfl⟩, ht.same st, _, rfl, ?_⟩
      rw [hb]
      refine iteF ⟨_, rfl, p, xs, rfl, hl.imp st.seq (same_sqt st), rfl, _, rfl, ?_⟩
      rw [show (!decide (V.int (xs.length : Int) = V.int 5)) = true by rw [decide_eq_false (fun z => hn (by have := V.int.inj z; omega))]; rfl]
      exact iteT (q _ st)
    · obtain ⟨y, zs, hx, hz4, hrest⟩ : ∃ y zs, Seq2 H x (y :: zs) ∧ zs.length = 4 ∧ ((JNames K H y false ∧ b = false) ∨ (JNames K H y true ∧ (∀ z ∈ zs, ∃ t, AnyV K H z t) ∧ ((zs.all nameV = false ∧ b = false) ∨
          (zs.all nameV = true ∧ ∃ st z1 z2 z3 z4, zs = [.str z1, .str z2, .str z3, .str z4] ∧ Seq2 H y (st.map V.str) ∧ (∀ z ∈ st, isNm z = true) ∧ 1 ≤ st.length ∧ st.length ≤ 4 ∧ (∀ z ∈ [z1, z2, z3, z4], isNm z = true) ∧ b = sqB S (st, z1, z2, z3, z4))))) := by
        rcases hJ with ⟨y, zs, h1, h2, h3, h4⟩ | ⟨y, zs, h1, h2, h3, h4, h5, h6⟩ | ⟨y, st, z1, z2, z3, z4, h1, h2, h3, h4, h5, h6, h7⟩
        · exact ⟨y, zs, h1, h2, .inl ⟨h3, h4⟩⟩
        · exact ⟨y, zs, h1, h2, .inr ⟨h3, h4, .inl ⟨h5, h6⟩⟩⟩
        · refine ⟨y, _, h1, rfl, .inr ⟨.inl ⟨_, h2.seq, fun _ _ => names_any h3, (namesV_yes h3 h4 h5).symm⟩, names_any (xs := [z1, z2, z3, z4]) h6, .inr ⟨names_all (xs := [z1, z2, z3, z4]) h6, st, z1, z2, z3, z4, rfl, h2, h3, h4, h5, h6, h7⟩⟩⟩
      obtain ⟨t, ht, hb⟩ := (hx.seq (K := K)).any
      obtain ⟨p, rfl, hl⟩ := (hx.seq (K := K)).len
      refine ⟨_, rfl, two, fun pt npt => ?_⟩
      have st1 := same_upd (o := .tup [.ty "tuple", .ty "list"]) npt
      refine ⟨_, t, pt, _, _, rfl, upd_same, .inr ⟨rfl, rfl⟩, ht.same st1, _, rfl, ?_⟩
      rw [hb]
      refine iteF ⟨_, rfl, p, y :: zs, rfl, hl.imp st1.seq (same_sqt st1), rfl, _, rfl, ?_⟩
      rw [show (!decide (V.int ((y :: zs).length : Int) = V.int 5)) = false by rw [List.length_cons, hz4]; rfl]
      refine iteF ⟨_, rfl, rIx_of (j := 0) (v := y) (hl.imp st1.seq (same_sqt st1)) rfl ?_⟩
      first | (unfold tNil; dsimp only) | dsimp only
      rcases hrest with ⟨hy, rfl⟩ | ⟨hy, hall, hrest⟩
      · exact names_of (hy.same st1) fun H1 s1 => ⟨_, rfl, iteT (q _ (st1.trans s1))⟩
      · refine names_of (hy.same st1) fun H1 s1 => ⟨_, rfl, iteF ?_⟩
        have s01 := st1.trans s1
        unfold tNot tB
        refine all_read (σ := L2.start NsIS [V.ref g, V.ref p]) rfl (hx.same s01) (by omega) (fun z hz => let ⟨t, h⟩ := hall z hz; ⟨t, h.same s01⟩) (by show 7 < 8; decide) fun H2 s2 => ?_
        have s02 := s01.trans s2
        rcases hrest with ⟨hn, rfl⟩ | ⟨hn, st, z1, z2, z3, z4, rfl, hy2, nst, l1, l4, nz, rfl⟩
        · rw [hn]
          exact ⟨_, rfl, iteT (q _ s02)⟩
        · rw [hn]
          obtain ⟨p', e', hp'⟩ := hx.same s02
          cases e'
          refine ⟨_, rfl, iteF ⟨_, rfl, p, _, rfl, hp'.imp SqL.of SqT.of, rfl, _, _, rfl, _, _, rfl, _, _, rfl, _, _, rfl, _, _, rfl, rfl, ?_⟩⟩
          refine ⟨_, rfl, ?_⟩
          first | (unfold tNil; dsimp only) | dsimp only
          refine tup_of2 (hy2.same s02) fun H3 p3 s3 h3 => ?_
          have s03 := s02.trans s3
          obtain ⟨dx, wa, l, ta, vs0, kvs, hG⟩ := id (hg.same s03)
          refine ⟨_, rfl, g, dx, _, rfl, hG.hg, g, .ref p3, N, S, γ, rfl, hg.same s03, .inl ⟨p3, _, rfl, h3, by rw [List.length_map]; omega, names_any nst, fun H4 s4 => ?_⟩⟩
          have s04 := s03.trans s4
          by_cases hin : st ∈ stds S
          · rw [inG_yes ok hin]
            refine ⟨true, rfl, _, rfl, iteF ⟨_, rfl, _, rfl, _, _, rfl, rfl, _, rfl, ?_⟩⟩
            have e0 : sqB S (st, z1, z2, z3, z4) = (sLt z1 z2 && (upN S st (z1, z3) && upN S st (z2, z4))) := by
              show (decide (st ∈ stds S) && _) = _
              rw [decide_eq_true hin, Bool.true_and]
            rw [e0] at q
            rw [show decide (z1.cps.toList < z2.cps.toList) = sLt z1 z2 from rfl]
            cases e1 : sLt z1 z2 with
            | false =>
              rw [e1, Bool.false_and] at q
              exact iteT (q _ s04)
            | true =>
              rw [e1, Bool.true_and] at q
              refine iteF ⟨_, rfl, _, rfl, _, rfl, _, rfl, g, y, z1, z3, st, N, S, γ, rfl, hg.same s04, ok, hy2.same s04, stds_mem hin, nz z1 (by simp), nz z3 (by simp), fun H5 s5 => ⟨_, rfl, ?_⟩⟩
              cases e2 : upN S st (z1, z3) with
              | false =>
                rw [e2, Bool.false_and] at q
                exact iteF (q _ (s04.trans s5))
              | true =>
                rw [e2, Bool.true_and] at q
                refine iteT ⟨_, rfl, _, rfl, _, rfl, _, rfl, g, y, z2, z4, st, N, S, γ, rfl, hg.same (s04.trans s5), ok, hy2.same (s04.trans s5), stds_mem hin, nz z2 (by simp), nz z4 (by simp), fun H6 s6 => ?_⟩
                exact q _ (s04.trans (s5.trans s6))
          · rw [inG_not' hin]
            refine ⟨false, rfl, _, rfl, iteT ?_⟩
            have e0 : sqB S (st, z1, z2, z3, z4) = false := by
              show (decide (st ∈ stds S) && _) = _
              rw [decide_eq_false hin, Bool.false_and]
            have := q _ s04
            rw [e0] at this
            exact this
end
end HG

set_option maxHeartbeats 2000000
namespace HG
open PySem PySem.Spec PyProof.Rows L2 HT
open C8 (pss_cut tCut)
structure SqVal (H : Hp) (x : V) (q : Sq) : Prop where
  ex : ∃ y, Seq2 H x [y, .str q.2.1, .str q.2.2.1, .str q.2.2.2.1, .str q.2.2.2.2] ∧ Seq2 H y (q.1.map V.str)
  nst : ∀ z ∈ q.1, isNm z = true
  l1 : 1 ≤ q.1.length
  l4 : q.1.length ≤ 4
  nz : ∀ z ∈ [q.2.1, q.2.2.1, q.2.2.2.1, q.2.2.2.2], isNm z = true
theorem SqVal.same {H H' : Hp} {x : V} {q : Sq} (h : SqVal H x q) (s : Same H H') : SqVal H' x q := ⟨let ⟨y, a, b⟩ := h.ex; ⟨y, a.same s, b.same s⟩, h.nst, h.l1, h.l4, h.nz⟩
theorem SqVal.judged {K : PySem.W.Frag} {S : List Way} {H : Hp} {x : V} {q : Sq} (h : SqVal H x q) : JSq K S H x (sqB S q) :=
  let ⟨y, a, b⟩ := h.ex; .inr (.inr (.inr (.inr ⟨y, q.1, q.2.1, q.2.2.1, q.2.2.2.1, q.2.2.2.2, a, b, h.nst, h.l1, h.l4, h.nz, rfl⟩)))
def wayAt (S : List Way) (st : List Str) (z : Str) : Str := st.getD ((names S).idxOf z) Str.empty
def ringL (S : List Way) (q : Sq) : List Ch := [(q.2.1, q.2.2.2.1), (q.2.2.1, q.2.2.2.2), (q.2.1, wayAt S q.1 q.2.1), (q.2.2.1, wayAt S q.1 q.2.2.1)]
theorem upN_facts {S : List Way} {st : List Str} {ch wy : Str} (ok : SOk S) (hl : st.length = S.length) (h : upN S st (ch, wy) = true) : ∃ i q z, S[i]? = some q ∧ q.1 = ch ∧ wy ∈ q.2 ∧ st[i]? = some z ∧ sLt z wy = true ∧ wayAt S st ch = z ∧ (names S)[i]? = some ch ∧ (names S).idxOf ch = i := by
  have hm : ch ∈ names S := by
    refine Decidable.by_contra fun hn => ?_
    rw [upN_no (c := (ch, wy)) hn] at h
    cases h
  obtain ⟨i, hi⟩ := List.mem_iff_getElem?.mp hm
  have hi' := hi
  unfold names at hi'
  rw [List.getElem?_map] at hi'
  obtain ⟨q, hq, e⟩ := Option.map_eq_some_iff.mp hi'
  have e' : q.1 = ch := e
  subst e'
  have hil : i < st.length := by rw [hl]; exact (List.getElem?_eq_some_iff.mp hq).1
  have hz : st[i]? = some (st[i]'hil) := List.getElem?_eq_getElem hil
  rw [upN_at ok.nd hq hz] at h
  obtain ⟨h1, h2⟩ := Bool.and_eq_true_iff.mp h
  have ix : (names S).idxOf q.1 = i := by
    obtain ⟨h3, e3⟩ := List.getElem?_eq_some_iff.mp hi
    rw [← e3]
    exact ok.nd.idxOf_getElem i h3
  refine ⟨i, q, _, hq, rfl, of_decide_eq_true h1, hz, h2, ?_, hi, ix⟩
  unfold wayAt
  rw [ix, List.getD_eq_getElem?_getD, hz]
  rfl
def ErrQ (CQ : Addr) (x : V) (E : XK) (H : Hp) : Prop := ∀ H', Same H H' → ∀ d, H' d = some (.xd [("square", x)]) → E (.ref CQ) (some d) H'
def RingAt (H0 H : Hp) (S : List Way) (q : Sq) (r : Addr) : Prop := ∃ a l es, H r = some (.tup [.ref a, .ref l]) ∧ H a = some (.tup (q.1.map V.str)) ∧ H l = some (.lst es) ∧ H0 l = none ∧ Paired (ChAt H) (ringL S q) es
def spRingOf (K : PySem.W.Frag) (C CQ : Addr) : Sp := fun args H Q E => ∃ (g : Addr) (x : V) (N : Addr → Prop) (S : List Way) (γ : List Str → List Int), args = [.ref g, x] ∧ IsG K C N H g S γ ∧ SOk S ∧
  ((JSq K S H x false ∧ ErrQ CQ x E H) ∨ ∃ q, SqVal H x q ∧ sqB S q = true ∧ ∀ H' r, Same H H' → RingAt H H' S q r → Q (.ref r) H')
abbrev NsRO : List Str := ["game", "square", "standing", "one", "other", "first", "second", "back", "home"]
section
variable {P : Program} {w : World} {K : PySem.W.Frag} {mg : Str → Option Value} {base : Heap} {C : Addr}
theorem ok_ring_of {f fQ fT CQ iQ : Addr} {fd dQ dT eQ : FuncData} (T : KT K mg) (c : GC K C) (MT : MtSeat K C fT dT) (EQ : EK K mg "NoSquare" "square" CQ iQ eQ) (DQ : Df K mg "is_square" s_is_square fQ dQ) (bQ : Binds K dQ ["game", "thing"] []) (oQ : FnOk P w K mg base CX0 6 fQ dQ ["game", "thing"] (spIsSq K C))
    (D : Df K mg "ring_of" s_ring_of f fd) : FnOk P w K mg base (L2.CX P w) 7 f fd ["game", "square"] (spRingOf K C CQ) := by
  have S : FnScope NsRO ["game", "square"] (defScope s_ring_of) := ⟨rfl, rfl, rfl, by decide +kernel, rfl, by decide +kernel, by decide +kernel⟩
  have nd := S.nd
  refine D.F.okX S (fun vs H Q E h => ?_) (fun cdv A outer s H vs Q E hr h => ?_)
  · obtain ⟨g, x, N, S, γ, rfl, _⟩ := h
    rfl
  · obtain ⟨g, x, N, S, γ, rfl, hg, ok, hq⟩ := h
    have oT := ok_seat (P := P) (w := w) (base := base) T c MT
    refine ⟨_, pss_cons (ps_if (pt_not (pt_val (pe_call oQ hr (by rfl) DQ.g DQ.F.kp bQ .nil pass0 (pa_cons (pv 0) (pa_cons (pv 1) pa_nil))))) (pss_one (ps_raise rfl (takes_of rfl rfl rfl rfl) (pmk_err EQ (hr.mono (by decide)) (by rfl) (pa_cons (pv 1) pa_nil)))) pss_nil)
      (pss_cons (ps_asg (pv 1) (pg_seq rfl (pgs_cons (pg_name (i := 2) nd rfl (Or.inl rfl)) (pgs_cons (pg_name (i := 3) nd rfl (Or.inl rfl)) (pgs_cons (pg_name (i := 4) nd rfl (Or.inl rfl)) (pgs_cons (pg_name (i := 5) nd rfl (Or.inl rfl)) (pgs_cons (pg_name (i := 6) nd rfl (Or.inl rfl)) pgs_nil)))))))
      (pss_cons (ps_set (i := 7) nd rfl (Or.inl rfl) (pe_ix ix_seq (pv 2) (pe_meth (pv 0) c.cl MT.me oT (hr.mono (by decide)) MT.b .nil pass0 (pa_cons (pv 3) pa_nil)) (fun _ _ => rfl)))
      (pss_cons (ps_set (i := 8) nd rfl (Or.inl rfl) (pe_ix ix_seq (pv 2) (pe_meth (pv 0) c.cl MT.me oT (hr.mono (by decide)) MT.b .nil pass0 (pa_cons (pv 4) pa_nil)) (fun _ _ => rfl)))
      (pss_one (ps_ret (pe_tup (pa_cons (pe_callTy (T := "tuple") (r := rTupOf K) call_tup (by rfl) T.m_tuple (by decide +kernel) (pa_cons (pv 2) pa_nil)) (pa_cons (pe_lst (pa_cons (pe_tup (pa_cons (pv 3) (pa_cons (pv 5) pa_nil))) (pa_cons (pe_tup (pa_cons (pv 4) (pa_cons (pv 6) pa_nil))) (pa_cons (pe_tup (pa_cons (pv 3) (pa_cons (pv 7) pa_nil))) (pa_cons (pe_tup (pa_cons (pv 4) (pa_cons (pv 8) pa_nil))) pa_nil))))) pa_nil)))))))), ?_⟩
    rcases hq with ⟨hJ, hE⟩ | ⟨q, hv, hb, hQ⟩
    · exact ⟨_, rfl, _, rfl, g, x, false, N, S, γ, rfl, hg, ok, hJ, fun H1 s1 => ⟨_, rfl, iteT ⟨_, rfl, _, rfl, fun d nd => hE _ (s1.trans (same_upd nd)) d upd_same⟩⟩⟩
    · obtain ⟨y, hx, hy⟩ := hv.ex
      obtain ⟨p, rfl, hp⟩ := hx
      refine ⟨_, rfl, _, rfl, g, _, sqB S q, N, S, γ, rfl, hg, ok, hv.judged, fun H1 s1 => ?_⟩
      rw [hb]
      obtain ⟨st, z1, z2, z3, z4⟩ := q
      have hb' : (decide (st ∈ stds S) && (sLt z1 z2 && (upN S st (z1, z3) && upN S st (z2, z4)))) = true := hb
      obtain ⟨h1, h2⟩ := Bool.and_eq_true_iff.mp hb'
      obtain ⟨_, h3⟩ := Bool.and_eq_true_iff.mp h2
      obtain ⟨h4, h5⟩ := Bool.and_eq_true_iff.mp h3
      have hin := of_decide_eq_true h1
      have hl := stds_mem hin
      obtain ⟨i, qi, zi, hqi, ei, _, hzi, _, wi, ni, _⟩ := upN_facts ok hl h4
      obtain ⟨k, qk, zk, hqk, ek, _, hzk, _, wk, nk, _⟩ := upN_facts ok hl h5
      have hp1 := hp.imp (s1 _ _) (s1 _ _)
      have hy1 := hy.same s1
      obtain ⟨dx, wa, l, ta, vs0, kvs, hG⟩ := id (hg.same s1)
      refine ⟨_, rfl, iteF ⟨_, rfl, p, _, rfl, hp1.imp SqL.of SqT.of, rfl, _, _, rfl, _, _, rfl, _, _, rfl, _, _, rfl, _, _, rfl, rfl, ?_⟩⟩
      refine ⟨_, rfl, _, rfl, g, dx, _, rfl, hG.hg, rfl, _, rfl, g, z1, i, N, S, γ, rfl, hg.same s1, ok.nd, ni, fun H2 s2 => ?_⟩
      refine ix2 (j := i) (y := .str zi) (hy1.same s2) (by rw [List.getElem?_map, hzi]; rfl) ?_
      refine ⟨_, rfl, _, rfl, g, dx, _, rfl, s2 _ _ hG.hg, rfl, _, rfl, g, z2, k, N, S, γ, rfl, (hg.same s1).same s2, ok.nd, nk, fun H3 s3 => ?_⟩
      refine ix2 (j := k) (y := .str zk) ((hy1.same s2).same s3) (by rw [List.getElem?_map, hzk]; rfl) ?_
      refine ⟨_, rfl, ?_⟩
      first | (unfold tNil; dsimp only) | dsimp only
      refine tup_of2 ((hy1.same s2).same s3) fun H4 a s4 ha => ?_
      refine ⟨_, rfl, _, rfl, (by show 2 ≤ sizeLine; decide), fun t1 nt1 => ⟨_, rfl, _, rfl, (by show 2 ≤ sizeLine; decide), fun t2 nt2 => ⟨_, rfl, _, rfl, (by show 2 ≤ sizeLine; decide), fun t3 nt3 => ⟨_, rfl, _, rfl, (by show 2 ≤ sizeLine; decide), fun t4 nt4 => ⟨(by show 4 ≤ sizeLine; decide), fun lp nlp => ⟨(by show 2 ≤ sizeLine; decide), fun r nr => ?_⟩⟩⟩⟩⟩⟩
      have st1 := same_upd (o := .tup [V.str z1, V.str z3]) nt1
      have st2 := same_upd (o := .tup [V.str z2, V.str z4]) nt2
      have st3 := same_upd (o := .tup [V.str z1, V.str zi]) nt3
      have st4 := same_upd (o := .tup [V.str z2, V.str zk]) nt4
      have slp := same_upd (o := .lst [V.ref t1, V.ref t2, V.ref t3, V.ref t4]) nlp
      have sr := same_upd (o := .tup [V.ref a, V.ref lp]) nr
      have s04 := s1.trans (s2.trans (s3.trans s4))
      refine hQ _ r (s04.trans (st1.trans (st2.trans (st3.trans (st4.trans (slp.trans sr)))))) ⟨a, lp, _, upd_same, sr _ _ (slp _ _ (st4 _ _ (st3 _ _ (st2 _ _ (st1 _ _ ha))))), sr _ _ upd_same, (s04.trans (st1.trans (st2.trans (st3.trans st4)))).free nlp, ?_⟩
      refine .cons ⟨t1, rfl, sr _ _ (slp _ _ (st4 _ _ (st3 _ _ (st2 _ _ upd_same))))⟩ (.cons ⟨t2, rfl, sr _ _ (slp _ _ (st4 _ _ (st3 _ _ upd_same)))⟩ (.cons ⟨t3, rfl, ?_⟩ (.cons ⟨t4, rfl, ?_⟩ .nil)))
      · show _ = some (HO.tup [V.str z1, V.str (wayAt S st z1)])
        rw [wi]
        exact sr _ _ (slp _ _ (st4 _ _ upd_same))
      · show _ = some (HO.tup [V.str z2, V.str (wayAt S st z2)])
        rw [wk]
        exact sr _ _ (slp _ _ upd_same)
end
end HG

set_option maxHeartbeats 2000000
namespace HG
open PySem PySem.Spec PyProof.Rows L2 HT
open C8 (pss_cut tCut)
def GLen (S : List Way) (γ : List Str → List Int) : Prop := ∀ st ∈ stds S, (γ st).length = S.length
def gAt (γ : List Str → List Int) (z : List Str) (m : Nat) : Int := (γ z).getD m 0
def sumsI (γ : List Str → List Int) (st : List Str) (i k : Nat) (f s : Str) : Int × Int :=
  (gAt γ (st.set i f) i - gAt γ st i + gAt γ (st.set k s) i - gAt γ ((st.set i f).set k s) i, gAt γ ((st.set i f).set k s) k - gAt γ (st.set i f) k + gAt γ st k - gAt γ (st.set k s) k)
def sumsP (S : List Way) (γ : List Str → List Int) (q : Sq) : Int × Int := sumsI γ q.1 ((names S).idxOf q.2.1) ((names S).idxOf q.2.2.1) q.2.2.2.1 q.2.2.2.2
theorem g_at {S : List Way} {γ : List Str → List Int} {z : List Str} {m : Nat} (hγ : GLen S γ) (hz : z ∈ stds S) (hm : m < S.length) : (γ z)[m]? = some (gAt γ z m) := by
  unfold gAt
  have h := hγ z hz
  rw [List.getD_eq_getElem?_getD, List.getElem?_eq_getElem (by omega)]
  rfl
def spSums (K : PySem.W.Frag) (C CQ : Addr) : Sp := fun args H Q E => ∃ (g : Addr) (x : V) (N : Addr → Prop) (S : List Way) (γ : List Str → List Int), args = [.ref g, x] ∧ IsG K C N H g S γ ∧ SOk S ∧ GLen S γ ∧
  ((JSq K S H x false ∧ ErrQ CQ x E H) ∨ ∃ q, SqVal H x q ∧ sqB S q = true ∧ ∀ H' r, Same H H' → H' r = some (.tup [.int (sumsP S γ q).1, .int (sumsP S γ q).2]) → Q (.ref r) H')
abbrev NsSu : List Str := ["game", "square", "standing", "one", "other", "first", "second", "start", "beside", "above", "across", "of_one", "of_other"]
section
variable {P : Program} {w : World} {K : PySem.W.Frag} {mg : Str → Option Value} {base : Heap} {C : Addr}
variable {fShape fNames fName fSorted fStds fTable fInts fInt fOne fPut : Addr} {dShape dNames dName dSorted dStds dTable dInts dInt dOne dPut : FuncData}
theorem ok_sums {f fQ fT fG fS fI fK fH CQ iQ : Addr} {fd dQ dT dG dS dI dK dH eQ : FuncData} (G : GD K mg fShape fNames fName fSorted fStds fTable fInts fInt fOne fPut dShape dNames dName dSorted dStds dTable dInts dInt dOne dPut) (c : GC K C) (MT : MtSeat K C fT dT) (MG : Mt K C "gain" "Game.gain" s_Game_gain ["self", "chooser", "standing"] fG dG) (MS : MtStand K C fS dS) (MI : MtIn K C fI dI) (MK : MtCheck K C fK dK) (MH : MtHas K C fH dH)
    (EQ : EK K mg "NoSquare" "square" CQ iQ eQ) (DQ : Df K mg "is_square" s_is_square fQ dQ) (bQ : Binds K dQ ["game", "thing"] []) (oQ : FnOk P w K mg base CX0 6 fQ dQ ["game", "thing"] (spIsSq K C))
    (D : Df K mg "sums" s_sums f fd) : FnOk P w K mg base (L2.CX P w) 7 f fd ["game", "square"] (spSums K C CQ) := by
  have S : FnScope NsSu ["game", "square"] (defScope s_sums) := ⟨rfl, rfl, rfl, by decide +kernel, rfl, by decide +kernel, by decide +kernel⟩
  have nd := S.nd
  have T := G.T
  refine D.F.okX S (fun vs H Q E h => ?_) (fun cdv A outer s H vs Q E hr h => ?_)
  · obtain ⟨g, x, N, S, γ, rfl, _⟩ := h
    rfl
  · obtain ⟨g, x, N, S, γ, rfl, hg, ok, hγ, hq⟩ := h
    have oT := ok_seat (P := P) (w := w) (base := base) T c MT
    have oG := ok_gain (P := P) (w := w) (base := base) G c MG MS MI MK MH MT
    have oP := ok_put (P := P) (w := w) (base := base) G.put
    refine ⟨_, pss_cons (ps_if (pt_not (pt_val (pe_call oQ hr (by rfl) DQ.g DQ.F.kp bQ .nil pass0 (pa_cons (pv 0) (pa_cons (pv 1) pa_nil))))) (pss_one (ps_raise rfl (takes_of rfl rfl rfl rfl) (pmk_err EQ (hr.mono (by decide)) (by rfl) (pa_cons (pv 1) pa_nil)))) pss_nil)
      (pss_cons (ps_asg (pv 1) (pg_seq rfl (pgs_cons (pg_name (i := 2) nd rfl (Or.inl rfl)) (pgs_cons (pg_name (i := 3) nd rfl (Or.inl rfl)) (pgs_cons (pg_name (i := 4) nd rfl (Or.inl rfl)) (pgs_cons (pg_name (i := 5) nd rfl (Or.inl rfl)) (pgs_cons (pg_name (i := 6) nd rfl (Or.inl rfl)) pgs_nil)))))))
      (pss_cons (ps_set (i := 7) nd rfl (Or.inl rfl) (pe_callTy (T := "tuple") (r := rTupOf K) call_tup (by rfl) T.m_tuple (by decide +kernel) (pa_cons (pv 2) pa_nil)))
      (pss_cons (ps_set (i := 8) nd rfl (Or.inl rfl) (pe_call oP (hr.mono (by decide)) (by rfl) G.put.g G.put.F.kp G.bPut .nil pass0 (pa_cons (pv 7) (pa_cons (pe_meth (pv 0) c.cl MT.me oT (hr.mono (by decide)) MT.b .nil pass0 (pa_cons (pv 3) pa_nil)) (pa_cons (pv 5) pa_nil)))))
      (pss_cons (ps_set (i := 9) nd rfl (Or.inl rfl) (pe_call oP (hr.mono (by decide)) (by rfl) G.put.g G.put.F.kp G.bPut .nil pass0 (pa_cons (pv 7) (pa_cons (pe_meth (pv 0) c.cl MT.me oT (hr.mono (by decide)) MT.b .nil pass0 (pa_cons (pv 4) pa_nil)) (pa_cons (pv 6) pa_nil)))))
      (pss_cons (ps_set (i := 10) nd rfl (Or.inl rfl) (pe_call oP (hr.mono (by decide)) (by rfl) G.put.g G.put.F.kp G.bPut .nil pass0 (pa_cons (pv 8) (pa_cons (pe_meth (pv 0) c.cl MT.me oT (hr.mono (by decide)) MT.b .nil pass0 (pa_cons (pv 4) pa_nil)) (pa_cons (pv 6) pa_nil)))))
      (pss_cons (ps_set (i := 11) nd rfl (Or.inl rfl) (pe_op op_sub (pe_op op_add (pe_op op_sub (pe_meth (pv 0) c.cl MG.me oG (hr.mono (by decide)) MG.b .nil pass0 (pa_cons (pv 3) (pa_cons (pv 8) pa_nil))) (pe_meth (pv 0) c.cl MG.me oG (hr.mono (by decide)) MG.b .nil pass0 (pa_cons (pv 3) (pa_cons (pv 7) pa_nil)))) (pe_meth (pv 0) c.cl MG.me oG (hr.mono (by decide)) MG.b .nil pass0 (pa_cons (pv 3) (pa_cons (pv 9) pa_nil)))) (pe_meth (pv 0) c.cl MG.me oG (hr.mono (by decide)) MG.b .nil pass0 (pa_cons (pv 3) (pa_cons (pv 10) pa_nil)))))
      (pss_cons (ps_set (i := 12) nd rfl (Or.inl rfl) (pe_op op_sub (pe_op op_add (pe_op op_sub (pe_meth (pv 0) c.cl MG.me oG (hr.mono (by decide)) MG.b .nil pass0 (pa_cons (pv 4) (pa_cons (pv 10) pa_nil))) (pe_meth (pv 0) c.cl MG.me oG (hr.mono (by decide)) MG.b .nil pass0 (pa_cons (pv 4) (pa_cons (pv 8) pa_nil)))) (pe_meth (pv 0) c.cl MG.me oG (hr.mono (by decide)) MG.b .nil pass0 (pa_cons (pv 4) (pa_cons (pv 7) pa_nil)))) (pe_meth (pv 0) c.cl MG.me oG (hr.mono (by decide)) MG.b .nil pass0 (pa_cons (pv 4) (pa_cons (pv 9) pa_nil)))))
      (pss_one (ps_ret (pe_tup (pa_cons (pv 11) (pa_cons (pv 12) pa_nil)))))))))))), ?_⟩
    rcases hq with ⟨hJ, hE⟩ | ⟨q, hv, hb, hQ⟩
    · exact ⟨_, rfl, _, rfl, g, x, false, N, S, γ, rfl, hg, ok, hJ, fun H1 s1 => ⟨_, rfl, iteT ⟨_, rfl, _, rfl, fun d nd => hE _ (s1.trans (same_upd nd)) d upd_same⟩⟩⟩
    · obtain ⟨y, hx, hy⟩ := hv.ex
      obtain ⟨p, rfl, hp⟩ := hx
      refine ⟨_, rfl, _, rfl, g, _, sqB S q, N, S, γ, rfl, hg, ok, hv.judged, fun H1 s1 => ?_⟩
      rw [hb]
      obtain ⟨st, z1, z2, z3, z4⟩ := q
      have hb' : (decide (st ∈ stds S) && (sLt z1 z2 && (upN S st (z1, z3) && upN S st (z2, z4)))) = true := hb
      obtain ⟨h1, h2⟩ := Bool.and_eq_true_iff.mp hb'
      obtain ⟨_, h3⟩ := Bool.and_eq_true_iff.mp h2
      obtain ⟨h4, h5⟩ := Bool.and_eq_true_iff.mp h3
      have hin := of_decide_eq_true h1
      have hl := stds_mem hin
      have hl' : st.length = S.length := hl
      have n4 := ok.n4
      obtain ⟨i, qi, zi, hqi, ei, hvi, hzi, _, wi, ni, xi⟩ := upN_facts ok hl h4
      obtain ⟨k, qk, zk, hqk, ek, hvk, hzk, _, wk, nk, xk⟩ := upN_facts ok hl h5
      have il : i < S.length := (List.getElem?_eq_some_iff.mp hqi).1
      have kl : k < S.length := (List.getElem?_eq_some_iff.mp hqk).1
      have inB := stds_set hin hqi hvi
      have inA := stds_set hin hqk hvk
      have inC := stds_set inB hqk hvk
      have hp1 := hp.imp (s1 _ _) (s1 _ _)
      have hy1 := hy.same s1
      obtain ⟨dx, wa, l, ta, vs0, kvs, hG⟩ := id (hg.same s1)
      have hg1 := hg.same s1
      refine ⟨_, rfl, iteF ⟨_, rfl, p, _, rfl, hp1.imp SqL.of SqT.of, rfl, _, _, rfl, _, _, rfl, _, _, rfl, _, _, rfl, _, _, rfl, rfl, ?_⟩⟩
      refine ⟨_, rfl, ?_⟩
      first | (unfold tNil; dsimp only) | dsimp only
      refine tup_of2 hy1 fun H2 a s2 ha => ?_
      have hg2 := hg1.same s2
      refine ⟨_, rfl, _, rfl, g, dx, _, rfl, s2 _ _ hG.hg, rfl, _, rfl, g, z1, i, N, S, γ, rfl, hg2, ok.nd, ni, fun H3 s3 => ⟨_, rfl, a, i, .str z3, _, rfl, s3 _ _ ha, by rw [List.length_map]; exact hl' ▸ il, by rw [List.length_map]; show st.length ≤ _; omega, fun H4 pb s4 hpb => ?_⟩⟩
      have s24 := s3.trans s4
      refine ⟨_, rfl, _, rfl, g, dx, _, rfl, s24 _ _ (s2 _ _ hG.hg), rfl, _, rfl, g, z2, k, N, S, γ, rfl, hg2.same s24, ok.nd, nk, fun H5 s5 => ⟨_, rfl, a, k, .str z4, _, rfl, s5 _ _ (s24 _ _ ha), by rw [List.length_map]; exact hl' ▸ kl, by rw [List.length_map]; show st.length ≤ _; omega, fun H6 pa s6 hpa => ?_⟩⟩
      have s46 := s5.trans s6
      have s26 := s24.trans s46
      refine ⟨_, rfl, _, rfl, g, dx, _, rfl, s26 _ _ (s2 _ _ hG.hg), rfl, _, rfl, g, z2, k, N, S, γ, rfl, hg2.same s26, ok.nd, nk, fun H7 s7 => ⟨_, rfl, pb, k, .str z4, _, rfl, s7 _ _ (s46 _ _ hpb), by rw [List.length_set, List.length_map]; exact hl' ▸ kl, by rw [List.length_set, List.length_map]; show st.length ≤ _; omega, fun H8 pc s8 hpc => ?_⟩⟩
      have s68 := s7.trans s8
      have s28 := s26.trans s68
      have hb8 : H8 pb = some (.tup ((st.set i z3).map V.str)) := by rw [List.map_set]; exact s68 _ _ (s46 _ _ hpb)
      have ha8 : H8 pa = some (.tup ((st.set k z4).map V.str)) := by rw [List.map_set]; exact s68 _ _ hpa
      have hc8 : H8 pc = some (.tup (((st.set i z3).set k z4).map V.str)) := by rw [List.map_set, List.map_set]; exact hpc
      have hs8 : H8 a = some (.tup (st.map V.str)) := s28 _ _ ha
      have hg8 := hg2.same s28
      have hG8 := s28 _ _ (s2 _ _ hG.hg)
      refine ⟨_, rfl, g, dx, _, rfl, hG8, rfl, _, rfl, _, rfl, g, pb, z1, i, _, st.set i z3, N, S, γ, rfl, hg8, ok, hb8, inB, ni, g_at hγ inB il, fun H9 s9 => ?_⟩
      refine ⟨_, rfl, g, dx, _, rfl, s9 _ _ hG8, rfl, _, rfl, _, rfl, g, a, z1, i, _, st, N, S, γ, rfl, hg8.same s9, ok, s9 _ _ hs8, hin, ni, g_at hγ hin il, fun H10 s10 => ⟨_, _, rfl, rfl, ?_⟩⟩
      have t10 := s9.trans s10
      refine ⟨_, rfl, g, dx, _, rfl, t10 _ _ hG8, rfl, _, rfl, _, rfl, g, pa, z1, i, _, st.set k z4, N, S, γ, rfl, hg8.same t10, ok, t10 _ _ ha8, inA, ni, g_at hγ inA il, fun H11 s11 => ⟨_, _, rfl, rfl, ?_⟩⟩
      have t11 := t10.trans s11
      refine ⟨_, rfl, g, dx, _, rfl, t11 _ _ hG8, rfl, _, rfl, _, rfl, g, pc, z1, i, _, (st.set i z3).set k z4, N, S, γ, rfl, hg8.same t11, ok, t11 _ _ hc8, inC, ni, g_at hγ inC il, fun H12 s12 => ⟨_, _, rfl, rfl, ?_⟩⟩
      have t12 := t11.trans s12
      refine ⟨_, rfl, g, dx, _, rfl, t12 _ _ hG8, rfl, _, rfl, _, rfl, g, pc, z2, k, _, (st.set i z3).set k z4, N, S, γ, rfl, hg8.same t12, ok, t12 _ _ hc8, inC, nk, g_at hγ inC kl, fun H13 s13 => ?_⟩
      have t13 := t12.trans s13
      refine ⟨_, rfl, g, dx, _, rfl, t13 _ _ hG8, rfl, _, rfl, _, rfl, g, pb, z2, k, _, st.set i z3, N, S, γ, rfl, hg8.same t13, ok, t13 _ _ hb8, inB, nk, g_at hγ inB kl, fun H14 s14 => ⟨_, _, rfl, rfl, ?_⟩⟩
      have t14 := t13.trans s14
      refine ⟨_, rfl, g, dx, _, rfl, t14 _ _ hG8, rfl, _, rfl, _, rfl, g, a, z2, k, _, st, N, S, γ, rfl, hg8.same t14, ok, t14 _ _ hs8, hin, nk, g_at hγ hin kl, fun H15 s15 => ⟨_, _, rfl, rfl, ?_⟩⟩
      have t15 := t14.trans s15
      refine ⟨_, rfl, g, dx, _, rfl, t15 _ _ hG8, rfl, _, rfl, _, rfl, g, pa, z2, k, _, st.set k z4, N, S, γ, rfl, hg8.same t15, ok, t15 _ _ ha8, inA, nk, g_at hγ inA kl, fun H16 s16 => ⟨_, _, rfl, rfl, ?_⟩⟩
      refine ⟨_, rfl, _, rfl, (by show 2 ≤ sizeLine; decide), fun r nr => hQ _ r (s1.trans (s2.trans (s28.trans (t15.trans (s16.trans (same_upd nr)))))) ?_⟩
      rw [upd_same]
      show _ = some (HO.tup [V.int (sumsI γ st ((names S).idxOf z1) ((names S).idxOf z2) z3 z4).1, V.int (sumsI γ st ((names S).idxOf z1) ((names S).idxOf z2) z3 z4).2])
      rw [xi, xk]
      rfl
end
end HG

set_option maxHeartbeats 1000000
namespace HG
open PySem PySem.Spec PyProof.Rows L2 HT
def sqD (x : Sq) : PyData := .tuple [dT x.1, .str x.2.1, .str x.2.2.1, .str x.2.2.2.1, .str x.2.2.2.2]
def nA (W : List Way) (i : Nat) : Str := (names (sh W)).getD i ⟨#[]⟩
def sA (st : List Str) (i : Nat) : Str := st.getD i ⟨#[]⟩
def wA (W : List Way) (st : List Str) (i : Nat) : List Str := (lookW W (nA W i)).filter (sLt (sA st i))
def lsF (W : List Way) (st : List Str) (i k : Nat) (f : Str) : List Sq := (wA W st k).map fun s => (st, nA W i, nA W k, f, s)
def lsIK (W : List Way) (st : List Str) (i k : Nat) : List Sq := (wA W st i).flatMap (lsF W st i k)
def lsI (W : List Way) (st : List Str) (i : Nat) : List Sq := (List.range' (i + 1) (W.length - (i + 1))).flatMap (lsIK W st i)
def lsS (W : List Way) (st : List Str) : List Sq := (List.range' 0 W.length).flatMap (lsI W st)
def lsAll (W : List Way) : List Sq := (stds (sh W)).flatMap (lsS W)
/-! ### strict order -/
theorem sLt_irr (a : Str) : sLt a a = false := decide_eq_false (List.lt_irrefl _)
theorem sLt_asymm {a b : Str} (h : sLt a b = true) : sLt b a = false := decide_eq_false (List.lt_asymm (of_decide_eq_true h))
theorem sLt_ne {a b : Str} (h : sLt a b = true) : a ≠ b := fun e => by
  rw [e, sLt_irr] at h
  cases h
theorem srt_lt {l : List Str} (h : l.Nodup) : (srt l).Pairwise fun a b => sLt a b = true := by
  have := (srt_pw l).and (srt_nd h)
  refine this.imp fun {a b} ⟨h1, h2⟩ => decide_eq_true ?_
  refine Decidable.by_contra fun z => h2 (ext_cps (List.le_antisymm h1 (List.not_lt.mp z)))
theorem strict_uniq {α : Type} {lt : α → α → Bool} (as : ∀ a b, lt a b = true → lt b a = false) {k m : List α} (hk : k.Pairwise fun a b => (!lt b a) = true) (hm : m.Pairwise fun a b => lt a b = true) (hp : k.Perm m) : k = m := by
  have tri : ∀ {m : List α}, m.Pairwise (fun a b => lt a b = true) → ∀ a ∈ m, ∀ b ∈ m, a = b ∨ lt a b = true ∨ lt b a = true := by
    intro m h
    induction h with
    | nil => intro a h; cases h
    | cons h1 _ ih =>
      intro a ha b hb
      rcases List.mem_cons.mp ha with rfl | ha'
      · rcases List.mem_cons.mp hb with rfl | hb'
        · exact .inl rfl
        · exact .inr (.inl (h1 _ hb'))
      · rcases List.mem_cons.mp hb with rfl | hb'
        · exact .inr (.inr (h1 _ ha'))
        · exact ih _ ha' _ hb'
  refine List.Perm.eq_of_pairwise (le := fun a b => (!lt b a) = true) (fun a b ha hb h1 h2 => ?_) hk (hm.imp fun {a b} h => by rw [as a b h]; rfl) hp
  rcases tri hm a (hp.mem_iff.mp ha) b hb with h | h | h
  · exact h
  · rw [h] at h2
    cases h2
  · rw [h] at h1
    cases h1
def lexS : List Str → List Str → Bool
  | x :: xs, y :: ys => if x = y then lexS xs ys else sLt x y
  | _, _ => false
theorem lexS_app {w v : Str} : ∀ {a b : List Str}, a.length = b.length → lexS a b = true → lexS (a ++ [w]) (b ++ [v]) = true
  | [], [], _, h => by cases h
  | x :: a, y :: b, hl, h => by
    rw [List.cons_append, List.cons_append, lexS]
    rw [lexS] at h
    by_cases e : x = y
    · rw [if_pos e] at h ⊢
      exact lexS_app (Nat.succ.inj hl) h
    · rw [if_neg e] at h ⊢
      exact h
theorem lexS_same {w v : Str} (h : sLt w v = true) : ∀ a : List Str, lexS (a ++ [w]) (a ++ [v]) = true
  | [] => by
    rw [List.nil_append, List.nil_append, lexS, if_neg (sLt_ne h), h]
  | x :: a => by
    rw [List.cons_append, List.cons_append, lexS, if_pos rfl]
    exact lexS_same h a
theorem lexS_irr : ∀ a : List Str, lexS a a = false
  | [] => by
    rw [lexS]
    intro x xs y ys h _
    cases h
  | x :: a => by rw [lexS, if_pos rfl, lexS_irr a]
theorem eqv_s (x y : Str) : PyData.eqv (.str x) (.str y) = decide (x = y) := by
  have := dT_eqv [x] [y]
  simp [dT, PyData.eqv, PyData.eqvAll] at this
  simp [PyData.eqv]
  try exact this
theorem lexS_data : ∀ {a b : List Str}, a.length = b.length → PySem.W.rowLt (a.map PyData.str) (b.map PyData.str) = lexS a b
  | [], [], _ => by
    rw [List.map_nil, lexS]
    · exact PyProof.Rows.lex_irrefl _
    · intro x xs y ys h _
      cases h
  | x :: a, y :: b, hl => by
    have ih := lexS_data (a := a) (b := b) (Nat.succ.inj hl)
    unfold PySem.W.rowLt at ih ⊢
    rw [List.map_cons, List.map_cons, PySem.W.dataLt_cons (by simp [PySem.W.alike]), ih, eqv_s, PySem.W.dataLt_str, lexS]
    by_cases e : x = y
    · rw [if_pos (by simpa using e), if_pos e]
    · rw [if_neg (by simpa using e), if_neg e]
      rfl
theorem alike_strs : ∀ xs ys : List Str, PySem.W.alikeAll (xs.map PyData.str) (ys.map PyData.str) = true
  | [], [] => by rw [List.map_nil, PySem.W.alikeAll]
  | [], _ :: _ => by rw [List.map_nil, PySem.W.alikeAll]
  | _ :: _, [] => by rw [List.map_nil, List.map_cons, PySem.W.alikeAll]
  | x :: xs, y :: ys => by
    rw [List.map_cons, List.map_cons, PySem.W.alikeAll, alike_strs xs ys, PySem.W.alike]
    rfl
def sqLt (x y : Sq) : Bool := PySem.W.dataLt (sqD x) (sqD y)
theorem sqLt_asymm (x y : Sq) (h : sqLt x y = true) : sqLt y x = false := PyProof.Rows.KeyOrd.klt_asymm (O := PyProof.Rows.listOrd PyProof.Rows.itemOrd) h
theorem sqLt_eq (x y : Sq) : sqLt x y = if x.1 = y.1 then (if x.2.1 = y.2.1 then (if x.2.2.1 = y.2.2.1 then (if x.2.2.2.1 = y.2.2.2.1 then (if x.2.2.2.2 = y.2.2.2.2 then false else sLt x.2.2.2.2 y.2.2.2.2) else sLt x.2.2.2.1 y.2.2.2.1) else sLt x.2.2.1 y.2.2.1) else sLt x.2.1 y.2.1) else PySem.W.rowLt (x.1.map PyData.str) (y.1.map PyData.str) := by
  unfold sqLt sqD
  have aS : ∀ a b : Str, PySem.W.alike (.str a) (.str b) = true := fun _ _ => by simp [PySem.W.alike]
  have aT : PySem.W.alike (dT x.1) (dT y.1) = true := by
    unfold dT
    rw [PySem.W.alike]
    exact alike_strs _ _
  rw [PySem.W.dataLt_tuple, PySem.W.dataLt_cons aT, PySem.W.dataLt_cons (aS _ _), PySem.W.dataLt_cons (aS _ _), PySem.W.dataLt_cons (aS _ _), PySem.W.dataLt_cons (aS _ _), dT_eqv, eqv_s, eqv_s, eqv_s, eqv_s, PySem.W.dataLt_str, PySem.W.dataLt_str, PySem.W.dataLt_str, PySem.W.dataLt_str,
    show PyProof.Rows.lexLt PyProof.Rows.itemOrd (PySem.W.keyToksAll []) (PySem.W.keyToksAll []) = false from PyProof.Rows.lex_irrefl _]
  have eT : PySem.W.dataLt (dT x.1) (dT y.1) = PySem.W.rowLt (x.1.map PyData.str) (y.1.map PyData.str) := by
    unfold dT
    rw [PySem.W.dataLt_tuple]
    rfl
  rw [eT]
  simp only [decide_eq_true_eq]
  rfl
theorem pw_flat {α β : Type} {R : β → β → Prop} {T : α → α → Prop} {l : List α} {f : α → List β} (h : l.Pairwise T) (h1 : ∀ a ∈ l, (f a).Pairwise R) (h2 : ∀ a ∈ l, ∀ b ∈ l, T a b → ∀ x ∈ f a, ∀ y ∈ f b, R x y) : (l.flatMap f).Pairwise R := by
  rw [List.pairwise_flatMap]
  refine ⟨h1, ?_⟩
  have := List.Pairwise.and_mem.mp h
  exact this.imp fun {a b} ⟨ha, hb, t⟩ => h2 a ha b hb t
theorem mul1_pw {n : Nat} {sts : List (List Str)} {ws : List Str} (hl : ∀ st ∈ sts, st.length = n) (h : sts.Pairwise fun a b => lexS a b = true) (hw : ws.Pairwise fun a b => sLt a b = true) : (mul1 sts ws).Pairwise fun a b => lexS a b = true := by
  refine pw_flat h (fun st _ => ?_) (fun a ha b hb t x hx y hy => ?_)
  · rw [List.pairwise_map]
    exact hw.imp fun {w v} q => lexS_same q st
  · obtain ⟨w, _, rfl⟩ := List.mem_map.mp hx
    obtain ⟨v, _, rfl⟩ := List.mem_map.mp hy
    exact lexS_app ((hl a ha).trans (hl b hb).symm) t
theorem stds_pw {S : List Way} (h : ∀ q ∈ S, q.2.Pairwise fun a b => sLt a b = true) : (stds S).Pairwise fun a b => lexS a b = true := by
  have key : ∀ (S : List Way) (n : Nat) (sts : List (List Str)), (∀ q ∈ S, q.2.Pairwise fun a b => sLt a b = true) → (∀ st ∈ sts, st.length = n) → sts.Pairwise (fun a b => lexS a b = true) → (S.foldl (fun sts q => mul1 sts q.2) sts).Pairwise fun a b => lexS a b = true := by
    intro S
    induction S with
    | nil => exact fun n sts _ _ h => h
    | cons q S ih =>
      intro n sts hq hl hp
      refine ih (n + 1) _ (fun r hr => hq r (List.mem_cons_of_mem _ hr)) (fun st hst => ?_) (mul1_pw hl hp (hq q List.mem_cons_self))
      obtain ⟨s0, h0, h1⟩ := List.mem_flatMap.mp hst
      obtain ⟨w, _, rfl⟩ := List.mem_map.mp h1
      rw [List.length_append, hl s0 h0]
      rfl
  exact key S 0 [[]] h (fun st hst => by rw [List.mem_singleton.mp hst]; rfl) (List.pairwise_singleton _ _)
/-- a shape in order -/
structure Ord (S : List Way) : Prop where
  ok : SOk S
  ns : (names S).Pairwise fun a b => sLt a b = true
  ws : ∀ q ∈ S, q.2.Pairwise fun a b => sLt a b = true
theorem sh_ord {W : List Way} (ok : WOk W) : Ord (sh W) where
  ok := ok.sok
  ns := by
    show ((sh W).map (·.1)).Pairwise _
    rw [sh_names]
    exact srt_lt ok.nd
  ws := fun q hq => by
    obtain ⟨q0, h0, rfl⟩ := sh_of ok.nd hq
    exact srt_lt (ok.wd q0 h0)
def prLt (p q : Str × Str) : Prop := sLt p.1 q.1 = true ∨ (p.1 = q.1 ∧ sLt p.2 q.2 = true)
theorem prs_pw {zs : List Str} (h : zs.Pairwise fun a b => sLt a b = true) : (prsOf zs).Pairwise prLt := by
  refine pw_flat h (fun a _ => ?_) (fun a _ b _ t x hx y hy => ?_)
  · rw [List.pairwise_map]
    exact (h.filter _).imp fun {w v} q => .inr ⟨rfl, q⟩
  · obtain ⟨w, _, rfl⟩ := List.mem_map.mp hx
    obtain ⟨v, _, rfl⟩ := List.mem_map.mp hy
    exact .inl t
def chLt (c d : Ch) : Prop := c.1 = d.1 → sLt c.2 d.2 = true
theorem ups_pw {S : List Way} (o : Ord S) (st : List Str) : (upsOf S st).Pairwise chLt := by
  refine List.Pairwise.filter _ (List.Pairwise.filter _ ?_)
  have nd : S.Pairwise fun a b => a.1 ≠ b.1 := by
    have := o.ok.nd
    unfold List.Nodup at this
    rwa [List.pairwise_map] at this
  refine pw_flat nd (fun q hq => ?_) (fun a _ b _ t x hx y hy => ?_)
  · rw [List.pairwise_map]
    exact (o.ws q hq).imp fun {w v} t (_ : q.1 = q.1) => t
  · obtain ⟨w, _, rfl⟩ := List.mem_map.mp hx
    obtain ⟨v, _, rfl⟩ := List.mem_map.mp hy
    exact fun e => absurd e t
theorem ups_of {S : List Way} (o : Ord S) (st : List Str) (z : Str) : ((upsOf S st).filter fun c => decide (c.1 = z)).Pairwise fun c d => sLt c.2 d.2 = true := by
  refine (List.Pairwise.and_mem.mp ((ups_pw o st).filter _)).imp fun {c d} ⟨hc, hd, t⟩ => t ?_
  rw [of_decide_eq_true (List.mem_filter.mp hc).2, of_decide_eq_true (List.mem_filter.mp hd).2]
theorem sqsBy_mem {S : List Way} {st : List Str} {p : Str × Str} {x : Sq} : x ∈ sqsBy st (upsOf S st) p ↔ ∃ c ∈ upsOf S st, c.1 = p.1 ∧ ∃ d ∈ upsOf S st, d.1 = p.2 ∧ x = (st, p.1, p.2, c.2, d.2) := by
  unfold sqsBy
  rw [List.mem_flatMap]
  constructor
  · rintro ⟨c, hc, hx⟩
    obtain ⟨h1, h2⟩ := List.mem_filter.mp hc
    obtain ⟨d, hd, rfl⟩ := List.mem_map.mp hx
    obtain ⟨h3, h4⟩ := List.mem_filter.mp hd
    exact ⟨c, h1, of_decide_eq_true h2, d, h3, of_decide_eq_true h4, rfl⟩
  · rintro ⟨c, h1, h2, d, h3, h4, rfl⟩
    exact ⟨c, List.mem_filter.mpr ⟨h1, decide_eq_true h2⟩, List.mem_map.mpr ⟨d, List.mem_filter.mpr ⟨h3, decide_eq_true h4⟩, rfl⟩⟩
theorem sqs_pw {S : List Way} (o : Ord S) : (sqs S).Pairwise fun x y => sqLt x y = true := by
  have hst := stds_pw o.ws
  refine pw_flat hst (fun st _ => ?_) (fun a ha b hb t x hx y hy => ?_)
  · refine pw_flat (prs_pw o.ns) (fun p _ => ?_) (fun p _ q _ t x hx y hy => ?_)
    · refine pw_flat (ups_of o st p.1) (fun c _ => ?_) (fun c _ d _ t x hx y hy => ?_)
      · unfold sqRow
        rw [List.pairwise_map]
        refine (ups_of o st p.2).imp fun {d e} t => ?_
        rw [sqLt_eq, if_pos rfl, if_pos rfl, if_pos rfl, if_pos rfl, if_neg (sLt_ne t)]
        exact t
      · obtain ⟨d1, _, rfl⟩ := List.mem_map.mp hx
        obtain ⟨d2, _, rfl⟩ := List.mem_map.mp hy
        rw [sqLt_eq, if_pos rfl, if_pos rfl, if_pos rfl, if_neg (sLt_ne t)]
        exact t
    · obtain ⟨_, _, _, _, _, _, rfl⟩ := sqsBy_mem.mp hx
      obtain ⟨_, _, _, _, _, _, rfl⟩ := sqsBy_mem.mp hy
      rcases t with t | ⟨e, t⟩
      · rw [sqLt_eq, if_pos rfl, if_neg (sLt_ne t)]
        exact t
      · rw [sqLt_eq, if_pos rfl, if_pos e, if_neg (sLt_ne t)]
        exact t
  · obtain ⟨p, _, hx'⟩ := List.mem_flatMap.mp hx
    obtain ⟨q, _, hy'⟩ := List.mem_flatMap.mp hy
    obtain ⟨_, _, _, _, _, _, rfl⟩ := sqsBy_mem.mp hx'
    obtain ⟨_, _, _, _, _, _, rfl⟩ := sqsBy_mem.mp hy'
    have hne : a ≠ b := fun e => by
      subst e
      rw [lexS_irr] at t
      cases t
    rw [sqLt_eq, if_neg hne, lexS_data ((stds_mem ha).trans (stds_mem hb).symm)]
    exact t
theorem mem_ups {S : List Way} (ok : SOk S) {st : List Str} (hl : st.length = S.length) {c : Ch} : c ∈ upsOf S st ↔ upN S st c = true := by
  constructor
  · intro h
    obtain ⟨h1, h2⟩ := List.mem_filter.mp h
    obtain ⟨q, hq, e, hv⟩ := mem_chs.mp (List.mem_filter.mp h1).1
    obtain ⟨i, hi⟩ := List.mem_iff_getElem?.mp hq
    have hil : i < st.length := by rw [hl]; exact (List.getElem?_eq_some_iff.mp hi).1
    have hz : st[i]? = some (st[i]'hil) := List.getElem?_eq_getElem hil
    obtain ⟨c1, c2⟩ := c
    have e' : q.1 = c1 := e
    subst e'
    rw [upB_at ok.nd hi hz] at h2
    rw [upN_at ok.nd hi hz, h2, decide_eq_true hv]
    rfl
  · intro h
    obtain ⟨i, q, z, hi, e, hv, hz, hlt, _⟩ := upN_facts (ch := c.1) (wy := c.2) ok hl h
    obtain ⟨c1, c2⟩ := c
    have e' : q.1 = c1 := e
    subst e'
    refine List.mem_filter.mpr ⟨List.mem_filter.mpr ⟨mem_chs.mpr ⟨q, List.mem_of_getElem? hi, rfl, hv⟩, ?_⟩, ?_⟩
    · rw [mayDo_at ok.nd hi hz, decide_eq_false fun e2 => sLt_ne hlt e2.symm]
      rfl
    · rw [upB_at ok.nd hi hz]
      exact hlt
theorem upN_name {S : List Way} {st : List Str} {c : Ch} (h : upN S st c = true) : c.1 ∈ names S := Decidable.by_contra fun hn => by
  rw [upN_no hn] at h
  cases h
theorem mem_prs {zs : List Str} {p : Str × Str} : p ∈ prsOf zs ↔ p.1 ∈ zs ∧ p.2 ∈ zs ∧ sLt p.1 p.2 = true := by
  unfold prsOf
  rw [List.mem_flatMap]
  constructor
  · rintro ⟨a, ha, hp⟩
    obtain ⟨b, hb, rfl⟩ := List.mem_map.mp hp
    exact ⟨ha, (List.mem_filter.mp hb).1, (List.mem_filter.mp hb).2⟩
  · rintro ⟨h1, h2, h3⟩
    exact ⟨p.1, h1, List.mem_map.mpr ⟨p.2, List.mem_filter.mpr ⟨h2, h3⟩, rfl⟩⟩
theorem mem_sqs {S : List Way} (ok : SOk S) {x : Sq} : x ∈ sqs S ↔ sqB S x = true := by
  unfold sqs sqsAt sqB
  rw [List.mem_flatMap]
  constructor
  · rintro ⟨st, hst, h⟩
    obtain ⟨p, hp, hx⟩ := List.mem_flatMap.mp h
    obtain ⟨c, hc, e1, d, hd, e2, rfl⟩ := sqsBy_mem.mp hx
    obtain ⟨_, _, h3⟩ := mem_prs.mp hp
    have u1 := (mem_ups ok (stds_mem hst)).mp hc
    have u2 := (mem_ups ok (stds_mem hst)).mp hd
    show (decide (st ∈ stds S) && (sLt p.1 p.2 && (upN S st (p.1, c.2) && upN S st (p.2, d.2)))) = true
    rw [← e1, ← e2, decide_eq_true hst, e1, e2, h3]
    rw [show (p.1, c.2) = c by rw [← e1], show (p.2, d.2) = d by rw [← e2], u1, u2]
    rfl
  · intro h
    obtain ⟨st, z1, z2, z3, z4⟩ := x
    have hb : (decide (st ∈ stds S) && (sLt z1 z2 && (upN S st (z1, z3) && upN S st (z2, z4)))) = true := h
    obtain ⟨h1, h2⟩ := Bool.and_eq_true_iff.mp hb
    obtain ⟨h3, h4⟩ := Bool.and_eq_true_iff.mp h2
    obtain ⟨h5, h6⟩ := Bool.and_eq_true_iff.mp h4
    have hst := of_decide_eq_true h1
    exact ⟨st, hst, List.mem_flatMap.mpr ⟨(z1, z2), mem_prs.mpr ⟨upN_name (c := (z1, z3)) h5, upN_name (c := (z2, z4)) h6, h3⟩, sqsBy_mem.mpr ⟨(z1, z3), (mem_ups ok (stds_mem hst)).mpr h5, rfl, (z2, z4), (mem_ups ok (stds_mem hst)).mpr h6, rfl, rfl⟩⟩⟩
theorem lw_at {W : List Way} {i : Nat} (ok : WOk W) (hi : i < W.length) : ∃ q ∈ W, (names (sh W))[i]? = some q.1 ∧ nA W i = q.1 ∧ lookW W q.1 = q.2 ∧ (sh W)[i]? = some (q.1, srt q.2) := by
  have hl : i < (sh W).length := by rw [sh_len]; exact hi
  obtain ⟨q, hq, e⟩ := sh_of ok.nd (List.getElem_mem hl)
  have e1 : (sh W)[i]? = some (q.1, srt q.2) := by rw [List.getElem?_eq_getElem hl, e]
  have e2 := names_at e1
  refine ⟨q, hq, e2, ?_, lookW_of ok.nd hq, e1⟩
  unfold nA
  rw [List.getD_eq_getElem?_getD, e2]
  rfl
theorem sA_at {st : List Str} {i : Nat} (hi : i < st.length) : st[i]? = some (sA st i) := by
  unfold sA
  rw [List.getD_eq_getElem?_getD, List.getElem?_eq_getElem hi]
  rfl
theorem mem_wA {W : List Way} (ok : WOk W) {st : List Str} (hl : st.length = W.length) {i : Nat} (hi : i < W.length) {v : Str} : v ∈ wA W st i ↔ upN (sh W) st (nA W i, v) = true := by
  obtain ⟨q, _, _, e2, e3, e4⟩ := lw_at ok hi
  unfold wA
  rw [e2, e3, List.mem_filter]
  have := upN_at (v := v) ok.sok.nd e4 (sA_at (st := st) (by omega))
  rw [this, Bool.and_eq_true_iff, decide_eq_true_iff]
  show _ ↔ v ∈ srt q.2 ∧ _
  rw [srt_mem]
theorem nA_lt {W : List Way} (ok : WOk W) {i k : Nat} (h : i < k) (hk : k < W.length) : sLt (nA W i) (nA W k) = true := by
  obtain ⟨_, _, e1, e1', _⟩ := lw_at ok (Nat.lt_trans h hk)
  obtain ⟨_, _, e2, e2', _⟩ := lw_at ok hk
  obtain ⟨l1, g1⟩ := List.getElem?_eq_some_iff.mp e1
  obtain ⟨l2, g2⟩ := List.getElem?_eq_some_iff.mp e2
  rw [e1', e2', ← g1, ← g2]
  exact List.pairwise_iff_getElem.mp (sh_ord ok).ns i k l1 l2 h
theorem mem_lsS {W : List Way} {st : List Str} {x : Sq} : x ∈ lsS W st ↔ ∃ i k, i < k ∧ k < W.length ∧ ∃ f ∈ wA W st i, ∃ s ∈ wA W st k, x = (st, nA W i, nA W k, f, s) := by
  unfold lsS lsI lsIK lsF
  rw [List.mem_flatMap]
  constructor
  · rintro ⟨i, hi, h⟩
    obtain ⟨k, hk, h⟩ := List.mem_flatMap.mp h
    obtain ⟨f, hf, h⟩ := List.mem_flatMap.mp h
    obtain ⟨s, hs, rfl⟩ := List.mem_map.mp h
    have h1 := (List.mem_range'_1.mp hi).2
    have h2 := List.mem_range'_1.mp hk
    exact ⟨i, k, by omega, by omega, f, hf, s, hs, rfl⟩
  · rintro ⟨i, k, h1, h2, f, hf, s, hs, rfl⟩
    exact ⟨i, List.mem_range'_1.mpr ⟨by omega, by omega⟩, List.mem_flatMap.mpr ⟨k, List.mem_range'_1.mpr ⟨by omega, by omega⟩, List.mem_flatMap.mpr ⟨f, hf, List.mem_map.mpr ⟨s, hs, rfl⟩⟩⟩⟩
theorem mem_lsAll {W : List Way} (ok : WOk W) {x : Sq} : x ∈ lsAll W ↔ sqB (sh W) x = true := by
  unfold lsAll
  rw [List.mem_flatMap]
  constructor
  · rintro ⟨st, hst, h⟩
    obtain ⟨i, k, h1, h2, f, hf, s, hs, rfl⟩ := mem_lsS.mp h
    have hl : st.length = W.length := by rw [stds_mem hst, sh_len]
    show (decide (st ∈ stds (sh W)) && (sLt (nA W i) (nA W k) && (upN (sh W) st (nA W i, f) && upN (sh W) st (nA W k, s)))) = true
    rw [decide_eq_true hst, nA_lt ok h1 h2, (mem_wA ok hl (by omega)).mp hf, (mem_wA ok hl h2).mp hs]
    rfl
  · intro h
    obtain ⟨st, z1, z2, z3, z4⟩ := x
    have hb : (decide (st ∈ stds (sh W)) && (sLt z1 z2 && (upN (sh W) st (z1, z3) && upN (sh W) st (z2, z4)))) = true := h
    obtain ⟨h1, h2⟩ := Bool.and_eq_true_iff.mp hb
    obtain ⟨h3, h4⟩ := Bool.and_eq_true_iff.mp h2
    obtain ⟨h5, h6⟩ := Bool.and_eq_true_iff.mp h4
    have hst := of_decide_eq_true h1
    have hl : st.length = W.length := by rw [stds_mem hst, sh_len]
    obtain ⟨i, _, _, _, _, _, _, _, _, ni, _⟩ := upN_facts ok.sok (stds_mem hst) h5
    obtain ⟨k, _, _, _, _, _, _, _, _, nk, _⟩ := upN_facts ok.sok (stds_mem hst) h6
    have nl : (names (sh W)).length = W.length := by
      unfold names
      rw [List.length_map, sh_len]
    have il : i < W.length := by rw [← nl]; exact (List.getElem?_eq_some_iff.mp ni).1
    have kl : k < W.length := by rw [← nl]; exact (List.getElem?_eq_some_iff.mp nk).1
    have ei : nA W i = z1 := by
      unfold nA
      rw [List.getD_eq_getElem?_getD, ni]
      rfl
    have ek : nA W k = z2 := by
      unfold nA
      rw [List.getD_eq_getElem?_getD, nk]
      rfl
    subst ei
    subst ek
    have ik : i < k := by
      rcases Nat.lt_trichotomy i k with h | h | h
      · exact h
      · subst h
        rw [sLt_irr] at h3
        cases h3
      · rw [sLt_asymm (nA_lt ok h il)] at h3
        cases h3
    exact ⟨st, hst, mem_lsS.mpr ⟨i, k, ik, kl, z3, (mem_wA ok hl il).mpr h5, z4, (mem_wA ok hl kl).mpr h6, rfl⟩⟩
theorem nd_flat {α β γ : Type} {l : List α} {f : α → List β} (key : β → γ) (g : α → γ) (hk : ∀ a ∈ l, ∀ y ∈ f a, key y = g a) (hg : l.Pairwise fun a b => g a ≠ g b) (h : ∀ a ∈ l, (f a).Nodup) : (l.flatMap f).Nodup :=
  pw_flat hg h fun a ha b hb t x hx y hy e => t (by rw [← hk a ha x hx, ← hk b hb y hy, e])
theorem wA_nd {W : List Way} (ok : WOk W) (st : List Str) {i : Nat} (hi : i < W.length) : (wA W st i).Nodup := by
  obtain ⟨q, hq, _, e2, e3, _⟩ := lw_at ok hi
  unfold wA
  rw [e2, e3]
  exact (ok.wd q hq).filter _
theorem range_ne {W : List Way} (ok : WOk W) {s n : Nat} (h : s + n ≤ W.length) : (List.range' s n).Pairwise fun i k => nA W i ≠ nA W k := by
  refine (List.Pairwise.and_mem.mp (List.pairwise_lt_range' (s := s) (n := n))).imp fun {i k} ⟨_, hk, t⟩ => sLt_ne (nA_lt ok t ?_)
  have := (List.mem_range'_1.mp hk).2
  omega
theorem lsAll_nd {W : List Way} (ok : WOk W) : (lsAll W).Nodup := by
  have gone : ∀ {st : List Str} {i k : Nat} {x : Sq}, x ∈ lsIK W st i k → x.1 = st ∧ x.2.1 = nA W i ∧ x.2.2.1 = nA W k := by
    intro st i k x h
    obtain ⟨f, _, h⟩ := List.mem_flatMap.mp h
    obtain ⟨s, _, rfl⟩ := List.mem_map.mp h
    exact ⟨rfl, rfl, rfl⟩
  have goneI : ∀ {st : List Str} {i : Nat} {x : Sq}, x ∈ lsI W st i → x.1 = st ∧ x.2.1 = nA W i := by
    intro st i x h
    obtain ⟨k, _, h⟩ := List.mem_flatMap.mp h
    exact ⟨(gone h).1, (gone h).2.1⟩
  refine nd_flat (fun x : Sq => x.1) id (fun st _ x h => ?_) (stds_nd ok.sok.wd) fun st _ => ?_
  · obtain ⟨i, _, h⟩ := List.mem_flatMap.mp h
    exact (goneI h).1
  refine nd_flat (fun x : Sq => x.2.1) (nA W) (fun i _ x h => (goneI h).2) (range_ne ok (by omega)) fun i hi => ?_
  have hi' := (List.mem_range'_1.mp hi).2
  refine nd_flat (fun x : Sq => x.2.2.1) (nA W) (fun k _ x h => (gone h).2.2) (range_ne ok (by omega)) fun k hk => ?_
  have hk' := (List.mem_range'_1.mp hk).2
  refine nd_flat (fun x : Sq => x.2.2.2.1) id (fun f _ x h => ?_) (wA_nd ok st (by omega)) fun f _ => ?_
  · obtain ⟨s, _, rfl⟩ := List.mem_map.mp h
    rfl
  · unfold lsF
    unfold List.Nodup
    rw [List.pairwise_map]
    exact (wA_nd ok st (by omega)).imp fun {a b} t e => t (congrArg (fun x : Sq => x.2.2.2.2) e)
theorem lsq_sorted {W : List Way} (ok : WOk W) : (lsAll W).mergeSort (PySem.W.dataLe false sqD) = sqs (sh W) := by
  have pw := sqs_pw (sh_ord ok)
  have nd2 : (sqs (sh W)).Nodup := pw.imp fun {a b} t e => by
    subst e
    have := sqLt_asymm a a t
    rw [t] at this
    cases this
  have T := PySem.W.sortLe_total (PyProof.Rows.listOrd PyProof.Rows.itemOrd) false fun b : Sq => PySem.W.keyToks (sqD b)
  refine strict_uniq sqLt_asymm (lt := sqLt) ?_ pw ((List.mergeSort_perm _ _).trans ((List.perm_ext_iff_of_nodup (lsAll_nd ok) nd2).mpr fun x => (mem_lsAll ok).trans (mem_sqs ok.sok).symm))
  exact List.pairwise_mergeSort T.trans (fun a b => by rcases T.total a b with h | h <;> simp [PySem.W.dataLe, h]) _
end HG

set_option maxHeartbeats 1000000
namespace HG
open PySem PySem.Spec PyProof.Rows L2 HT
open C8 (pss_cut tCut)
theorem wA_len {W : List Way} (ok : WOk W) (st : List Str) {i : Nat} (hi : i < W.length) : (wA W st i).length ≤ 4 := by
  obtain ⟨q, hq, _, e, hk, _⟩ := lw_at ok hi
  refine Nat.le_trans (List.length_filter_le _ _) ?_
  rw [e, hk]
  exact ok.w4 q hq
section
variable {K : PySem.W.Frag}
theorem lw_filter {σ : L2.St} {H : Hp} {Q : VK} {j i : Nat} {d n a : Addr} {W : List Way} {st : List Str} (ok : WOk W) (l9 : σ.length = 9) (hj8 : j < 8) (h0 : σ[0]? = some (some (.ref d))) (h1 : σ[1]? = some (some (.ref n))) (h3 : σ[3]? = some (some (.ref a))) (hj : σ[j]? = some (some (.int (i : Int)))) (hi : i < W.length)
    (hsh : ShL (fun _ => True) H d W) (hn : H n = some (.lst ((names (sh W)).map V.str))) (ha : H a = some (.tup (st.map V.str))) (hl : st.length = W.length)
    (k : ∀ p H', Same H H' → H p = none → H' p = some (.lst ((wA W st i).map V.str)) → Q (.ref p) H') :
    tLc (iList K (tDGet (tVar 0) (tOp (rIxL K) (tVar 1) (tVar j)))) (gName 8) (tTest (tOp rGtS (tVar 8) (tOp (rIxT K) (tVar 3) (tVar j)))) (tVar 8) [8] σ H Q := by
  obtain ⟨q, hq, e1, e2, e3, _⟩ := lw_at ok hi
  obtain ⟨kvs, hd, hp⟩ := id hsh
  obtain ⟨b, hv, _, hb⟩ := way_at hp ok.nd hq
  have hw : ∀ v : V, wipe ((wipe σ [8]).set 8 (some v)) [8] = wipe σ [8] := fun v => by
    have := wipe_two (σ := σ) (vs := [8]) (i := 8) (j := 8) (x := some v) (y := some v) (by decide) (by decide)
    rwa [List.set_set] at this
  have h8 : ∀ v : V, ((wipe σ [8]).set 8 (some v))[8]? = some (some v) := fun v => List.getElem?_set_self (by rw [wipe_length]; omega)
  have hk : ∀ {m : Nat} {x : Option V} (v : V), σ[m]? = some x → m < 8 → ((wipe σ [8]).set 8 (some v))[m]? = some x := fun v e hm => by
    rw [List.getElem?_set_ne (by omega), wipe_get, if_neg (by simp; omega), e]
  refine ⟨_, h0, _, h1, _, hj, n, _, _, .str (nA W i), rfl, rfl, SqL.of hn, atI_nat (by rw [List.getElem?_map, e1, e2]; rfl), d, .ref b, rfl, ?_, b, rfl, ⟨_, SqL.of hb⟩, fun D nD => ?_⟩
  · rw [e2, ← hv]
    exact DGet.k (k := Sum.inr q.1) hd
  have sD := same_upd (o := .lst []) nD
  have ew : wA W st i = q.2.filter (sLt (sA st i)) := by
    unfold wA
    rw [e2, e3]
  refine lc_it (walk_list (K := K) (a := b) (xs := q.2.map V.str)) (fun m H' => H' D = some (.lst (((q.2.take m).filter (sLt (sA st i))).map V.str)) ∧ Same H H') ⟨upd_same, sD⟩ (fun m H' _ ⟨_, sx⟩ => SqL.of (sx _ _ hb)) ?_ ?_
  · rintro m y Hz H2 hm ⟨hD, s2⟩ ⟨rfl, hy⟩
    rw [List.getElem?_map] at hy
    obtain ⟨z, hz, rfl⟩ := Option.map_eq_some_iff.mp hy
    have fm := filt_more (sLt (sA st i)) hz
    refine ⟨hw _, _, h8 _, _, hk _ h3 (by decide), _, hk _ hj hj8, a, _, _, .str (sA st i), rfl, rfl, SqT.of (s2 _ _ ha), atI_nat (by rw [List.getElem?_map, sA_at (by omega)]; rfl), _, _, rfl, rfl, _, rfl, ?_⟩
    rw [show decide ((sA st i).cps.toList < z.cps.toList) = sLt (sA st i) z from rfl]
    cases e : sLt (sA st i) z with
    | false =>
      refine iteF ⟨?_, s2⟩
      rw [fm, e, if_neg (by decide), List.append_nil]
      exact hD
    | true =>
      refine iteT ⟨_, h8 _, _, hD, small1000 ?_, ?_, fun b o e' => ?_⟩
      · rw [List.length_map]
        have h1 := List.length_filter_le (sLt (sA st i)) (q.2.take m)
        have h2 : (q.2.take m).length ≤ q.2.length := List.length_take_le' ..
        have := ok.w4 q hq
        omega
      · rw [upd_same, fm, e, if_pos rfl, List.map_append]
        rfl
      · rw [upd_ne (ne_of_none e' nD)]
        exact s2 _ _ e'
  · rintro H2 ⟨hD, s2⟩
    rw [List.length_map, List.take_length, ← ew] at hD
    exact k D H2 s2 nD hD
structure QI (H1 H2 H' : Hp) (F : Addr) (acc : List Sq) : Prop where
  s : Same H1 H'
  b : But F H2 H'
  n : H1 F = none
  f : ∃ zs, H' F = some (.lst zs) ∧ Paired (SqAt H') acc zs
theorem QI.same {H1 H2 H3 H4 : Hp} {F : Addr} {acc : List Sq} (h : QI H1 H2 H3 F acc) (s : Same H3 H4) : QI H1 H2 H4 F acc := ⟨h.s.trans s, h.b.trans (But.of s), h.n, let ⟨zs, h1, h2⟩ := h.f; ⟨zs, s _ _ h1, paired_imp h2 fun _ _ q => q.same s⟩⟩
theorem QI.add {H1 H2 H3 : Hp} {F : Addr} {acc : List Sq} {x : Sq} {v : V} {zs : List V} (h : QI H1 H2 H3 F acc) (hz : H3 F = some (.lst zs)) (hp : Paired (SqAt H3) acc zs) (hx : SqAt H3 x v) : QI H1 H2 (upd H3 F (.lst (zs ++ [v]))) F (acc ++ [x]) :=
  ⟨fun b o e => by rw [upd_ne (ne_of_none e h.n)]; exact h.s _ _ e, h.b.upd, h.n, _, upd_same, paired_append (paired_imp hp fun _ _ q => q.upd hz) (.cons (hx.upd hz) .nil)⟩
/-- what stands while the list of squares grows -/
structure QB (K : PySem.W.Frag) (H1 H2 : Hp) (d n F a : Addr) (W : List Way) (st : List Str) : Prop where
  hsh : ShL (fun _ => True) H1 d W
  hn : H1 n = some (.lst ((names (sh W)).map V.str))
  ha : H2 a = some (.tup (st.map V.str))
  hl : st.length = W.length
  hF : ∃ zs, H2 F = some (.lst zs)
theorem QB.tup {H1 H2 H' : Hp} {d n F a : Addr} {W : List Way} {st : List Str} {acc : List Sq} (h : QB K H1 H2 d n F a W st) (q : QI H1 H2 H' F acc) : H' a = some (.tup (st.map V.str)) :=
  let ⟨_, e⟩ := h.hF
  q.b _ _ h.ha (ne_of h.ha e (by intro z; cases z))
abbrev tApp (K : PySem.W.Frag) : TS := tDrop (tBM K "list" rAppend (tVar 2) (tCons (tTup (tCons (tVar 3) (tCons (tOp (rIxL K) (tVar 1) (tVar 4)) (tCons (tOp (rIxL K) (tVar 1) (tVar 5)) (tCons (tVar 6) (tCons (tVar 7) tNil)))))) tNil))
abbrev tFlt (K : PySem.W.Frag) (j : Nat) : TE := tLc (iList K (tDGet (tVar 0) (tOp (rIxL K) (tVar 1) (tVar j)))) (gName 8) (tTest (tOp rGtS (tVar 8) (tOp (rIxT K) (tVar 3) (tVar j)))) (tVar 8) [8]
theorem for_list {te : TE} {g : TG} {tb : TS} {D : Ends} {σ : L2.St} {H : Hp} (h : te σ H fun x H1 => ∃ a, x = .ref a ∧ (∃ xs, SqL K H1 a xs) ∧ ∃ W : Nat → Nat → L2.St → Hp → Prop, (∃ m, W 0 m σ H1) ∧ ∀ i m σ H, W i m σ H →
  ((Itl K a).stop i H ∧ D.nx σ H) ∨ ((Itl K a).go i H ∧ ∃ N : L2.St → Hp → Prop, (∀ σ' H', N σ' H' → ∃ m', m' < m ∧ W (i + 1) m' σ' H') ∧ ∀ x H', (Itl K a).yld i H x H' → g x σ H' fun σ2 H2 => tb { D with nx := N, ct := N, bk := D.nx } σ2 H2)) : tFor (iList K te) g tb D σ H := h
theorem lq_in {H1 H2 H' : Hp} {D : Ends} {d n F a : Addr} {W : List Way} {st : List Str} {acc : List Sq} {i k : Nat} {v6 v7 v8 : Option V} (ok : WOk W) (B : QB K H1 H2 d n F a W st) (q : QI H1 H2 H' F acc) (hi : i < W.length) (hk : k < W.length) (al : acc.length ≤ 1000000)
    (hN : ∀ H'' u6 u7 u8, QI H1 H2 H'' F (acc ++ lsIK W st i k) → D.nx [some (.ref d), some (.ref n), some (.ref F), some (.ref a), some (.int (i : Int)), some (.int (k : Int)), u6, u7, u8] H'') :
    tFor (iList K (tFlt K 4)) (gName 6) (tFor (iList K (tFlt K 5)) (gName 7) (tApp K)) D [some (.ref d), some (.ref n), some (.ref F), some (.ref a), some (.int (i : Int)), some (.int (k : Int)), v6, v7, v8] H' := by
  have w1 := wA_len ok st hi
  have w2 := wA_len ok st hk
  have n1 := (lw_at ok hi)
  have n2 := (lw_at ok hk)
  refine for_list ?_
  refine lw_filter (j := 4) (n := n) (a := a) ok rfl (by decide) rfl rfl rfl rfl hi (B.hsh.same q.s) (q.s _ _ B.hn) (B.tup q) B.hl fun p H3 s3 np hp => ⟨p, rfl, ⟨_, SqL.of hp⟩, ?_⟩
  have q3 := q.same s3
  refine for_it (walk_list (K := K) (a := p) (xs := (wA W st i).map V.str)) (fun x σ Hx => ∃ u6 u7 u8, σ = [some (.ref d), some (.ref n), some (.ref F), some (.ref a), some (.int (i : Int)), some (.int (k : Int)), u6, u7, u8] ∧ QI H1 H2 Hx F (acc ++ ((wA W st i).take x).flatMap (lsF W st i k)) ∧ Hx p = some (.lst ((wA W st i).map V.str)))
    ⟨v6, v7, v8, rfl, by rw [List.take_zero, List.flatMap_nil, List.append_nil]; exact q3, hp⟩ (fun x σ Hx _ ⟨_, _, _, _, _, h⟩ => SqL.of h) ?_ ?_
  · rintro x y σ Hx Hz hx ⟨u6, u7, u8, rfl, qx, hpx⟩ ⟨rfl, hy⟩
    rw [List.getElem?_map] at hy
    obtain ⟨f, hf, rfl⟩ := Option.map_eq_some_iff.mp hy
    refine for_list ?_
    refine lw_filter (j := 5) (n := n) (a := a) ok rfl (by decide) rfl rfl rfl rfl hk (B.hsh.same qx.s) (qx.s _ _ B.hn) (B.tup qx) B.hl fun p2 H5 s5 np2 hp2 => ⟨p2, rfl, ⟨_, SqL.of hp2⟩, ?_⟩
    have q5 := qx.same s5
    have hF5 := q5.f
    have pF : p ≠ F := fun z => by
      obtain ⟨zs, e, _⟩ := q.f
      rw [z, e] at np
      cases np
    have p2F : p2 ≠ F := fun z => by
      obtain ⟨zs, e, _⟩ := qx.f
      rw [z, e] at np2
      cases np2
    have bl : (((wA W st i).take x).flatMap (lsF W st i k)).length ≤ 4 * 4 := by
      refine Nat.le_trans (flat_len (m := 4) _ fun c _ => ?_) (Nat.mul_le_mul_right 4 (Nat.le_trans (List.length_take_le' ..) w1))
      unfold lsF
      rw [List.length_map]
      exact w2
    refine for_it (walk_list (K := K) (a := p2) (xs := (wA W st k).map V.str)) (fun y σ Hy => ∃ u7 u8, σ = [some (.ref d), some (.ref n), some (.ref F), some (.ref a), some (.int (i : Int)), some (.int (k : Int)), some (.str f), u7, u8] ∧ QI H1 H2 Hy F (acc ++ ((wA W st i).take x).flatMap (lsF W st i k) ++ ((wA W st k).take y).map fun s => (st, nA W i, nA W k, f, s)) ∧ Hy p = some (.lst ((wA W st i).map V.str)) ∧ Hy p2 = some (.lst ((wA W st k).map V.str)))
      ⟨u7, u8, rfl, by rw [List.take_zero, List.map_nil, List.append_nil]; exact q5, s5 _ _ hpx, hp2⟩ (fun x σ Hx _ ⟨_, _, _, _, _, h⟩ => SqL.of h) ?_ ?_
    · rintro y z σ Hy Hz hy ⟨u7, u8, rfl, qy, hpy, hp2y⟩ ⟨rfl, hz⟩
      rw [List.getElem?_map] at hz
      obtain ⟨g, hg, rfl⟩ := Option.map_eq_some_iff.mp hz
      obtain ⟨zs, hF, hzs⟩ := qy.f
      have hny := qy.s _ _ B.hn
      obtain ⟨_, _, e1, e1', _⟩ := n1
      obtain ⟨_, _, e2, e2', _⟩ := n2
      refine ⟨_, rfl, ?_, _, rfl, _, rfl, _, rfl, n, _, _, .str (nA W i), rfl, rfl, SqL.of hny, atI_nat (by rw [List.getElem?_map, e1, e1']; rfl), _, rfl, _, rfl, n, _, _, .str (nA W k), rfl, rfl, SqL.of hny, atI_nat (by rw [List.getElem?_map, e2, e2']; rfl), _, rfl, _, rfl, (by show 5 ≤ sizeLine; decide), fun t nt => ?_⟩
      · exact .inl ⟨rfl, _, SqL.of hF⟩
      have st5 := same_upd (o := .tup [V.ref a, V.str (nA W i), V.str (nA W k), V.str f, V.str g]) nt
      have qt := qy.same st5
      have hFt := st5 _ _ hF
      refine ⟨F, zs, _, rfl, rfl, hFt, ?_, ?_⟩
      · rw [← Paired.length hzs, List.length_append, List.length_append, List.length_map, sizeLine_eq]
        have h2 : ((wA W st k).take y).length ≤ (wA W st k).length := List.length_take_le' ..
        omega
      · refine ⟨_, _, rfl, ?_, ?_, ?_⟩
        · rw [List.take_add_one, hg, List.map_append, ← List.append_assoc]
          exact qt.add hFt (paired_imp hzs fun _ _ h => h.same st5) ⟨t, a, rfl, upd_same, B.tup qt⟩
        · rw [upd_ne pF]
          exact st5 _ _ hpy
        · rw [upd_ne p2F]
          exact st5 _ _ hp2y
    · rintro σ Hy ⟨u7, u8, rfl, qy, hpy, _⟩
      rw [List.length_map, List.take_length] at qy
      refine ⟨_, _, _, rfl, ?_, hpy⟩
      rw [flat_more _ hf, ← List.append_assoc]
      exact qy
  · rintro σ Hx ⟨u6, u7, u8, rfl, qx, _⟩
    rw [List.length_map, List.take_length] at qx
    exact hN Hx _ _ _ qx
end
end HG

namespace HG
open PySem PySem.Spec PyProof.Rows L2 HT
open C8 (pss_cut tCut)
structure DfB (K : PySem.W.Frag) (mg : Str → Option Value) (x : Str) (st : Stmt) (ps : List Str) (f : Addr) (fd : FuncData) : Prop where
  d : Df K mg x st f fd
  b : Binds K fd ps []
def spLSqs (K : PySem.W.Frag) : Sp := fun args H Q _ => ∃ (d : Addr) (W : List Way), args = [.ref d] ∧ ShL (fun _ => True) H d W ∧ WOk W ∧ ∀ H' p vs, Same H H' → H p = none → H' p = some (.lst vs) → Paired (SqAt H') (sqs (sh W)) vs → Q (.ref p) H'
abbrev NsLQ : List Str := ["_law_ways", "_law_names_here", "_law_found", "_law_standing", "_law_i", "_law_k", "_law_first", "_law_second", "_law_way"]
theorem sq_dp {K : PySem.W.Frag} {H : Hp} {x : Sq} {v : V} (h : SqAt H x v) : Dp K H v (sqD x) := by
  obtain ⟨p, a, rfl, h1, h2⟩ := h
  exact .tup (SqT.of h1) (.cons (dp_tup (SqT.of h2)) (.cons (.str _) (.cons (.str _) (.cons (.str _) (.cons (.str _) .nil)))))
theorem sq_alike (x y : Sq) : PySem.W.alike (sqD x) (sqD y) = true := by
  unfold sqD dT
  simp [PySem.W.alike, PySem.W.alikeAll, alike_strs]
theorem lsF_len {W : List Way} (ok : WOk W) (st : List Str) {i k : Nat} (hk : k < W.length) (f : Str) : (lsF W st i k f).length ≤ 4 := by
  unfold lsF
  rw [List.length_map]
  exact wA_len ok st hk
theorem lsIK_len {W : List Way} (ok : WOk W) (st : List Str) {i k : Nat} (hi : i < W.length) (hk : k < W.length) : (lsIK W st i k).length ≤ 4 * 4 :=
  Nat.le_trans (flat_len (m := 4) _ fun f _ => lsF_len ok st hk f) (Nat.mul_le_mul_right 4 (wA_len ok st hi))
theorem lsI_take {W : List Way} (ok : WOk W) (st : List Str) {i x : Nat} (hi : i < W.length) (hx : i + 1 + x ≤ W.length) : ((List.range' (i + 1) x).flatMap (lsIK W st i)).length ≤ 4 * 16 := by
  refine Nat.le_trans (flat_len (m := 16) _ fun k hk => lsIK_len ok st hi ?_) (Nat.mul_le_mul_right 16 ?_)
  · have := (List.mem_range'_1.mp hk).2
    omega
  · rw [List.length_range']
    have := ok.n4
    omega
theorem lsI_len {W : List Way} (ok : WOk W) (st : List Str) {i : Nat} (hi : i < W.length) : (lsI W st i).length ≤ 64 := lsI_take ok st hi (by omega)
theorem lsS_take {W : List Way} (ok : WOk W) (st : List Str) {x : Nat} (hx : x ≤ W.length) : ((List.range' 0 x).flatMap (lsI W st)).length ≤ 4 * 64 := by
  refine Nat.le_trans (flat_len (m := 64) _ fun k hk => lsI_len ok st ?_) (Nat.mul_le_mul_right 64 ?_)
  · have := (List.mem_range'_1.mp hk).2
    omega
  · rw [List.length_range']
    have := ok.n4
    omega
theorem lsAll_take {W : List Way} (ok : WOk W) {m : Nat} : (((stds (sh W)).take m).flatMap (lsS W)).length ≤ 256 * 256 := by
  refine Nat.le_trans (flat_len (m := 256) _ fun st _ => lsS_take ok st (Nat.le_refl _)) (Nat.mul_le_mul_right 256 ?_)
  refine Nat.le_trans (List.length_take_le' ..) (Nat.le_trans (stds_len ok.sok.w4) ?_)
  rw [show 256 = 4 ^ 4 from rfl]
  exact Nat.pow_le_pow_right (by decide) ok.sok.n4
theorem sqD_depth (x : Sq) : (sqD x).depth = 2 := by
  have h := dT_depth x.1
  unfold sqD
  rw [PyData.depth, PyData.depthAll, h]
  simp [PyData.depthAll, PyData.depth]
section
variable {P : Program} {w : World} {K : PySem.W.Frag} {mg : Str → Option Value} {base : Heap}
theorem ok_lsquares {f fS : Addr} {fd dS : FuncData} (ms : mg "sorted" = none) (mr : mg "range" = none) (ml : mg "len" = none) (LS : DfB K mg "_law_standings" s_law_standings ["_law_ways"] fS dS) (oS : FnOk P w K mg base CX0 2 fS dS ["_law_ways"] (spLStds K))
    (F : Fun K "_law_squares" "_law_squares" s_law_squares f fd) : FnOk P w K mg base CX0 3 f fd ["_law_ways"] (spLSqs K) := by
  have S : FnScope NsLQ ["_law_ways"] (defScope s_law_squares) := ⟨rfl, rfl, rfl, by decide +kernel, rfl, by decide +kernel, by decide +kernel⟩
  have nd := S.nd
  refine F.ok S (fun vs H Q E h => ?_) (fun cdv A outer s H vs Q E hr h => ?_)
  · obtain ⟨d, W, rfl, _⟩ := h
    rfl
  · obtain ⟨d, W, rfl, hsh, ok, q⟩ := h
    have hu := hu_of hr
    have hu64 := hr.units
    refine ⟨_, pss_cons (ps_par (i := 1) (j := 2) (by rfl) nd rfl rfl (by decide) rfl rfl (pa_cons (pe_callB (call_srtD rfl) (by rfl) ms (by decide +kernel) (pa_cons (pv 0) pa_nil)) (pa_cons (pe_lst pa_nil) pa_nil)) (by rfl))
      (pss_cons (ps_for PassesOwn.never rfl (pi_list (pe_call oS (hr.mono (by decide)) (by rfl) LS.d.g LS.d.F.kp LS.b .nil pass0 (pa_cons (pv 0) pa_nil))) (pg_name (i := 3) nd rfl (Or.inr rfl))
        (pss_one (ps_for PassesOwn.never rfl (pi_range1 rfl mr (pa_cons (pe_callB call_len_seq (by rfl) ml PySem.boot_len (pa_cons (pv 1) pa_nil)) pa_nil)) (pg_name (i := 4) nd rfl (Or.inr rfl))
        (pss_one (ps_for PassesOwn.never rfl (pi_range2 rfl mr (pa_cons (pe_op op_add (pv 4) pe_int) (pa_cons (pe_callB call_len_seq (by rfl) ml PySem.boot_len (pa_cons (pv 1) pa_nil)) pa_nil))) (pg_name (i := 5) nd rfl (Or.inr rfl))
        (pss_one (ps_for PassesOwn.never rfl (pi_list (pe_lc (own := [("_law_way", 8)]) (g := gName 8) rfl nd (pi_list (pe_dget hu (pv 0) (pe_ix (r := rIxL K) ix_list (pv 1) (pv 4) (fun _ _ => rfl)) (fun _ _ => rfl))) (blkOk_by (N := NsLQ) (sc := defScope s_law_squares) (by decide +kernel)) (fun _ _ _ _ _ => pg_name (i := 8) nd rfl (Or.inl rfl))
          (fun _ _ _ _ _ => pts_one (pt_cmpR (r := rGtS) op_gt_str (pv 8) (pe_ix (r := rIxT K) ix_tup (pv 3) (pv 4) (fun _ _ => rfl)) (nomark _))) (fun _ _ _ _ _ => pv 8))) (pg_name (i := 6) nd rfl (Or.inl rfl))
        (pss_one (ps_for PassesOwn.never rfl (pi_list (pe_lc (own := [("_law_way", 8)]) (g := gName 8) rfl nd (pi_list (pe_dget hu (pv 0) (pe_ix (r := rIxL K) ix_list (pv 1) (pv 5) (fun _ _ => rfl)) (fun _ _ => rfl))) (blkOk_by (N := NsLQ) (sc := defScope s_law_squares) (by decide +kernel)) (fun _ _ _ _ _ => pg_name (i := 8) nd rfl (Or.inl rfl))
          (fun _ _ _ _ _ => pts_one (pt_cmpR (r := rGtS) op_gt_str (pv 8) (pe_ix (r := rIxT K) ix_tup (pv 3) (pv 5) (fun _ _ => rfl)) (nomark _))) (fun _ _ _ _ _ => pv 8))) (pg_name (i := 7) nd rfl (Or.inl rfl))
        (pss_one (ps_expr (pe_bm PySem.F.plainAttrs_list PySem.F.slot_list_append PySem.F.type_list_append mt_append (pv 2) (pa_cons (pe_tup (pa_cons (pv 3) (pa_cons (pe_ix ix_list (pv 1) (pv 4) (fun _ _ => rfl)) (pa_cons (pe_ix ix_list (pv 1) (pv 5) (fun _ _ => rfl)) (pa_cons (pv 6) (pa_cons (pv 7) pa_nil)))))) pa_nil)))))))))))))
      (pss_one (ps_ret (pe_callB (call_sortD (enc := sqD) hu64) (by rfl) ms (by decide +kernel) (pa_cons (pv 2) pa_nil))))), ?_⟩
    obtain ⟨kvs, hd, hp⟩ := id hsh
    have n4 := ok.n4
    refine ⟨_, rfl, d, kvs, W.map (·.1), rfl, hd, keysL hp, (by rw [List.length_map]; omega), fun n nn => ?_⟩
    have s1 := same_upd (o := .lst ((srt (W.map (·.1))).map V.str)) nn
    have hn : (upd H n (.lst ((srt (W.map (·.1))).map V.str))) n = some (.lst ((names (sh W)).map V.str)) := by
      rw [upd_same]
      show _ = some (HO.lst (((sh W).map (·.1)).map V.str))
      rw [sh_names]
    generalize (upd H n (.lst ((srt (W.map (·.1))).map V.str))) = H1 at s1 hn
    refine ⟨(by show 0 ≤ sizeLine; decide), fun F nF => ⟨_, _, rfl, ?_⟩⟩
    have s2 := same_upd (o := .lst []) nF
    have hF2 := upd_same (H := H1) (a := F) (o := .lst [])
    generalize (upd H1 F (.lst [])) = H2 at s2 hF2
    have hsh1 := hsh.same s1
    refine ⟨_, rfl, d, W, rfl, (hsh1.same s2).at, ok, fun H3 p vs s3 np hpv hvs => ?_⟩
    have s13 := s2.trans s3
    have hF3 := s3 _ _ hF2
    have pF : p ≠ F := fun z => by
      rw [z, hF2] at np
      cases np
    have Q0 : QI H1 H3 H3 F [] := ⟨s13, fun b o e _ => e, nF, [], hF3, .nil⟩
    refine ⟨p, rfl, ⟨_, SqL.of hpv⟩, for_it (walk_list (K := K) (a := p) (xs := vs)) (fun x σ Hx => ∃ v3 v4 v5 v6 v7 v8, σ = [some (.ref d), some (.ref n), some (.ref F), v3, v4, v5, v6, v7, v8] ∧ QI H1 H3 Hx F (((stds (sh W)).take x).flatMap (lsS W)))
      ⟨none, none, none, none, none, none, rfl, Q0⟩ (fun x σ Hx _ ⟨_, _, _, _, _, _, _, qx⟩ => SqL.of (qx.b _ _ hpv pF)) ?_ ?_⟩
    · rintro x y σ Hx Hz hx ⟨v3, v4, v5, v6, v7, v8, rfl, qx⟩ ⟨rfl, hy⟩
      obtain ⟨st, hst, a, rfl, ha⟩ := paired_get hvs hy
      have hl : st.length = W.length := by rw [stds_mem (List.mem_of_getElem? hst), sh_len]
      have B : QB K H1 H3 d n F a W st := ⟨hsh1, hn, ha, hl, _, hF3⟩
      have hlen : ((names (sh W)).map V.str).length = W.length := by
        rw [List.length_map]
        show ((sh W).map _).length = _
        rw [List.length_map, sh_len]
      have al := lsAll_take ok (m := x)
      refine ⟨_, rfl, n, _, rfl, .inl (SqL.of (qx.s _ _ hn)), ?_⟩
      rw [hlen]
      refine ⟨_, rfl, by omega, by omega, for_range (lo := 0) (n := W.length) (fun i σ Hy => ∃ v4 v5 v6 v7 v8, σ = [some (.ref d), some (.ref n), some (.ref F), some (.ref a), v4, v5, v6, v7, v8] ∧ QI H1 H3 Hy F (((stds (sh W)).take x).flatMap (lsS W) ++ (List.range' 0 i).flatMap (lsI W st)))
        ⟨v4, v5, v6, v7, v8, rfl, by rw [List.range'_zero, List.flatMap_nil, List.append_nil]; exact qx⟩ ?_ ?_⟩
      · rintro i σ Hy hi ⟨v4, v5, v6, v7, v8, rfl, qy⟩
        rw [Int.zero_add]
        have al2 := lsS_take ok st (x := i) (by omega)
        refine ⟨_, rfl, _, _, rfl, rfl, _, rfl, n, _, rfl, .inl (SqL.of (qy.s _ _ hn)), ?_⟩
        rw [hlen]
        refine ⟨_, _, rfl, ⟨by omega, by omega, by omega, by omega⟩, ?_⟩
        rw [show ((W.length : Int) - ((i : Int) + 1)).toNat = W.length - (i + 1) by omega]
        refine for_range (lo := (i : Int) + 1) (n := W.length - (i + 1)) (fun k σ Hw => ∃ v5 v6 v7 v8, σ = [some (.ref d), some (.ref n), some (.ref F), some (.ref a), some (.int (i : Int)), v5, v6, v7, v8] ∧ QI H1 H3 Hw F (((stds (sh W)).take x).flatMap (lsS W) ++ (List.range' 0 i).flatMap (lsI W st) ++ (List.range' (i + 1) k).flatMap (lsIK W st i)))
          ⟨v5, v6, v7, v8, rfl, by rw [List.range'_zero, List.flatMap_nil, List.append_nil]; exact qy⟩ ?_ ?_
        · rintro k σ Hw hk ⟨v5, v6, v7, v8, rfl, qw⟩
          rw [show (i : Int) + 1 + (k : Int) = ((i + 1 + k : Nat) : Int) by omega]
          have al3 := lsI_take ok st (i := i) (x := k) hi (by omega)
          refine lq_in ok B qw hi (by omega) (by rw [List.length_append, List.length_append]; omega) fun H'' u6 u7 u8 q' => ⟨_, _, _, _, rfl, ?_⟩
          rw [List.range'_1_concat, List.flatMap_append, List.flatMap_cons, List.flatMap_nil, List.append_nil, ← List.append_assoc]
          exact q'
        · rintro σ Hw ⟨v5, v6, v7, v8, rfl, qw⟩
          refine ⟨_, _, _, _, _, rfl, ?_⟩
          rw [List.range'_1_concat, List.flatMap_append, List.flatMap_cons, List.flatMap_nil, List.append_nil, ← List.append_assoc, Nat.zero_add]
          exact qw
      · rintro σ Hy ⟨v4, v5, v6, v7, v8, rfl, qy⟩
        refine ⟨_, _, _, _, _, _, rfl, ?_⟩
        rw [flat_more _ hst]
        exact qy
    · rintro σ Hx ⟨v3, v4, v5, v6, v7, v8, rfl, qx⟩
      rw [← Paired.length hvs, List.take_length] at qx
      obtain ⟨zs, hF, hzs⟩ := qx.f
      refine ⟨_, rfl, F, zs, lsAll W, SqAt Hx, rfl, SqL.of hF, hzs, fun x v h => sq_dp h, sq_alike, .inl (fun e he => ?_), fun x hx => ?_, fun zs' p' hz' np' => ?_⟩
      · obtain ⟨x, _, rfl⟩ := List.mem_map.mp he
        exact ⟨_, _, rfl⟩
      · rw [sqD_depth]
        decide
      · rw [lsq_sorted ok] at hz'
        have sp := same_upd (o := .lst zs') np'
        have s0 := s1.trans qx.s
        exact q _ p' zs' (s0.trans sp) (s0.free np') upd_same (paired_imp hz' fun _ _ h => h.same sp)
end
end HG

namespace HG
open PySem PySem.Spec PyProof.Rows L2 HT
open C8 (pss_cut tCut)
abbrev NsLC : List Str := ["_law_ways", "_law_square", "_law_names_here", "_law_i", "_law_k", "_law_low", "_law_second", "_law_third"]
abbrev NsLM : List Str := ["_law_ways", "_law_gains_here", "_law_square", "_law_i", "_law_k", "_law_spots", "_law_told", "_law_own", "_law_its", "_law_spot"]
abbrev iO (S : List Way) (x : Sq) : Nat := (names S).idxOf x.2.1
abbrev kO (S : List Way) (x : Sq) : Nat := (names S).idxOf x.2.2.1
/-- the four corners -/
def c2 (S : List Way) (x : Sq) : List Str := x.1.set (iO S x) x.2.2.2.1
def c3 (S : List Way) (x : Sq) : List Str := (c2 S x).set (kO S x) x.2.2.2.2
def c4 (S : List Way) (x : Sq) : List Str := x.1.set (kO S x) x.2.2.2.2
structure CorAt (H : Hp) (S : List Way) (x : Sq) (L p1 p2 p3 p4 : Addr) : Prop where
  l : H L = some (.lst [.ref p1, .ref p2, .ref p3, .ref p4])
  h1 : H p1 = some (.tup (x.1.map V.str))
  h2 : H p2 = some (.tup ((c2 S x).map V.str))
  h3 : H p3 = some (.tup ((c3 S x).map V.str))
  h4 : H p4 = some (.tup ((c4 S x).map V.str))
theorem CorAt.same {H H' : Hp} {S : List Way} {x : Sq} {L p1 p2 p3 p4 : Addr} (h : CorAt H S x L p1 p2 p3 p4) (s : Same H H') : CorAt H' S x L p1 p2 p3 p4 := ⟨s _ _ h.l, s _ _ h.h1, s _ _ h.h2, s _ _ h.h3, s _ _ h.h4⟩
def spLCor : Sp := fun args H Q _ => ∃ (d : Addr) (v : V) (W : List Way) (x : Sq), args = [.ref d, v] ∧ ShL (fun _ => True) H d W ∧ WOk W ∧ SqAt H x v ∧ sqB (sh W) x = true ∧
  ∀ H' r L p1 p2 p3 p4, Same H H' → H' r = some (.tup [.int (iO (sh W) x : Int), .int (kO (sh W) x : Int), .ref L]) → CorAt H' (sh W) x L p1 p2 p3 p4 → Q (.ref r) H'
def spLSum : Sp := fun args H Q _ => ∃ (d gd : Addr) (v : V) (W : List Way) (x : Sq) (γ : List Str → List Int), args = [.ref d, .ref gd, v] ∧ ShL (fun _ => True) H d W ∧ WOk W ∧ SqAt H x v ∧ sqB (sh W) x = true ∧ GnAt H gd W γ ∧
  ∀ H' r, Same H H' → H' r = some (.tup [.int (sumsP (sh W) γ x).1, .int (sumsP (sh W) γ x).2]) → Q (.ref r) H'
/-- what a square tells of its places -/
structure SqF (S : List Way) (x : Sq) (i k : Nat) : Prop where
  hin : x.1 ∈ stds S
  hl : x.1.length = S.length
  il : i < S.length
  kl : k < S.length
  ne : i ≠ k
  ni : (names S)[i]? = some x.2.1
  nk : (names S)[k]? = some x.2.2.1
  ei : iO S x = i
  ek : kO S x = k
  in2 : x.1.set i x.2.2.2.1 ∈ stds S
  in4 : x.1.set k x.2.2.2.2 ∈ stds S
  in3 : (x.1.set i x.2.2.2.1).set k x.2.2.2.2 ∈ stds S
  nm : ∀ z ∈ [x.2.1, x.2.2.1, x.2.2.2.1, x.2.2.2.2], isNm z = true
  nms : ∀ z ∈ x.1, isNm z = true
  lt : sLt x.2.1 x.2.2.1 = true
  li : ∃ z, x.1[i]? = some z ∧ sLt z x.2.2.2.1 = true ∧ wayAt S x.1 x.2.1 = z
  lk : ∃ z, x.1[k]? = some z ∧ sLt z x.2.2.2.2 = true ∧ wayAt S x.1 x.2.2.1 = z
theorem sqF {S : List Way} (ok : SOk S) {x : Sq} (h : sqB S x = true) : ∃ i k, SqF S x i k := by
  obtain ⟨st, z1, z2, z3, z4⟩ := x
  have hb : (decide (st ∈ stds S) && (sLt z1 z2 && (upN S st (z1, z3) && upN S st (z2, z4)))) = true := h
  obtain ⟨h1, h2⟩ := Bool.and_eq_true_iff.mp hb
  obtain ⟨h3, h4⟩ := Bool.and_eq_true_iff.mp h2
  obtain ⟨h5, h6⟩ := Bool.and_eq_true_iff.mp h4
  have hin := of_decide_eq_true h1
  have hl := stds_mem hin
  obtain ⟨i, qi, zi, hqi, ei, hvi, hzi, li, wi, ni, xi⟩ := upN_facts ok hl h5
  obtain ⟨k, qk, zk, hqk, ek, hvk, hzk, lk, wk, nk, xk⟩ := upN_facts ok hl h6
  have inB := stds_set hin hqi hvi
  have inA := stds_set hin hqk hvk
  have inC := stds_set inB hqk hvk
  have mi := List.mem_of_getElem? hqi
  have mk := List.mem_of_getElem? hqk
  refine ⟨i, k, hin, hl, (List.getElem?_eq_some_iff.mp hqi).1, (List.getElem?_eq_some_iff.mp hqk).1, fun e => ?_, ni, nk, xi, xk, inB, inA, inC, fun z hz => ?_, fun z hz => ?_, h3, ⟨zi, hzi, li, wi⟩, ⟨zk, hzk, lk, wk⟩⟩
  · subst e
    rw [ni] at nk
    cases nk
    rw [sLt_irr] at h3
    cases h3
  · rcases List.mem_cons.mp hz with rfl | hz
    · exact ei ▸ ok.nm qi mi
    rcases List.mem_cons.mp hz with rfl | hz
    · exact ek ▸ ok.nm qk mk
    rcases List.mem_cons.mp hz with rfl | hz
    · exact ok.wn qi mi _ hvi
    · rw [List.mem_singleton.mp hz]
      exact ok.wn qk mk _ hvk
  · exact stds_names ok.wn hin z hz
theorem set_cat {K : PySem.W.Frag} {σ : L2.St} {H : Hp} {Q : VK} {l i j : Nat} {te : TE} {a : Addr} {st : List Str} {z : Str} (hl : σ[l]? = some (some (.ref a))) (hi : σ[i]? = some (some (.int (j : Int)))) (ha : H a = some (.tup (st.map V.str))) (hj : j < st.length) (h4 : st.length ≤ 4) (hte : ∀ H' R, Same H H' → R (.str z) H' → te σ H' R)
    (k : ∀ H' p, Same H H' → H' p = some (.tup ((st.set j z).map V.str)) → Q (.ref p) H') :
    tOp rCatB (tOp rCatB (tSl rSlB (tVar l) tNoPart (tPart (tVar i))) (tTup (tCons te tNil))) (tSl rSlB (tVar l) (tPart (tOp (rI0 fun i j => .int (i + j)) (tVar i) (tC (.int 1)))) tNoPart) σ H Q := by
  refine ⟨_, hl, _, hi, (j : Int), rfl, a, _, rfl, ha, fun Ha pa sa hpa => ?_⟩
  rw [cut_to] at hpa
  refine hte _ _ sa ⟨(by show 1 ≤ sizeLine; decide), fun t nt => ?_⟩
  have st1 := same_upd (o := .tup [V.str z]) nt
  refine ⟨pa, t, _, _, rfl, rfl, st1 _ _ hpa, upd_same, by rw [List.length_take, List.length_map]; show min j st.length + 1 ≤ _; omega, fun Hb pb sb hpb => ?_⟩
  have s1 := sa.trans (st1.trans sb)
  refine ⟨_, hl, _, hi, _, _, rfl, rfl, ((j + 1 : Nat) : Int), rfl, a, _, rfl, s1 _ _ ha, fun Hc pc sc hpc => ?_⟩
  rw [cut_from] at hpc
  refine ⟨pb, pc, _, _, rfl, rfl, sc _ _ hpb, hpc, by rw [List.length_append, List.length_take, List.length_drop, List.length_map]; show min j st.length + 1 + _ ≤ _; omega, fun Hd pd sd hpd => k _ pd (s1.trans (sc.trans sd)) ?_⟩
  rw [hpd, List.map_set, List.set_eq_take_append_cons_drop, if_pos (by rw [List.length_map]; exact hj), List.append_assoc]
  rfl
theorem idx_at {K : PySem.W.Frag} {S : List Way} {H : Hp} {Q : VK} {n : Addr} {z : Str} {i : Nat} (hnd : (names S).Nodup) (hn : H n = some (.lst ((names S).map V.str))) (hi : (names S)[i]? = some z) (q : Q (.int (i : Int)) H) : rIndex K (.ref n) [.str z] H Q := by
  refine ⟨n, _, .str z, i, .str z, rfl, rfl, SqL.of hn, rfl, flat_strs _, by rw [List.getElem?_map, hi]; rfl, by rw [str_beq]; exact decide_eq_true rfl, fun m z' hm hz' => ?_, q⟩
  rw [List.getElem?_map] at hz'
  obtain ⟨u, hu, rfl⟩ := Option.map_eq_some_iff.mp hz'
  rw [str_beq]
  refine decide_eq_false fun e => ?_
  subst e
  obtain ⟨h1, e1⟩ := List.getElem?_eq_some_iff.mp hu
  obtain ⟨h2, e2⟩ := List.getElem?_eq_some_iff.mp hi
  have := (List.getElem_inj hnd).mp (e1.trans e2.symm)
  omega
theorem told_at {K : PySem.W.Frag} {σ : L2.St} {H : Hp} {Q : VK} {j i : Nat} {n : Int} {D a : Addr} {xs : List V} {γ : List Str → List Int} {st : List Str} (h6 : σ[6]? = some (some (.ref D))) (hj : σ[j]? = some (some (.int (i : Int)))) (hD : H D = some (.lst xs)) (e : atI xs n = some (.ref a)) (ha : H a = some (.tup ((γ st).map V.int))) (hi : (γ st)[i]? = some (gAt γ st i)) (q : Q (.int (gAt γ st i)) H) :
    tOp (rIxT K) (tOp (rIxL K) (tVar 6) (tC (.int n))) (tVar j) σ H Q :=
  ⟨_, h6, D, _, _, .ref a, rfl, rfl, SqL.of hD, e, _, hj, a, _, _, .int (gAt γ st i), rfl, rfl, SqT.of ha, atI_nat (by rw [List.getElem?_map, hi]; rfl), q⟩
theorem paired4 {α β : Type} {R : α → β → Prop} {a b c d : α} {zs : List β} (h : Paired R [a, b, c, d] zs) : ∃ w x y z, zs = [w, x, y, z] ∧ R a w ∧ R b x ∧ R c y ∧ R d z := by
  cases h with
  | cons h1 t =>
    cases t with
    | cons h2 t =>
      cases t with
      | cons h3 t =>
        cases t with
        | cons h4 t =>
          cases t
          exact ⟨_, _, _, _, rfl, h1, h2, h3, h4⟩
section
variable {P : Program} {w : World} {K : PySem.W.Frag} {mg : Str → Option Value} {base : Heap}
theorem ok_lcorners {f : Addr} {fd : FuncData} (ms : mg "sorted" = none) (F : Fun K "_law_corners" "_law_corners" s_law_corners f fd) : FnOk P w K mg base CX0 1 f fd ["_law_ways", "_law_square"] spLCor := by
  have S : FnScope NsLC ["_law_ways", "_law_square"] (defScope s_law_corners) := ⟨rfl, rfl, rfl, by decide +kernel, rfl, by decide +kernel, by decide +kernel⟩
  have nd := S.nd
  refine F.ok S (fun vs H Q E h => ?_) (fun cdv A outer s H vs Q E hr h => ?_)
  · obtain ⟨d, v, W, x, rfl, _⟩ := h
    rfl
  · obtain ⟨d, v, W, x, rfl, hsh, ok, hv, hb, q⟩ := h
    have hu := hu_of hr
    refine ⟨_, pss_cons (ps_set (i := 2) nd rfl (Or.inl rfl) (pe_callB (call_srtD rfl) (by rfl) ms (by decide +kernel) (pa_cons (pv 0) pa_nil)))
      (pss_cons (ps_par (i := 3) (j := 4) (by rfl) nd rfl rfl (by decide) rfl rfl (pa_cons (pe_bm PySem.F.plainAttrs_list PySem.F.slot_list_index PySem.F.type_list_index mt_index (pv 2) (pa_cons (pe_ix ix_tup (pv 1) pe_int (fun _ _ => rfl)) pa_nil)) (pa_cons (pe_bm PySem.F.plainAttrs_list PySem.F.slot_list_index PySem.F.type_list_index mt_index (pv 2) (pa_cons (pe_ix ix_tup (pv 1) pe_int (fun _ _ => rfl)) pa_nil)) pa_nil)) (by rfl))
      (pss_cons (ps_set (i := 5) nd rfl (Or.inl rfl) (pe_ix ix_tup (pv 1) pe_int (fun _ _ => rfl)))
      (pss_cons (ps_set (i := 6) nd rfl (Or.inl rfl) (pe_op op_catB (pe_op op_catB (pe_slice sl_tupB (pv 5) po_none (po_some (pv 3))) (pe_tup (pa_cons (pe_ix ix_tup (pv 1) pe_int (fun _ _ => rfl)) pa_nil))) (pe_slice sl_tupB (pv 5) (po_some (pe_op op_add (pv 3) pe_int)) po_none)))
      (pss_cons (ps_set (i := 7) nd rfl (Or.inl rfl) (pe_op op_catB (pe_op op_catB (pe_slice sl_tupB (pv 6) po_none (po_some (pv 4))) (pe_tup (pa_cons (pe_ix ix_tup (pv 1) pe_int (fun _ _ => rfl)) pa_nil))) (pe_slice sl_tupB (pv 6) (po_some (pe_op op_add (pv 4) pe_int)) po_none)))
      (pss_one (ps_ret (pe_tup (pa_cons (pv 3) (pa_cons (pv 4) (pa_cons (pe_lst (pa_cons (pv 5) (pa_cons (pv 6) (pa_cons (pv 7) (pa_cons (pe_op op_catB (pe_op op_catB (pe_slice sl_tupB (pv 5) po_none (po_some (pv 4))) (pe_tup (pa_cons (pe_ix ix_tup (pv 1) pe_int (fun _ _ => rfl)) pa_nil))) (pe_slice sl_tupB (pv 5) (po_some (pe_op op_add (pv 4) pe_int)) po_none)) pa_nil))))) pa_nil)))))))))), ?_⟩
    obtain ⟨p, a, rfl, hp1, ha1⟩ := id hv
    obtain ⟨i, k, F⟩ := sqF ok.sok hb
    obtain ⟨kvs, hd, hpk⟩ := id hsh
    have n4 := ok.n4
    have nd2 := ok.sok.nd
    have hl := F.hl
    have shl := sh_len W
    have il := F.il
    have kl := F.kl
    refine ⟨_, rfl, d, kvs, W.map (·.1), rfl, hd, keysL hpk, (by rw [List.length_map]; omega), fun n nn => ?_⟩
    have s1 := same_upd (o := .lst ((srt (W.map (·.1))).map V.str)) nn
    have hn : (upd H n (.lst ((srt (W.map (·.1))).map V.str))) n = some (.lst ((names (sh W)).map V.str)) := by
      rw [upd_same]
      show _ = some (HO.lst (((sh W).map (·.1)).map V.str))
      rw [sh_names]
    generalize (upd H n (.lst ((srt (W.map (·.1))).map V.str))) = H1 at s1 hn
    have hp := s1 _ _ hp1
    have ha := s1 _ _ ha1
    refine ⟨_, rfl, .inl ⟨rfl, _, SqL.of hn⟩, _, rfl, p, _, _, .str x.2.1, rfl, rfl, SqT.of hp, rfl, ?_⟩
    first | (unfold tNil; dsimp only) | dsimp only
    refine idx_at nd2 hn F.ni ?_
    refine ⟨_, rfl, .inl ⟨rfl, _, SqL.of hn⟩, _, rfl, p, _, _, .str x.2.2.1, rfl, rfl, SqT.of hp, rfl, ?_⟩
    first | (unfold tNil; dsimp only) | dsimp only
    refine idx_at nd2 hn F.nk ⟨_, _, rfl, ?_⟩
    refine ⟨_, rfl, p, _, _, .ref a, rfl, rfl, SqT.of hp, rfl, ?_⟩
    refine set_cat (K := K) (a := a) (st := x.1) (z := x.2.2.2.1) (j := i) rfl rfl ha (by omega) (by omega) (fun H' R s r => ⟨_, rfl, p, _, _, .str x.2.2.2.1, rfl, rfl, SqT.of (s _ _ hp), rfl, r⟩) fun H2 b s2 hb2 => ?_
    refine set_cat (K := K) (a := b) (st := x.1.set i x.2.2.2.1) (z := x.2.2.2.2) (j := k) rfl rfl hb2 (by rw [List.length_set]; omega) (by rw [List.length_set]; omega) (fun H' R s r => ⟨_, rfl, p, _, _, .str x.2.2.2.2, rfl, rfl, SqT.of (s _ _ (s2 _ _ hp)), rfl, r⟩) fun H3 c s3 hc3 => ?_
    have s23 := s2.trans s3
    refine ⟨_, rfl, _, rfl, _, rfl, _, rfl, _, rfl, ?_⟩
    refine set_cat (K := K) (a := a) (st := x.1) (z := x.2.2.2.2) (j := k) rfl rfl (s23 _ _ ha) (by omega) (by omega) (fun H' R s r => ⟨_, rfl, p, _, _, .str x.2.2.2.2, rfl, rfl, SqT.of (s _ _ (s23 _ _ hp)), rfl, r⟩) fun H4 e s4 he4 => ?_
    refine ⟨(by show 4 ≤ sizeLine; decide), fun L nL => ⟨(by show 3 ≤ sizeLine; decide), fun r nr => ?_⟩⟩
    have sL := same_upd (o := .lst [V.ref a, V.ref b, V.ref c, V.ref e]) nL
    have sr := same_upd (o := .tup [V.int (i : Int), V.int (k : Int), V.ref L]) nr
    have s45 := sL.trans sr
    have s35 := s4.trans s45
    refine q _ r L a b c e (s1.trans (s23.trans s35)) ?_ ⟨sr _ _ upd_same, s35 _ _ (s23 _ _ ha), ?_, ?_, ?_⟩
    · rw [upd_same, F.ei, F.ek]
    · unfold c2
      rw [F.ei]
      exact s35 _ _ (s3 _ _ hb2)
    · unfold c3 c2
      rw [F.ei, F.ek]
      exact s35 _ _ hc3
    · unfold c4
      rw [F.ek]
      exact s45 _ _ he4
theorem ok_lsums {f fC : Addr} {fd dC : FuncData} (CO : DfB K mg "_law_corners" s_law_corners ["_law_ways", "_law_square"] fC dC) (oC : FnOk P w K mg base CX0 1 fC dC ["_law_ways", "_law_square"] spLCor) (F : Fun K "_law_sums" "_law_sums" s_law_sums f fd) :
    FnOk P w K mg base CX0 2 f fd ["_law_ways", "_law_gains_here", "_law_square"] spLSum := by
  have S : FnScope NsLM ["_law_ways", "_law_gains_here", "_law_square"] (defScope s_law_sums) := ⟨rfl, rfl, rfl, by decide +kernel, rfl, by decide +kernel, by decide +kernel⟩
  have nd := S.nd
  refine F.ok S (fun vs H Q E h => ?_) (fun cdv A outer s H vs Q E hr h => ?_)
  · obtain ⟨d, gd, v, W, x, γ, rfl, _⟩ := h
    rfl
  · obtain ⟨d, gd, v, W, x, γ, rfl, hsh, ok, hv, hb, hg, q⟩ := h
    have hu := hu_of hr
    refine ⟨_, pss_cons (ps_asg (pe_call oC hr (by rfl) CO.d.g CO.d.F.kp CO.b .nil pass0 (pa_cons (pv 0) (pa_cons (pv 2) pa_nil))) (pg_tup rfl (pgs_cons (pg_name (i := 3) nd rfl (Or.inl rfl)) (pgs_cons (pg_name (i := 4) nd rfl (Or.inl rfl)) (pgs_cons (pg_name (i := 5) nd rfl (Or.inl rfl)) pgs_nil)))))
      (pss_cons (ps_setLc (i := 6) (own := [("_law_spot", 9)]) (g := gName 9) (tt := tYes) rfl nd rfl rfl (sw_true rfl rfl rfl (by decide +kernel)) (pi_list (pv 5)) (blkOk_by (N := NsLM) (sc := defScope s_law_sums) (by decide +kernel)) (fun _ _ _ _ _ => pg_name (i := 9) nd rfl (Or.inl rfl)) (fun _ _ _ _ _ => pts_nil) (fun _ _ _ _ _ => pe_dget hu (pv 1) (pv 9) (fun _ _ => rfl)))
      (pss_cons (ps_set (i := 7) nd rfl (Or.inl rfl) (pe_op op_sub (pe_op op_add (pe_op op_sub (pe_ix ix_tup (pe_ix ix_list (pv 6) pe_int (fun _ _ => rfl)) (pv 3) (fun _ _ => rfl)) (pe_ix ix_tup (pe_ix ix_list (pv 6) pe_int (fun _ _ => rfl)) (pv 3) (fun _ _ => rfl))) (pe_ix ix_tup (pe_ix ix_list (pv 6) pe_int (fun _ _ => rfl)) (pv 3) (fun _ _ => rfl))) (pe_ix ix_tup (pe_ix ix_list (pv 6) pe_int (fun _ _ => rfl)) (pv 3) (fun _ _ => rfl))))
      (pss_cons (ps_set (i := 8) nd rfl (Or.inl rfl) (pe_op op_sub (pe_op op_add (pe_op op_sub (pe_ix ix_tup (pe_ix ix_list (pv 6) pe_int (fun _ _ => rfl)) (pv 4) (fun _ _ => rfl)) (pe_ix ix_tup (pe_ix ix_list (pv 6) pe_int (fun _ _ => rfl)) (pv 4) (fun _ _ => rfl))) (pe_ix ix_tup (pe_ix ix_list (pv 6) pe_int (fun _ _ => rfl)) (pv 4) (fun _ _ => rfl))) (pe_ix ix_tup (pe_ix ix_list (pv 6) pe_int (fun _ _ => rfl)) (pv 4) (fun _ _ => rfl))))
      (pss_one (ps_ret (pe_tup (pa_cons (pv 7) (pa_cons (pv 8) pa_nil)))))))), ?_⟩
    obtain ⟨i, k, F⟩ := sqF ok.sok hb
    have shl := sh_len W
    have il := F.il
    have kl := F.kl
    refine ⟨_, rfl, _, rfl, d, v, W, x, rfl, hsh, ok, hv, hb, fun H1 r L p1 p2 p3 p4 s1 hr1 C1 => ⟨r, _, rfl, SqT.of hr1, rfl, _, _, rfl, _, _, rfl, _, _, rfl, rfl, ?_⟩⟩
    have hg1 := hg.same s1
    refine ⟨_, rfl, L, rfl, ⟨_, SqL.of C1.l⟩, fun D nD => ?_⟩
    have sD := same_upd (o := .lst []) nD
    have e2 : c2 (sh W) x = x.1.set i x.2.2.2.1 := by unfold c2; rw [F.ei]
    have e3 : c3 (sh W) x = (x.1.set i x.2.2.2.1).set k x.2.2.2.2 := by unfold c3 c2; rw [F.ei, F.ek]
    have e4 : c4 (sh W) x = x.1.set k x.2.2.2.2 := by unfold c4; rw [F.ek]
    have i2 : c2 (sh W) x ∈ stds (sh W) := e2 ▸ F.in2
    have i3 : c3 (sh W) x ∈ stds (sh W) := e3 ▸ F.in3
    have i4 : c4 (sh W) x ∈ stds (sh W) := e4 ▸ F.in4
    have cs : Paired (fun (st : List Str) v => st ∈ stds (sh W) ∧ ∃ a, v = V.ref a ∧ H1 a = some (.tup (st.map V.str))) [x.1, c2 (sh W) x, c3 (sh W) x, c4 (sh W) x] [.ref p1, .ref p2, .ref p3, .ref p4] :=
      .cons ⟨F.hin, _, rfl, C1.h1⟩ (.cons ⟨i2, _, rfl, C1.h2⟩ (.cons ⟨i3, _, rfl, C1.h3⟩ (.cons ⟨i4, _, rfl, C1.h4⟩ .nil)))
    refine lc_it (walk_list (K := K) (a := L) (xs := [V.ref p1, V.ref p2, V.ref p3, V.ref p4])) (fun m H' => ∃ zs, H' D = some (.lst zs) ∧ Paired (fun (st : List Str) v => ∃ a, v = V.ref a ∧ H1 a = some (.tup ((γ st).map V.int))) ([x.1, c2 (sh W) x, c3 (sh W) x, c4 (sh W) x].take m) zs ∧ Same H1 H') ⟨[], upd_same, .nil, sD⟩ (fun m H' _ ⟨_, _, _, sx⟩ => SqL.of (sx _ _ C1.l)) ?_ ?_
    · rintro m y Hz H2 hm ⟨zs, hD, hzs, s2⟩ ⟨rfl, hy⟩
      obtain ⟨st, hst, hin, c, rfl, hc⟩ := paired_get cs hy
      obtain ⟨kvs, ek, hk⟩ := id hg1
      obtain ⟨_, g, vg, hgv⟩ := hk st hin
      have dg : DGet H2 gd (.ref c) (some (.ref g)) := by
        rw [← vg]
        exact DGet.t (k := kS st) (s2 _ _ ek) (by rw [kS_v]; exact s2 _ _ hc)
      have hm4 : m < 4 := hm
      refine ⟨rfl, _, rfl, _, rfl, gd, .ref g, rfl, dg, zs, hD, ?_, zs ++ [.ref g], upd_same, ?_, fun b o e => ?_⟩
      · rw [← Paired.length hzs, List.length_take]
        exact Nat.lt_of_le_of_lt (Nat.min_le_left _ _) (small1000 (by omega))
      · rw [List.take_add_one, hst]
        refine paired_append hzs (.cons ⟨g, rfl, hgv⟩ .nil)
      · rw [upd_ne (ne_of_none e nD)]
        exact s2 _ _ e
    · rintro H2 ⟨zs, hD, hzs, s2⟩
      obtain ⟨_, _, _, _, rfl, ⟨a1, rfl, t1⟩, ⟨a2, rfl, t2⟩, ⟨a3, rfl, t3⟩, ⟨a4, rfl, t4⟩⟩ := paired4 hzs
      have hγ : GLen (sh W) γ := fun st hst => by
        obtain ⟨_, _, h⟩ := hg1
        rw [(h st hst).1, shl]
      have g1 := s2 _ _ t1
      have g2 := s2 _ _ t2
      have g3 := s2 _ _ t3
      have g4 := s2 _ _ t4
      refine told_at (K := K) (γ := γ) (st := c2 (sh W) x) (i := iO (sh W) x) rfl rfl hD rfl g2 (g_at hγ i2 (by rw [F.ei]; exact il)) ?_
      refine told_at (K := K) (γ := γ) (st := x.1) (i := iO (sh W) x) rfl rfl hD rfl g1 (g_at hγ F.hin (by rw [F.ei]; exact il)) ⟨_, _, rfl, rfl, ?_⟩
      refine told_at (K := K) (γ := γ) (st := c4 (sh W) x) (i := iO (sh W) x) rfl rfl hD rfl g4 (g_at hγ i4 (by rw [F.ei]; exact il)) ⟨_, _, rfl, rfl, ?_⟩
      refine told_at (K := K) (γ := γ) (st := c3 (sh W) x) (i := iO (sh W) x) rfl rfl hD rfl g3 (g_at hγ i3 (by rw [F.ei]; exact il)) ⟨_, _, rfl, rfl, ?_⟩
      refine told_at (K := K) (γ := γ) (st := c3 (sh W) x) (i := kO (sh W) x) rfl rfl hD rfl g3 (g_at hγ i3 (by rw [F.ek]; exact kl)) ?_
      refine told_at (K := K) (γ := γ) (st := c2 (sh W) x) (i := kO (sh W) x) rfl rfl hD rfl g2 (g_at hγ i2 (by rw [F.ek]; exact kl)) ⟨_, _, rfl, rfl, ?_⟩
      refine told_at (K := K) (γ := γ) (st := x.1) (i := kO (sh W) x) rfl rfl hD rfl g1 (g_at hγ F.hin (by rw [F.ek]; exact kl)) ⟨_, _, rfl, rfl, ?_⟩
      refine told_at (K := K) (γ := γ) (st := c4 (sh W) x) (i := kO (sh W) x) rfl rfl hD rfl g4 (g_at hγ i4 (by rw [F.ek]; exact kl)) ⟨_, _, rfl, rfl, ?_⟩
      refine ⟨_, rfl, _, rfl, (by show 2 ≤ sizeLine; decide), fun r nr => q _ r (s1.trans (s2.trans (same_upd nr))) ?_⟩
      rw [upd_same]
      rfl
end
end HG

namespace HG
open PySem PySem.Spec PyProof.Rows L2 HT
open C8 (pss_cut tCut)
structure TqK (K : PySem.W.Frag) (mg : Str → Option Value) (CH CQ CR : Addr) : Prop where
  gH : mg "HeightError" = some (.ref CH)
  gR : mg "NoRing" = some (.ref CR)
  xQ : PySem.W.exmOne K (.ref CQ) (.ref CH) = some true
  kQQ : PySem.W.kitOne K (.ref CQ) (.ref CQ) = some true
  kQR : PySem.W.kitOne K (.ref CQ) (.ref CR) = some false
  gc : GetC K
def spTriedQ (K : PySem.W.Frag) (C : Addr) : Sp := fun args H Q _ => ∃ (g : Addr) (x : V) (way : Nat) (N : Addr → Prop) (S : List Way) (γ : List Str → List Int), args = [.int (way : Int), .ref g, x] ∧ way ≤ 1 ∧ IsG K C N H g S γ ∧ SOk S ∧ GLen S γ ∧
  ((JSq K S H x false ∧ ∀ H' p, Same H H' → H' p = some (.tup [.str "none", x]) → H p = none → Q (.ref p) H') ∨
   ∃ q, SqVal H x q ∧ sqB S q = true ∧ (way = 0 → ∀ H' p r, Same H H' → H' p = some (.tup [.str "told", .ref r]) → RingAt H H' S q r → H p = none → Q (.ref p) H') ∧
     (way = 1 → ∀ H' p r, Same H H' → H' p = some (.tup [.str "told", .ref r]) → H' r = some (.tup [.int (sumsP S γ q).1, .int (sumsP S γ q).2]) → Q (.ref p) H'))
theorem RingAt.same {H0 H H' : Hp} {S : List Way} {q : Sq} {r : Addr} (h : RingAt H0 H S q r) (s : Same H H') : RingAt H0 H' S q r := let ⟨a, l, es, h1, h2, h3, h4, h5⟩ := h; ⟨a, l, es, s _ _ h1, s _ _ h2, s _ _ h3, h4, paired_imp h5 fun _ _ q => q.same s⟩
section
variable {P : Program} {w : World} {K : PySem.W.Frag} {mg : Str → Option Value} {base : Heap} {C : Addr}
def q_asked (K : PySem.W.Frag) (C CQ : Addr) (W : WX) : TS :=
  tRet (tTup (tCons (tC (.str "told")) (tCons (tIf (tTest (tOp rEq (tVar 0) (tC (.int 0)))) (tCallS (spRingOf K C CQ) (WE W) (tCons (tVar 1) (tCons (tVar 2) tNil))) (tCallS (spSums K C CQ) (WE W) (tCons (tVar 1) (tCons (tVar 2) tNil)))) tNil)))
def q_caught (K : PySem.W.Frag) (CQ CR : Addr) : Addr → Value → Option Addr → TS := fun a cls d =>
  tSeq (tIfS (tOr (tNot (tB (tCB (rIsCt K a cls d) (tCons (tVar 3) (tCons (tC (.ref CQ)) tNil))))) (tB (tCB (rIsCt K a cls d) (tCons (tVar 3) (tCons (tC (.ref CR)) tNil))))) (fun _ _ _ => False) tNext)
  (tRet (tTup (tCons (tC (.str "none")) (tCons (tXf a cls d CQ "square" (tVar 3)) tNil))))
abbrev NsTq : List Str := ["_law_way", "_law_game", "_law_thing", "e"]
theorem ok_triedQ {f fR fS CH CQ CR iQ : Addr} {fd dR dS eQ : FuncData} (mi : mg "isinstance" = none) (EQ : EK K mg "NoSquare" "square" CQ iQ eQ) (Z : TqK K mg CH CQ CR)
    (R : DfB K mg "ring_of" s_ring_of ["game", "square"] fR dR) (M : DfB K mg "sums" s_sums ["game", "square"] fS dS) (oR : FnOk P w K mg base (L2.CX P w) 7 fR dR ["game", "square"] (spRingOf K C CQ)) (oM : FnOk P w K mg base (L2.CX P w) 7 fS dS ["game", "square"] (spSums K C CQ))
    (D : Df K mg "_law_tried" s_law_tried f fd) : FnOk P w K mg base CX0 8 f fd ["_law_way", "_law_game", "_law_thing"] (spTriedQ K C) := by
  have S : FnScope NsTq ["_law_way", "_law_game", "_law_thing"] (defScope s_law_tried) := ⟨rfl, rfl, rfl, by decide +kernel, rfl, by decide +kernel, by decide +kernel⟩
  have nd := S.nd
  refine D.F.ok S (fun vs H Q E h => ?_) (fun cdv A outer s H vs Q E hr h => ?_)
  · obtain ⟨g, x, way, N, S, γ, rfl, _⟩ := h
    rfl
  · obtain ⟨g, x, way, N, S, γ, rfl, hway, hg, ok, hγ, hq⟩ := h
    refine ⟨_, pss_one (ps_try_as (i := 3) (tb := q_asked K C CQ) (ts := q_caught K CQ CR) (Wout := fun _ _ _ _ => False) rfl rfl nd rfl rfl ⟨rfl, by decide, Or.inl Z.gH⟩ takes0
      (fun W' pn xe tk _ => pss_one (ps_ret (pe_tup (pa_cons pe_str (pa_cons (pe_ifExp (pt_cmpR op_eq (pv 0) pe_int (nomark _)) (by exact (pe_callS oR hr rfl R.d.g R.d.F.kp R.b (fun σ => passAt tk σ) (by exact (pa_cons (pv 1) (pa_cons (pv 2) pa_nil))))) (by exact (pe_callS oM hr rfl M.d.g M.d.F.kp M.b (fun σ => passAt tk σ) (by exact (pa_cons (pv 1) (pa_cons (pv 2) pa_nil)))))) pa_nil)))))
      (fun a oe cls d pn hz hf => by exact (pss_cons (ps_if (PW.pt (pw_or (pt_not (pt_val (pe_callB (r := rIsCt K a cls d) (call_isCt hz hf) (by rfl) mi (by decide +kernel) (pa_cons (pv 3) (pa_cons (pe_glob (v := .ref CQ) (by rfl) EQ.g rfl) pa_nil))))) (pw_or1 (pt_val (pe_callB (r := rIsCt K a cls d) (call_isCt hz hf) (by rfl) mi (by decide +kernel) (pa_cons (pv 3) (pa_cons (pe_glob (v := .ref CR) (by rfl) Z.gR rfl) pa_nil))))))) pss_never pss_nil)
        (pss_one (ps_ret (pe_tup (pa_cons pe_str (pa_cons (pe_xf EQ.c.xf EQ.no hz hf (pv 3)) pa_nil)))))))), ?_⟩
    have hErr : (∀ H' p, Same H H' → H' p = some (.tup [.str "none", x]) → H p = none → Q (.ref p) H') → ErrQ CQ x (WE (wAs K (.ref CH) 3 (q_caught K CQ CR) (fun _ _ _ _ => False) { nx := fun _ H' => Q .non H', rt := Q }) (L2.start NsTq [.int (way : Int), .ref g, x])) H := by
      intro q H1 s1 d hd
      refine ⟨true, Z.xQ, fun _ a na => ?_, fun z => Bool.noConfusion z⟩
      refine ⟨_, rfl, CQ, d, _, .ref CQ, .ref CQ, true, rfl, .own CQ, rfl, rfl, hd, EQ.c, Z.gc, Z.kQQ, _, rfl, ?_⟩
      refine ⟨_, rfl, CQ, d, _, .ref CR, .ref CR, false, rfl, .own CR, rfl, rfl, hd, EQ.c, Z.gc, Z.kQR, _, rfl, iteF ?_⟩
      refine ⟨_, rfl, rfl, rfl, d, _, _, rfl, hd, rfl, (by show 2 ≤ sizeLine; decide), fun t nt => ?_⟩
      exact q _ t (s1.trans (same_upd nt)) upd_same (s1.free nt)
    rcases hq with ⟨hJ, hN⟩ | ⟨sq, hv, hb, q0, q1⟩
    · rcases way with _ | way
      · refine ⟨_, rfl, rfl, _, rfl, iteT ⟨_, rfl, _, rfl, g, x, N, S, γ, rfl, hg, ok, .inl ⟨hJ, hErr hN⟩⟩⟩
      · have e2 : way = 0 := by omega
        subst e2
        refine ⟨_, rfl, rfl, _, rfl, iteF ⟨_, rfl, _, rfl, g, x, N, S, γ, rfl, hg, ok, hγ, .inl ⟨hJ, hErr hN⟩⟩⟩
    · rcases way with _ | way
      · refine ⟨_, rfl, rfl, _, rfl, iteT ⟨_, rfl, _, rfl, g, x, N, S, γ, rfl, hg, ok, .inr ⟨sq, hv, hb, fun H1 r s1 hr1 => ⟨(by show 2 ≤ sizeLine; decide), fun t nt => ?_⟩⟩⟩⟩
        exact q0 rfl _ t r (s1.trans (same_upd nt)) upd_same (hr1.same (same_upd nt)) (s1.free nt)
      · have e2 : way = 0 := by omega
        subst e2
        refine ⟨_, rfl, rfl, _, rfl, iteF ⟨_, rfl, _, rfl, g, x, N, S, γ, rfl, hg, ok, hγ, .inr ⟨sq, hv, hb, fun H1 r s1 hr1 => ⟨(by show 2 ≤ sizeLine; decide), fun t nt => ?_⟩⟩⟩⟩
        exact q1 rfl _ t r (s1.trans (same_upd nt)) upd_same (same_upd nt _ _ hr1)
end
end HG

namespace HG
open PySem PySem.Spec PyProof.Rows L2 HT
open C8 (pss_cut tCut)
/-! ### values of which each keeps φ, where Ctx stands -/
def tOdd (Ctx : L2.St → Hp → Prop) (φ : Hp → V → Prop) : TE := fun σ H Q => Ctx σ H ∧ ∀ H' v, Same H H' → φ H' v → Q v H'
def tOdds (Ctx : L2.St → Hp → Prop) (φ : Hp → V → Prop) (n : Nat) : TA := fun σ H Q => Ctx σ H ∧ ∀ H' vs, Same H H' → (∀ v ∈ vs, φ H' v) → vs.length = n → Q vs H'
section
variable {X : Cx} {Ctx : L2.St → Hp → Prop} {φ : Hp → V → Prop} {e : Expr} {es : List Expr} {te : TE} {n : Nat}
theorem pe_odd (h : PE X e te) (k : ∀ σ H Q, Ctx σ H → (∀ H' v, Same H H' → φ H' v → Q v H') → te σ H Q) : PE X e (tOdd Ctx φ) := ⟨fun pins s σ H Q I q => h.run pins s σ H Q I (k σ H Q q.1 q.2)⟩
theorem pa_odd0 : PA X [] (tOdds Ctx φ 0) := pa_imp pa_nil fun σ H Q q => q.2 H [] (Same.refl H) (fun _ h => nomatch h) rfl
theorem pa_odd (hC : ∀ σ H H', Same H H' → Ctx σ H → Ctx σ H') (hφ : ∀ H H' v, Same H H' → φ H v → φ H' v) (h : PE X e (tOdd Ctx φ)) (t : PA X es (tOdds Ctx φ n)) (hs : starEach (e :: es) X.env = (false, eval e X.env) :: starEach es X.env := by rfl) : PA X (e :: es) (tOdds Ctx φ (n + 1)) :=
  pa_imp (pa_cons h t hs) fun σ H Q q => ⟨q.1, fun H1 v s1 hv => ⟨hC σ H H1 s1 q.1, fun H2 vs s2 hvs hl => q.2 H2 (v :: vs) (s1.trans s2) (fun x hx => by
    rcases List.mem_cons.mp hx with rfl | hx
    · exact hφ H1 H2 x s2 hv
    · exact hvs x hx) (by rw [List.length_cons, hl])⟩⟩
end
theorem s2_tup {H : Hp} {a : Addr} {xs : List V} (h : H a = some (.tup xs)) : Seq2 H (.ref a) xs := ⟨a, rfl, .inr h⟩
theorem jn_yes {K : PySem.W.Frag} {H : Hp} {y : V} {st : List Str} (h : Seq2 H y (st.map V.str)) (nm : ∀ z ∈ st, isNm z = true) (n1 : 1 ≤ st.length) (n4 : st.length ≤ 4) : JNames K H y true := .inl ⟨_, h.seq, fun _ _ => names_any nm, (namesV_yes nm n1 n4).symm⟩
theorem jn_no {K : PySem.W.Frag} {H : Hp} {y : V} {xs : List V} (h : Seq2 H y xs) (ha : 1 ≤ xs.length → xs.length ≤ 4 → ∀ y ∈ xs, ∃ t, AnyV K H y t) (n : namesV xs = false) : JNames K H y false := .inl ⟨xs, h.seq, ha, n.symm⟩
theorem jn_flat {K : PySem.W.Frag} {H : Hp} {y : V} {t : Tg} (h : AnyV K H y t) (n1 : t ≠ .lst) (n2 : t ≠ .tup) : JNames K H y false := .inr ⟨t, h, n1, n2, rfl⟩
/-- what a value's text is made of: data, or an empty dict -/
def Prt (K : PySem.W.Frag) (H : Hp) (v : V) (d : PyData) : Prop := Dp K H v d ∨ ∃ a, v = .ref a ∧ H a = some (.dT []) ∧ d = .dict []
theorem Prt.same {K : PySem.W.Frag} {H H' : Hp} {v : V} {d : PyData} (h : Prt K H v d) (s : Same H H') : Prt K H' v d := by
  rcases h with h | ⟨a, e, ha, ed⟩
  · exact .inl (dp_keep (fun _ _ _ => s _ _) h)
  · exact .inr ⟨a, e, s _ _ ha, ed⟩
theorem Prt.shw {K : PySem.W.Frag} {H : Hp} {v : V} {d : PyData} (h : Prt K H v d) : Shw K H v d := by
  rcases h with h | ⟨a, rfl, ha, rfl⟩
  · exact .flat h
  · exact .dT ha .nil
/-- no square, and its text is short -/
def QF (K : PySem.W.Frag) (S : List Way) (H : Hp) (v : V) : Prop := JSq K S H v false ∧ ∃ d, Prt K H v d ∧ Sml 1300 4 d
theorem QF.same {K : PySem.W.Frag} {S : List Way} {H H' : Hp} {v : V} (h : QF K S H v) (s : Same H H') : QF K S H' v := ⟨h.1.same s, let ⟨d, a, b⟩ := h.2; ⟨d, a.same s, b⟩⟩
theorem sml_non : Sml 0 0 .none := ⟨by simp [PyData.leavesShort], by simp [PyData.showable], by simp [PyData.weight], by simp [PyData.depth]⟩
theorem sml_3 : Sml 203 0 (.int 3) := small_int (j := 3) (by decide)
/-! ### items -/
def Stb (φ : Hp → V → Prop) : Prop := ∀ H H' v, Same H H' → φ H v → φ H' v
def IsSt (st : List Str) : Hp → V → Prop := fun H v => ∃ a, v = .ref a ∧ H a = some (.tup (st.map V.str))
def IsZ (z : Str) : Hp → V → Prop := fun _ v => v = .str z
/-- any value with a short text -/
def ItA (K : PySem.W.Frag) : Hp → V → Prop := fun H v => (∃ t, AnyV K H v t) ∧ ∃ d, Dp K H v d ∧ Sml 203 1 d
/-- such a value, and whether it is a name -/
def ItB (K : PySem.W.Frag) (b : Bool) : Hp → V → Prop := fun H v => ItA K H v ∧ nameV v = b
abbrev ItO (K : PySem.W.Frag) : Hp → V → Prop := ItB K false
/-- what is no row of names -/
def ItH (K : PySem.W.Frag) : Hp → V → Prop := fun H v => JNames K H v false ∧ ∃ d, Dp K H v d ∧ Sml 203 1 d
theorem stb_st {st : List Str} : Stb (IsSt st) := fun _ _ _ s ⟨a, e, h⟩ => ⟨a, e, s _ _ h⟩
theorem stb_z {z : Str} : Stb (IsZ z) := fun _ _ _ _ h => h
theorem stb_a {K : PySem.W.Frag} : Stb (ItA K) := fun _ _ _ s ⟨⟨t, h⟩, d, a, b⟩ => ⟨⟨t, h.same s⟩, d, dp_keep (fun _ _ _ => s _ _) a, b⟩
theorem stb_b {K : PySem.W.Frag} {b : Bool} : Stb (ItB K b) := fun _ _ _ s ⟨h, n⟩ => ⟨stb_a _ _ _ s h, n⟩
theorem stb_h {K : PySem.W.Frag} : Stb (ItH K) := fun _ _ _ s ⟨h, d, a, b⟩ => ⟨h.same s, d, dp_keep (fun _ _ _ => s _ _) a, b⟩
def Ev (te : TE) (σ : L2.St) (H : Hp) (φ : Hp → V → Prop) : Prop := ∀ H1 R, Same H H1 → (∀ H2 v, Same H1 H2 → φ H2 v → R v H2) → te σ H1 R
section
variable {K : PySem.W.Frag} {σ : L2.St} {H : Hp} {Q : VK}
theorem ev_c {v : V} {φ : Hp → V → Prop} (h : ∀ H, φ H v) : Ev (tC v) σ H φ := fun H1 R _ k => k H1 v (Same.refl _) (h _)
theorem ev_v {i : Nat} {v : V} {φ : Hp → V → Prop} (st : Stb φ) (hi : σ[i]? = some (some v)) (h : φ H v) : Ev (tVar i) σ H φ := fun H1 R s k => ⟨v, hi, k H1 v (Same.refl _) (st _ _ _ s h)⟩
theorem ev_z {i : Nat} {z : Str} (hi : σ[i]? = some (some (.str z))) : Ev (tVar i) σ H (IsZ z) := ev_v stb_z hi rfl
theorem ev_cz {z : Str} : Ev (tC (.str z)) σ H (IsZ z) := ev_c fun _ => rfl
theorem ev_non : Ev (tC .non) σ H (ItO K) := ev_c fun _ => ⟨⟨⟨_, .non⟩, _, .non, sml_non.mono (by decide) (by decide)⟩, rfl⟩
theorem ev_int : Ev (tC (.int 3)) σ H (ItO K) := ev_c fun _ => ⟨⟨⟨_, .int 3⟩, _, .int 3, sml_3.mono (by decide) (by decide)⟩, rfl⟩
theorem ev_lst : Ev (tLst tNil) σ H (ItO K) := fun H1 R _ k => ⟨by show 0 ≤ sizeLine; decide, fun p np => k _ _ (same_upd np) ⟨⟨⟨_, .lst upd_same⟩, _, .lst (SqL.of upd_same) .nil, (sml_list (n := 0) (k := 0) (m := 0) (ds := []) (fun _ h => (List.not_mem_nil h).elim) (Nat.le_refl _)).mono (by decide) (by decide)⟩, rfl⟩⟩
theorem dp_str1 {H : Hp} {p : Addr} {z : Str} (h : H p = some (.tup [.str z])) : Dp K H (.ref p) (.tuple [.str z]) := .tup (SqT.of h) (.cons (.str z) .nil)
theorem ev_tup1 {i : Nat} {z : Str} (hi : σ[i]? = some (some (.str z))) (hz : isNm z = true) : Ev (tTup (tCons (tVar i) tNil)) σ H (ItO K) := fun H1 R _ k => ⟨_, hi, by show 1 ≤ sizeLine; decide, fun p np => k _ _ (same_upd np) ⟨⟨⟨_, .tup upd_same⟩, _, dp_str1 upd_same, (sml_tuple (n := 8) (k := 0) (m := 1) (fun d hd => by
    rw [List.mem_singleton.mp hd]
    exact sml_str hz) (Nat.le_refl _)).mono (by decide) (by decide)⟩, rfl⟩⟩
theorem z_any {H : Hp} {z : Str} (hz : isNm z = true) : ItA K H (.str z) := ⟨⟨_, nm_any hz⟩, _, .str z, (sml_str hz).mono (by decide) (by decide)⟩
abbrev t5 (t0 t1 t2 t3 t4 : TE) : TE := tTup (tCons t0 (tCons t1 (tCons t2 (tCons t3 (tCons t4 tNil)))))
theorem tup5 {t0 t1 t2 t3 t4 : TE} {φ0 φ1 φ2 φ3 φ4 : Hp → V → Prop} (s0 : Stb φ0) (s1 : Stb φ1) (s2 : Stb φ2) (s3 : Stb φ3) (s4 : Stb φ4) (e0 : Ev t0 σ H φ0) (e1 : Ev t1 σ H φ1) (e2 : Ev t2 σ H φ2) (e3 : Ev t3 σ H φ3) (e4 : Ev t4 σ H φ4)
    (k : ∀ H' p v0 v1 v2 v3 v4, Same H H' → H' p = some (.tup [v0, v1, v2, v3, v4]) → φ0 H' v0 → φ1 H' v1 → φ2 H' v2 → φ3 H' v3 → φ4 H' v4 → Q (.ref p) H') : t5 t0 t1 t2 t3 t4 σ H Q :=
  e0 H _ (Same.refl _) fun H0 v0 a0 h0 => e1 H0 _ a0 fun H1 v1 a1 h1 => e2 H1 _ (a0.trans a1) fun H2 v2 a2 h2 => e3 H2 _ (a0.trans (a1.trans a2)) fun H3 v3 a3 h3 => e4 H3 _ (a0.trans (a1.trans (a2.trans a3))) fun H4 v4 a4 h4 =>
    ⟨by show 5 ≤ sizeLine; decide, fun p np => by
      have sp := same_upd (o := .tup [v0, v1, v2, v3, v4]) np
      exact k _ p v0 v1 v2 v3 v4 (a0.trans (a1.trans (a2.trans (a3.trans (a4.trans sp))))) upd_same (s0 _ _ _ (a1.trans (a2.trans (a3.trans (a4.trans sp)))) h0) (s1 _ _ _ (a2.trans (a3.trans (a4.trans sp))) h1) (s2 _ _ _ (a3.trans (a4.trans sp)) h2) (s3 _ _ _ (a4.trans sp) h3) (s4 _ _ _ sp h4)⟩
/-! ### no squares of five parts -/
theorem q5_dp {p : Addr} {v0 v1 v2 v3 v4 : V} (h : H p = some (.tup [v0, v1, v2, v3, v4])) (h0 : ∃ d, Dp K H v0 d ∧ Sml 203 1 d) (h1 : ItA K H v1) (h2 : ItA K H v2) (h3 : ItA K H v3) (h4 : ItA K H v4) : ∃ d, Prt K H (.ref p) d ∧ Sml 1300 4 d := by
  obtain ⟨d0, a0, b0⟩ := h0
  obtain ⟨_, d1, a1, b1⟩ := h1
  obtain ⟨_, d2, a2, b2⟩ := h2
  obtain ⟨_, d3, a3, b3⟩ := h3
  obtain ⟨_, d4, a4, b4⟩ := h4
  refine ⟨.tuple [d0, d1, d2, d3, d4], .inl (.tup (SqT.of h) (.cons a0 (.cons a1 (.cons a2 (.cons a3 (.cons a4 .nil)))))), (sml_tuple (n := 203) (k := 1) (m := 5) (fun d hd => ?_) (by show 5 ≤ 5; decide)).mono (by decide) (by decide)⟩
  rcases List.mem_cons.mp hd with rfl | hd
  · exact b0
  rcases List.mem_cons.mp hd with rfl | hd
  · exact b1
  rcases List.mem_cons.mp hd with rfl | hd
  · exact b2
  rcases List.mem_cons.mp hd with rfl | hd
  · exact b3
  rw [List.mem_singleton.mp hd]
  exact b4
theorem st_dp {st : List Str} {v : V} (h : IsSt st H v) (n5 : st.length ≤ 5) (nm : ∀ z ∈ st, isNm z = true) : ∃ d, Dp K H v d ∧ Sml 203 1 d := by
  obtain ⟨a, rfl, ha⟩ := h
  refine ⟨_, dp_tup (SqT.of ha), (sml_tuple (n := 8) (k := 0) (m := 5) (fun d hd => ?_) (by rw [List.length_map]; exact n5)).mono (by decide) (by decide)⟩
  obtain ⟨z, hz, rfl⟩ := List.mem_map.mp hd
  exact sml_str (nm z hz)
theorem q5_all {S : List Way} {p : Addr} {st : List Str} {v0 v1 v2 v3 v4 : V} {z1 z2 z3 z4 : Str} (h : H p = some (.tup [v0, v1, v2, v3, v4])) (h0 : IsSt st H v0) (h1 : IsZ z1 H v1) (h2 : IsZ z2 H v2) (h3 : IsZ z3 H v3) (h4 : IsZ z4 H v4) (nm : ∀ z ∈ st, isNm z = true) (n1 : 1 ≤ st.length) (n4 : st.length ≤ 4)
    (nz : ∀ z ∈ [z1, z2, z3, z4], isNm z = true) (hb : sqB S (st, z1, z2, z3, z4) = false) : QF K S H (.ref p) := by
  have e1 : v1 = .str z1 := h1
  have e2 : v2 = .str z2 := h2
  have e3 : v3 = .str z3 := h3
  have e4 : v4 = .str z4 := h4
  subst e1 e2 e3 e4
  have m (z) (hz : z ∈ [z1, z2, z3, z4]) : ItA K H (.str z) := z_any (nz z hz)
  refine ⟨?_, q5_dp h (st_dp h0 (by omega) nm) (m _ (by simp)) (m _ (by simp)) (m _ (by simp)) (m _ (by simp))⟩
  obtain ⟨a, rfl, ha⟩ := h0
  exact .inr (.inr (.inr (.inr ⟨_, st, z1, z2, z3, z4, s2_tup h, s2_tup ha, nm, n1, n4, nz, hb.symm⟩)))
theorem q5_odd {S : List Way} {p : Addr} {st : List Str} {v0 v1 v2 v3 v4 : V} (h : H p = some (.tup [v0, v1, v2, v3, v4])) (h0 : IsSt st H v0) (h1 : ItA K H v1) (h2 : ItA K H v2) (h3 : ItA K H v3) (h4 : ItA K H v4) (nm : ∀ z ∈ st, isNm z = true) (n1 : 1 ≤ st.length) (n4 : st.length ≤ 4)
    (hb : [v1, v2, v3, v4].all nameV = false) : QF K S H (.ref p) := by
  refine ⟨?_, q5_dp h (st_dp h0 (by omega) nm) h1 h2 h3 h4⟩
  obtain ⟨a, rfl, ha⟩ := h0
  refine .inr (.inr (.inr (.inl ⟨_, _, s2_tup h, rfl, jn_yes (s2_tup ha) nm n1 n4, fun z hz => ?_, hb, rfl⟩)))
  rcases List.mem_cons.mp hz with rfl | hz
  · exact h1.1
  rcases List.mem_cons.mp hz with rfl | hz
  · exact h2.1
  rcases List.mem_cons.mp hz with rfl | hz
  · exact h3.1
  rw [List.mem_singleton.mp hz]
  exact h4.1
theorem q5_first {S : List Way} {p : Addr} {v0 v1 v2 v3 v4 : V} (h : H p = some (.tup [v0, v1, v2, v3, v4])) (h0 : ItH K H v0) (h1 : ItA K H v1) (h2 : ItA K H v2) (h3 : ItA K H v3) (h4 : ItA K H v4) : QF K S H (.ref p) :=
  ⟨.inr (.inr (.inl ⟨_, _, s2_tup h, rfl, h0.1, rfl⟩)), q5_dp h h0.2 h1 h2 h3 h4⟩
end
/-! ### what is no square -/
theorem sqB_no {S : List Way} {st : List Str} {z1 z2 z3 z4 : Str} (h : st ∉ stds S ∨ sLt z1 z2 = false ∨ upN S st (z1, z3) = false ∨ upN S st (z2, z4) = false) : sqB S (st, z1, z2, z3, z4) = false := by
  show (decide (st ∈ stds S) && (sLt z1 z2 && (upN S st (z1, z3) && upN S st (z2, z4)))) = false
  rcases h with h | h | h | h
  · rw [decide_eq_false h, Bool.false_and]
  · rw [h, Bool.false_and, Bool.and_false]
  · rw [h, Bool.false_and, Bool.and_false, Bool.and_false]
  · rw [h, Bool.and_false, Bool.and_false, Bool.and_false]
theorem up_low {S : List Way} {st : List Str} {i : Nat} {n z v : Str} (nd : (names S).Nodup) (hn : (names S)[i]? = some n) (hz : st[i]? = some z) (h : sLt z v = false) : upN S st (n, v) = false := by
  unfold names at hn
  rw [List.getElem?_map] at hn
  obtain ⟨q, hq, rfl⟩ := Option.map_eq_some_iff.mp hn
  rw [upN_at nd hq hz, h, Bool.and_false]
/-- what stands besides -/
structure BFix (W : List Way) (x : Sq) (i k : Nat) : Prop where
  ok : WOk W
  M : MenuW W
  F : SqF (sh W) x i k
  hb : sqB (sh W) x = true
  l1 : 1 ≤ x.1.length
  l4 : x.1.length ≤ 4
theorem bad_fix {W : List Way} {x : Sq} (ok : WOk W) (M : MenuW W) (h : sqB (sh W) x = true) : ∃ i k, BFix W x i k := by
  obtain ⟨i, k, F⟩ := sqF ok.sok h
  have e := F.hl
  have s := sh_len W
  have := ok.n1
  have := ok.n4
  exact ⟨i, k, ok, M, F, h, by omega, by omega⟩
theorem zq_not : zq ∉ menuN := by decide
theorem sh_menu {W : List Way} (ok : WOk W) (M : MenuW W) {q : Way} (h : q ∈ sh W) : q.1 ≠ zq ∧ zq ∉ q.2 := by
  obtain ⟨q0, h0, rfl⟩ := sh_of ok.nd h
  exact ⟨fun e => zq_not (e ▸ (M q0 h0).1), fun e => zq_not ((M q0 h0).2 zq ((srt_perm q0.2).mem_iff.mp e))⟩
theorem zq_name {W : List Way} (ok : WOk W) (M : MenuW W) : zq ∉ names (sh W) := fun h => by
  obtain ⟨q, hq, e⟩ := List.mem_map.mp h
  exact (sh_menu ok M hq).1 e
theorem up_zq {W : List Way} (ok : WOk W) (M : MenuW W) {st : List Str} {n : Str} : upN (sh W) st (n, zq) = false := by
  unfold upN
  rw [List.any_eq_false]
  intro p hp
  have := (sh_menu ok M (List.of_mem_zip hp).1).2
  show ¬((decide (p.1.1 = n) && (decide (zq ∈ p.1.2) && sLt p.2 zq)) = true)
  rw [decide_eq_false this, Bool.false_and, Bool.and_false]
  exact Bool.false_ne_true
theorem zq_way {W : List Way} (ok : WOk W) (M : MenuW W) {st : List Str} (h : zq ∈ st) : st ∉ stds (sh W) := fun hm => by
  have hl := stds_mem hm
  obtain ⟨j, hj⟩ := List.mem_iff_getElem?.mp h
  have hj2 : j < (sh W).length := by rw [← hl]; exact (List.getElem?_eq_some_iff.mp hj).1
  exact (sh_menu ok M (List.getElem_mem hj2)).2 (stds_at hm (List.getElem?_eq_getElem hj2) hj)
/-! ### where the odd values are made -/
structure CtxB (W : List Way) (x : Sq) (σ : L2.St) (H : Hp) : Prop where
  ex : ∃ d p a : Addr, σ[1]? = some (some (.ref d)) ∧ σ[2]? = some (some (.ref p)) ∧ σ[3]? = some (some (.ref a)) ∧ ShL (fun _ => True) H d W ∧ H p = some (.tup [.ref a, .str x.2.1, .str x.2.2.1, .str x.2.2.2.1, .str x.2.2.2.2]) ∧ H a = some (.tup (x.1.map V.str))
  i4 : σ[4]? = some (some (.str x.2.1))
  i5 : σ[5]? = some (some (.str x.2.2.1))
  i6 : σ[6]? = some (some (.str x.2.2.2.1))
  i7 : σ[7]? = some (some (.str x.2.2.2.2))
theorem CtxB.same {W : List Way} {x : Sq} {σ : L2.St} {H H' : Hp} (s : Same H H') (c : CtxB W x σ H) : CtxB W x σ H' := ⟨let ⟨d, p, a, h1, h2, h3, h4, h5, h6⟩ := c.ex; ⟨d, p, a, h1, h2, h3, h4.same s, s _ _ h5, s _ _ h6⟩, c.i4, c.i5, c.i6, c.i7⟩
structure CtxC (W : List Way) (x : Sq) (σ : L2.St) (H : Hp) : Prop where
  b : CtxB W x σ H
  i9 : σ[9]? = some (some (.int (iO (sh W) x : Int)))
  i10 : σ[10]? = some (some (.int (kO (sh W) x : Int)))
  ex : ∃ L p1 p2 p3 p4 : Addr, σ[11]? = some (some (.ref L)) ∧ CorAt H (sh W) x L p1 p2 p3 p4
theorem CtxC.same {W : List Way} {x : Sq} {σ : L2.St} {H H' : Hp} (s : Same H H') (c : CtxC W x σ H) : CtxC W x σ H' := ⟨c.b.same s, c.i9, c.i10, let ⟨L, p1, p2, p3, p4, h1, h2⟩ := c.ex; ⟨L, p1, p2, p3, p4, h1, h2.same s⟩⟩
section
variable {K : PySem.W.Frag} {W : List Way} {x : Sq} {i k : Nat} {σ : L2.St} {H : Hp} {Q : VK}
theorem BFix.m1 (f : BFix W x i k) : isNm x.2.1 = true := f.F.nm _ (by simp)
theorem BFix.m2 (f : BFix W x i k) : isNm x.2.2.1 = true := f.F.nm _ (by simp)
theorem BFix.m3 (f : BFix W x i k) : isNm x.2.2.2.1 = true := f.F.nm _ (by simp)
theorem BFix.m4 (f : BFix W x i k) : isNm x.2.2.2.2 = true := f.F.nm _ (by simp)
theorem BFix.nd (f : BFix W x i k) : (names (sh W)).Nodup := f.ok.sok.nd
theorem BFix.e2 (f : BFix W x i k) : c2 (sh W) x = x.1.set i x.2.2.2.1 := by unfold c2; rw [f.F.ei]
theorem BFix.e3 (f : BFix W x i k) : c3 (sh W) x = (x.1.set i x.2.2.2.1).set k x.2.2.2.2 := by unfold c3; rw [f.e2, f.F.ek]
theorem BFix.e4 (f : BFix W x i k) : c4 (sh W) x = x.1.set k x.2.2.2.2 := by unfold c4; rw [f.F.ek]
theorem BFix.li (f : BFix W x i k) : i < x.1.length := by rw [f.F.hl]; exact f.F.il
theorem BFix.lk (f : BFix W x i k) : k < x.1.length := by rw [f.F.hl]; exact f.F.kl
theorem BFix.c2i (f : BFix W x i k) : (c2 (sh W) x)[i]? = some x.2.2.2.1 := by rw [f.e2]; exact List.getElem?_set_self f.li
theorem BFix.c3i (f : BFix W x i k) : (c3 (sh W) x)[i]? = some x.2.2.2.1 := by rw [f.e3, List.getElem?_set_ne (Ne.symm f.F.ne)]; exact List.getElem?_set_self f.li
theorem BFix.c4k (f : BFix W x i k) : (c4 (sh W) x)[k]? = some x.2.2.2.2 := by rw [f.e4]; exact List.getElem?_set_self f.lk
theorem BFix.n2 (f : BFix W x i k) : (∀ z ∈ c2 (sh W) x, isNm z = true) ∧ (c2 (sh W) x).length = x.1.length := by rw [f.e2]; exact ⟨stds_names f.ok.sok.wn f.F.in2, List.length_set⟩
theorem BFix.n3 (f : BFix W x i k) : (∀ z ∈ c3 (sh W) x, isNm z = true) ∧ (c3 (sh W) x).length = x.1.length := by rw [f.e3]; exact ⟨stds_names f.ok.sok.wn f.F.in3, by rw [List.length_set, List.length_set]⟩
theorem BFix.n4 (f : BFix W x i k) : (∀ z ∈ c4 (sh W) x, isNm z = true) ∧ (c4 (sh W) x).length = x.1.length := by rw [f.e4]; exact ⟨stds_names f.ok.sok.wn f.F.in4, List.length_set⟩
/-! the parts -/
theorem ev_low (c : CtxB W x σ H) : Ev (tVar 3) σ H (IsSt x.1) := let ⟨_, _, a, _, _, h3, _, _, h6⟩ := c.ex; ev_v stb_st h3 ⟨a, rfl, h6⟩
theorem zb {z : Str} (hz : isNm z = true) : ItB K true H (.str z) := ⟨z_any hz, hz⟩
theorem ev_b {j : Nat} {z : Str} (hi : σ[j]? = some (some (.str z))) (hz : isNm z = true) : Ev (tVar j) σ H (ItB K true) := ev_v stb_b hi (zb hz)
/-! the three shapes -/
theorem el_all {S : List Way} {t0 t1 t2 t3 t4 : TE} {st : List Str} {z1 z2 z3 z4 : Str} (e0 : Ev t0 σ H (IsSt st)) (e1 : Ev t1 σ H (IsZ z1)) (e2 : Ev t2 σ H (IsZ z2)) (e3 : Ev t3 σ H (IsZ z3)) (e4 : Ev t4 σ H (IsZ z4)) (nm : ∀ z ∈ st, isNm z = true) (n1 : 1 ≤ st.length) (n4 : st.length ≤ 4) (a1 : isNm z1 = true) (a2 : isNm z2 = true) (a3 : isNm z3 = true) (a4 : isNm z4 = true)
    (hb : st ∉ stds S ∨ sLt z1 z2 = false ∨ upN S st (z1, z3) = false ∨ upN S st (z2, z4) = false) (q : ∀ H' v, Same H H' → QF K S H' v → Q v H') : t5 t0 t1 t2 t3 t4 σ H Q :=
  tup5 stb_st stb_z stb_z stb_z stb_z e0 e1 e2 e3 e4 fun H' p v0 v1 v2 v3 v4 s h h0 h1 h2 h3 h4 => q _ _ s (q5_all h h0 h1 h2 h3 h4 nm n1 n4 (fun z hz => by
    rcases List.mem_cons.mp hz with rfl | hz
    · exact a1
    rcases List.mem_cons.mp hz with rfl | hz
    · exact a2
    rcases List.mem_cons.mp hz with rfl | hz
    · exact a3
    rw [List.mem_singleton.mp hz]
    exact a4) (sqB_no hb))
theorem el_odd {S : List Way} {t0 t1 t2 t3 t4 : TE} {st : List Str} {b1 b2 b3 b4 : Bool} (e0 : Ev t0 σ H (IsSt st)) (e1 : Ev t1 σ H (ItB K b1)) (e2 : Ev t2 σ H (ItB K b2)) (e3 : Ev t3 σ H (ItB K b3)) (e4 : Ev t4 σ H (ItB K b4)) (nm : ∀ z ∈ st, isNm z = true) (n1 : 1 ≤ st.length) (n4 : st.length ≤ 4)
    (hb : (b1 && (b2 && (b3 && b4))) = false) (q : ∀ H' v, Same H H' → QF K S H' v → Q v H') : t5 t0 t1 t2 t3 t4 σ H Q :=
  tup5 stb_st stb_b stb_b stb_b stb_b e0 e1 e2 e3 e4 fun H' p v0 v1 v2 v3 v4 s h h0 h1 h2 h3 h4 => q _ _ s (q5_odd h h0 h1.1 h2.1 h3.1 h4.1 nm n1 n4 (by
    show (nameV v1 && (nameV v2 && (nameV v3 && (nameV v4 && true)))) = false
    rw [h1.2, h2.2, h3.2, h4.2, Bool.and_true, hb]))
/-! the values -/
theorem on_non (q : ∀ H' v, Same H H' → QF K (sh W) H' v → Q v H') : tC .non σ H Q := q H _ (Same.refl _) ⟨.inl ⟨_, .non, by decide, by decide, rfl⟩, _, .inl .non, sml_non.mono (by decide) (by decide)⟩
theorem on_int (q : ∀ H' v, Same H H' → QF K (sh W) H' v → Q v H') : tC (.int 3) σ H Q := q H _ (Same.refl _) ⟨.inl ⟨_, .int 3, by decide, by decide, rfl⟩, _, .inl (.int 3), sml_3.mono (by decide) (by decide)⟩
theorem on_str (q : ∀ H' v, Same H H' → QF K (sh W) H' v → Q v H') : tC (.str "ab") σ H Q := q H _ (Same.refl _) ⟨.inl ⟨_, nm_any (z := "ab") (by decide +kernel), by decide, by decide, rfl⟩, _, .inl (.str "ab"), (sml_str (z := "ab") (by decide +kernel)).mono (by decide) (by decide)⟩
theorem on_tup0 (q : ∀ H' v, Same H H' → QF K (sh W) H' v → Q v H') : tTup tNil σ H Q := ⟨by show 0 ≤ sizeLine; decide, fun p np => q _ _ (same_upd np) ⟨.inr (.inl ⟨_, (s2_tup upd_same).seq, by decide, rfl⟩), _, .inl (.tup (SqT.of upd_same) .nil), (sml_tuple (n := 0) (k := 0) (m := 0) (ds := []) (fun _ h => (List.not_mem_nil h).elim) (Nat.le_refl _)).mono (by decide) (by decide)⟩⟩
theorem on_lst0 (q : ∀ H' v, Same H H' → QF K (sh W) H' v → Q v H') : tLst tNil σ H Q := ⟨by show 0 ≤ sizeLine; decide, fun p np => q _ _ (same_upd np) ⟨.inr (.inl ⟨_, (show Seq2 _ (.ref p) [] from ⟨p, rfl, .inl upd_same⟩).seq, by decide, rfl⟩), _, .inl (.lst (SqL.of upd_same) .nil), (sml_list (n := 0) (k := 0) (m := 0) (ds := []) (fun _ h => (List.not_mem_nil h).elim) (Nat.le_refl _)).mono (by decide) (by decide)⟩⟩
theorem sml_edct : Sml 2 1 (.dict []) := (sml_dict (n1 := 0) (n2 := 0) (k := 0) (m := 0) (ks := []) (vs := []) (fun _ h => nomatch h) (fun _ h => nomatch h) (Nat.le_refl _)).mono (by decide) (by decide)
theorem on_dct (q : ∀ H' v, Same H H' → QF K (sh W) H' v → Q v H') : tDNewT σ H Q := fun p np => q _ _ (same_upd np) ⟨.inl ⟨_, .dT upd_same, by decide, by decide, rfl⟩, _, .inr ⟨p, rfl, upd_same, rfl⟩, sml_edct.mono (by decide) (by decide)⟩
theorem many_dp {H : Hp} {p : Addr} {a : Addr} {st : List Str} {zs : List Str} (h : H p = some (.tup (.ref a :: zs.map V.str))) (ha : H a = some (.tup (st.map V.str))) (nm : ∀ z ∈ st, isNm z = true) (n4 : st.length ≤ 4) (nz : ∀ z ∈ zs, isNm z = true) (nl : zs.length ≤ 5) : ∃ d, Prt K H (.ref p) d ∧ Sml 1300 4 d := by
  refine ⟨_, .inl (.tup (SqT.of h) (.cons (dp_tup (SqT.of ha)) (dpAll_strs zs))), (sml_tuple (n := 36) (k := 1) (m := 6) (fun d hd => ?_) (by rw [List.length_cons, List.length_map]; omega)).mono (by decide) (by decide)⟩
  rcases List.mem_cons.mp hd with rfl | hd
  · exact sml_names n4 nm
  · obtain ⟨z, hz, rfl⟩ := List.mem_map.mp hd
    exact (sml_str (nz z hz)).mono (by decide) (by decide)
theorem on_four (f : BFix W x i k) (c : CtxB W x σ H) (q : ∀ H' v, Same H H' → QF K (sh W) H' v → Q v H') : tSl rSlB (tVar 2) tNoPart (tPart (tC (.int 4))) σ H Q := by
  obtain ⟨d, p, a, h1, h2, h3, h4, h5, h6⟩ := c.ex
  refine ⟨_, h2, 4, rfl, p, _, rfl, h5, fun H' r s hr => q _ _ s ⟨.inr (.inl ⟨_, (s2_tup hr).seq, (by show 4 ≠ 5; decide), rfl⟩), ?_⟩⟩
  have hr' : H' r = some (.tup (.ref a :: [x.2.1, x.2.2.1, x.2.2.2.1].map V.str)) := hr
  exact many_dp hr' (s _ _ h6) f.F.nms f.l4 (fun z hz => f.F.nm z (by
    simp only [List.mem_cons, List.not_mem_nil, or_false] at hz ⊢
    rcases hz with rfl | rfl | rfl <;> simp)) (by show 3 ≤ 5; decide)
theorem on_six (f : BFix W x i k) (c : CtxB W x σ H) (q : ∀ H' v, Same H H' → QF K (sh W) H' v → Q v H') : tOp rCatB (tVar 2) (tTup (tCons (tC (.str "a")) tNil)) σ H Q := by
  obtain ⟨d, p, a, h1, h2, h3, h4, h5, h6⟩ := c.ex
  refine ⟨_, h2, by show 1 ≤ sizeLine; decide, fun t nt => ⟨p, t, _, _, rfl, rfl, same_upd nt _ _ h5, upd_same, by show 5 + 1 ≤ 1000; decide, fun H' r s hr => ?_⟩⟩
  have s2 := (same_upd (o := .tup [V.str "a"]) nt).trans s
  refine q _ _ s2 ⟨.inr (.inl ⟨_, (s2_tup hr).seq, by simp, rfl⟩), ?_⟩
  have hr' : H' r = some (.tup (.ref a :: [x.2.1, x.2.2.1, x.2.2.2.1, x.2.2.2.2, "a"].map V.str)) := hr
  exact many_dp hr' (s2 _ _ h6) f.F.nms f.l4 (fun z hz => by
    simp only [List.mem_cons, List.not_mem_nil, or_false] at hz
    rcases hz with rfl | rfl | rfl | rfl | rfl
    · exact f.m1
    · exact f.m2
    · exact f.m3
    · exact f.m4
    · decide +kernel) (by show 5 ≤ 5; decide)
theorem on_swap (f : BFix W x i k) (c : CtxB W x σ H) (q : ∀ H' v, Same H H' → QF K (sh W) H' v → Q v H') : t5 (tVar 3) (tVar 5) (tVar 4) (tVar 7) (tVar 6) σ H Q :=
  el_all (ev_low c) (ev_z c.i5) (ev_z c.i4) (ev_z c.i7) (ev_z c.i6) f.F.nms f.l1 f.l4 f.m2 f.m1 f.m4 f.m3 (.inr (.inl (sLt_asymm f.F.lt))) q
theorem on_twice (f : BFix W x i k) (c : CtxB W x σ H) (q : ∀ H' v, Same H H' → QF K (sh W) H' v → Q v H') : t5 (tVar 3) (tVar 4) (tVar 4) (tVar 6) (tVar 6) σ H Q :=
  el_all (ev_low c) (ev_z c.i4) (ev_z c.i4) (ev_z c.i6) (ev_z c.i6) f.F.nms f.l1 f.l4 f.m1 f.m1 f.m3 f.m3 (.inr (.inl (sLt_irr _))) q
theorem on_zq1 (f : BFix W x i k) (c : CtxB W x σ H) (q : ∀ H' v, Same H H' → QF K (sh W) H' v → Q v H') : t5 (tVar 3) (tVar 4) (tVar 5) (tC (.str "zq")) (tVar 7) σ H Q :=
  el_all (z3 := zq) (ev_low c) (ev_z c.i4) (ev_z c.i5) ev_cz (ev_z c.i7) f.F.nms f.l1 f.l4 f.m1 f.m2 zq_nm f.m4 (.inr (.inr (.inl (up_zq f.ok f.M)))) q
theorem on_zq2 (f : BFix W x i k) (c : CtxB W x σ H) (q : ∀ H' v, Same H H' → QF K (sh W) H' v → Q v H') : t5 (tVar 3) (tVar 4) (tVar 5) (tVar 6) (tC (.str "zq")) σ H Q :=
  el_all (z4 := zq) (ev_low c) (ev_z c.i4) (ev_z c.i5) (ev_z c.i6) ev_cz f.F.nms f.l1 f.l4 f.m1 f.m2 f.m3 zq_nm (.inr (.inr (.inr (up_zq f.ok f.M)))) q
theorem ev_more (f : BFix W x i k) (c : CtxB W x σ H) : Ev (tOp rCatB (tVar 3) (tTup (tCons (tC (.str "a")) tNil))) σ H (IsSt (x.1 ++ [("a" : Str)])) := fun H1 R s1 r => by
  obtain ⟨d, p, a, h1, h2, h3, h4, h5, h6⟩ := c.ex
  refine ⟨_, h3, by show 1 ≤ sizeLine; decide, fun t nt => ⟨a, t, _, _, rfl, rfl, same_upd nt _ _ (s1 _ _ h6), upd_same, by rw [List.length_map]; have := f.l4; show x.1.length + 1 ≤ 1000; omega, fun H' u s hr => r _ _ ((same_upd nt).trans s) ⟨u, rfl, by rw [hr, List.map_append]; rfl⟩⟩⟩
theorem on_more (f : BFix W x i k) (c : CtxB W x σ H) (q : ∀ H' v, Same H H' → QF K (sh W) H' v → Q v H') : t5 (tOp rCatB (tVar 3) (tTup (tCons (tC (.str "a")) tNil))) (tVar 4) (tVar 5) (tVar 6) (tVar 7) σ H Q := by
  have hn : ∀ z ∈ x.1 ++ [("a" : Str)], isNm z = true := fun z hz => by
    rcases List.mem_append.mp hz with hz | hz
    · exact f.F.nms z hz
    · rw [List.mem_singleton.mp hz]
      decide +kernel
  have hl : (x.1 ++ [("a" : Str)]).length = x.1.length + 1 := by rw [List.length_append]; rfl
  have l4 := f.l4
  by_cases h4 : x.1.length = 4
  · refine tup5 stb_st stb_b stb_b stb_b stb_b (ev_more f c) (ev_b (K := K) c.i4 f.m1) (ev_b (K := K) c.i5 f.m2) (ev_b (K := K) c.i6 f.m3) (ev_b (K := K) c.i7 f.m4) fun H' p v0 v1 v2 v3 v4 s h h0 a1 a2 a3 a4 => q _ _ s (q5_first h ⟨?_, st_dp h0 (by omega) hn⟩ a1.1 a2.1 a3.1 a4.1)
    obtain ⟨a, rfl, ha⟩ := h0
    refine jn_no (s2_tup ha) (fun _ l => ?_) ?_
    · rw [List.length_map] at l
      omega
    · unfold namesV
      rw [List.length_map, hl, h4]
      rfl
  · refine el_all (ev_more f c) (ev_z c.i4) (ev_z c.i5) (ev_z c.i6) (ev_z c.i7) hn (by omega) (by omega) f.m1 f.m2 f.m3 f.m4 (.inl fun hm => ?_) q
    have := stds_mem hm
    have := f.F.hl
    omega
theorem on_zq3 (f : BFix W x i k) (c : CtxB W x σ H) (q : ∀ H' v, Same H H' → QF K (sh W) H' v → Q v H') : t5 (tVar 3) (tC (.str "zq")) (tVar 5) (tVar 6) (tVar 7) σ H Q :=
  el_all (z1 := zq) (ev_low c) ev_cz (ev_z c.i5) (ev_z c.i6) (ev_z c.i7) f.F.nms f.l1 f.l4 zq_nm f.m2 f.m3 f.m4 (.inr (.inr (.inl (upN_no (zq_name f.ok f.M))))) q
theorem on_none (f : BFix W x i k) (c : CtxB W x σ H) (q : ∀ H' v, Same H H' → QF K (sh W) H' v → Q v H') : tOp rCatB (tTup (tCons (tC .non) tNil)) (tSl rSlB (tVar 2) (tPart (tC (.int 1))) tNoPart) σ H Q := by
  obtain ⟨d, p, a, h1, h2, h3, h4, h5, h6⟩ := c.ex
  refine ⟨by show 1 ≤ sizeLine; decide, fun t nt => ⟨_, h2, 1, rfl, p, _, rfl, same_upd nt _ _ h5, fun H1 u s1 hu => ⟨t, u, _, _, rfl, rfl, s1 _ _ upd_same, hu, by show 1 + 4 ≤ 1000; decide, fun H' r s hr => ?_⟩⟩⟩
  have hr' : H' r = some (.tup [.non, .str x.2.1, .str x.2.2.1, .str x.2.2.2.1, .str x.2.2.2.2]) := hr
  exact q _ _ ((same_upd nt).trans (s1.trans s)) (q5_first hr' ⟨jn_flat .non (by decide) (by decide), _, .non, sml_non.mono (by decide) (by decide)⟩ (z_any f.m1) (z_any f.m2) (z_any f.m3) (z_any f.m4))
theorem on_zq4 (f : BFix W x i k) (c : CtxB W x σ H) (q : ∀ H' v, Same H H' → QF K (sh W) H' v → Q v H') : t5 (tVar 3) (tVar 4) (tC (.str "zq")) (tVar 6) (tVar 7) σ H Q :=
  el_all (z2 := zq) (ev_low c) (ev_z c.i4) ev_cz (ev_z c.i6) (ev_z c.i7) f.F.nms f.l1 f.l4 f.m1 zq_nm f.m3 f.m4 (.inr (.inr (.inr (upN_no (zq_name f.ok f.M))))) q
theorem on_non4 (f : BFix W x i k) (c : CtxB W x σ H) (q : ∀ H' v, Same H H' → QF K (sh W) H' v → Q v H') : t5 (tVar 3) (tVar 4) (tVar 5) (tVar 6) (tC .non) σ H Q :=
  el_odd (ev_low c) (ev_b c.i4 f.m1) (ev_b c.i5 f.m2) (ev_b c.i6 f.m3) ev_non f.F.nms f.l1 f.l4 rfl q
theorem on_lst1 (f : BFix W x i k) (c : CtxB W x σ H) (q : ∀ H' v, Same H H' → QF K (sh W) H' v → Q v H') : t5 (tVar 3) (tLst tNil) (tVar 5) (tVar 6) (tVar 7) σ H Q :=
  el_odd (ev_low c) ev_lst (ev_b c.i5 f.m2) (ev_b c.i6 f.m3) (ev_b c.i7 f.m4) f.F.nms f.l1 f.l4 rfl q
theorem on_int1 (f : BFix W x i k) (c : CtxB W x σ H) (q : ∀ H' v, Same H H' → QF K (sh W) H' v → Q v H') : t5 (tVar 3) (tC (.int 3)) (tVar 5) (tVar 6) (tVar 7) σ H Q :=
  el_odd (ev_low c) ev_int (ev_b c.i5 f.m2) (ev_b c.i6 f.m3) (ev_b c.i7 f.m4) f.F.nms f.l1 f.l4 rfl q
theorem op_first (f : BFix W x i k) (c : CtxB W x σ H) (q : ∀ H' v, Same H H' → QF K (sh W) H' v → Q v H') : t5 (tVar 3) (tVar 4) (tVar 5) (tTup (tCons (tVar 6) tNil)) (tVar 7) σ H Q :=
  el_odd (ev_low c) (ev_b c.i4 f.m1) (ev_b c.i5 f.m2) (ev_tup1 c.i6 f.m3) (ev_b c.i7 f.m4) f.F.nms f.l1 f.l4 rfl q
/-! the corners, called anew -/
abbrev tCor (K : PySem.W.Frag) (j : Int) : TE := tOp (rIxL K) (tOp (rIxT K) (tCall spLCor [] E0 (tCons (tVar 1) (tCons (tVar 2) tNil))) (tC (.int 2))) (tC (.int j))
theorem ev_cor (f : BFix W x i k) (c : CtxB W x σ H) {j : Int} {st : List Str} (hj : ∀ H' L p1 p2 p3 p4, CorAt H' (sh W) x L p1 p2 p3 p4 → ∃ a, atI [V.ref p1, .ref p2, .ref p3, .ref p4] j = some (.ref a) ∧ H' a = some (.tup (st.map V.str))) : Ev (tCor K j) σ H (IsSt st) := fun H1 R s1 r => by
  obtain ⟨d, p, a, h1, h2, h3, h4, h5, h6⟩ := c.ex
  refine ⟨_, h1, _, h2, d, _, W, x, rfl, h4.same s1, f.ok, ⟨p, a, rfl, s1 _ _ h5, s1 _ _ h6⟩, f.hb, fun H2 u L p1 p2 p3 p4 s2 hu hC => ?_⟩
  obtain ⟨b, hb, hs⟩ := hj _ _ _ _ _ _ hC
  exact ⟨u, _, _, .ref L, rfl, rfl, SqT.of hu, rfl, L, _, _, .ref b, rfl, rfl, SqL.of hC.l, hb, r _ _ s2 ⟨b, rfl, hs⟩⟩
theorem ev_c2 (f : BFix W x i k) (c : CtxB W x σ H) : Ev (tCor K 1) σ H (IsSt (c2 (sh W) x)) := ev_cor f c fun _ _ _ p2 _ _ h => ⟨p2, rfl, h.h2⟩
theorem ev_c3 (f : BFix W x i k) (c : CtxB W x σ H) : Ev (tCor K 2) σ H (IsSt (c3 (sh W) x)) := ev_cor f c fun _ _ _ _ p3 _ h => ⟨p3, rfl, h.h3⟩
abbrev tLowS (K : PySem.W.Frag) : TE := tOp (rIxT K) (tVar 3) (tBM K "list" (rIndex K) (tCB rSrtD (tCons (tVar 1) tNil)) (tCons (tVar 4) tNil))
theorem ev_lowS (f : BFix W x i k) (c : CtxB W x σ H) {z : Str} (hz : x.1[i]? = some z) : Ev (tLowS K) σ H (IsZ z) := fun H1 R s1 r => by
  obtain ⟨d, p, a, h1, h2, h3, h4, h5, h6⟩ := c.ex
  obtain ⟨kvs, hd, hpk⟩ := id h4
  have n4 := f.ok.n4
  refine ⟨_, h3, _, h1, d, kvs, W.map (·.1), rfl, s1 _ _ hd, keysL hpk, (by rw [List.length_map]; omega), fun n nn => ?_⟩
  have s2 := same_upd (o := .lst ((srt (W.map (·.1))).map V.str)) nn
  have hn : (upd H1 n (.lst ((srt (W.map (·.1))).map V.str))) n = some (.lst ((names (sh W)).map V.str)) := by
    rw [upd_same]
    show _ = some (HO.lst (((sh W).map (·.1)).map V.str))
    rw [sh_names]
  refine ⟨.inl ⟨rfl, _, SqL.of hn⟩, _, c.i4, ?_⟩
  first | (unfold tNil; dsimp only) | dsimp only
  refine idx_at f.nd hn f.F.ni ⟨a, _, _, .str z, rfl, rfl, SqT.of (s2 _ _ (s1 _ _ h6)), atI_nat (by rw [List.getElem?_map, hz]; rfl), r _ _ s2 rfl⟩
theorem on_c3 (f : BFix W x i k) (c : CtxB W x σ H) (q : ∀ H' v, Same H H' → QF K (sh W) H' v → Q v H') : t5 (tCor K 2) (tVar 4) (tVar 5) (tLowS K) (tVar 7) σ H Q := by
  obtain ⟨z, hz, hl, _⟩ := f.F.li
  exact el_all (ev_c3 f c) (ev_z c.i4) (ev_z c.i5) (ev_lowS f c hz) (ev_z c.i7) f.n3.1 (f.n3.2 ▸ f.l1) (f.n3.2 ▸ f.l4) f.m1 f.m2 (f.F.nms z (List.mem_of_getElem? hz)) f.m4 (.inr (.inr (.inl (up_low f.nd f.F.ni f.c3i (sLt_asymm hl))))) q
theorem on_c2 (f : BFix W x i k) (c : CtxB W x σ H) (q : ∀ H' v, Same H H' → QF K (sh W) H' v → Q v H') : t5 (tCor K 1) (tVar 4) (tVar 5) (tVar 6) (tVar 7) σ H Q :=
  el_all (ev_c2 f c) (ev_z c.i4) (ev_z c.i5) (ev_z c.i6) (ev_z c.i7) f.n2.1 (f.n2.2 ▸ f.l1) (f.n2.2 ▸ f.l4) f.m1 f.m2 f.m3 f.m4 (.inr (.inr (.inl (up_low f.nd f.F.ni f.c2i (sLt_irr _))))) q
/-! the corners by their names -/
abbrev tSpot (K : PySem.W.Frag) (j : Int) : TE := tOp (rIxL K) (tVar 11) (tC (.int j))
theorem ev_spot (c : CtxC W x σ H) {j : Int} {st : List Str} (hj : ∀ L p1 p2 p3 p4, CorAt H (sh W) x L p1 p2 p3 p4 → ∃ a, atI [V.ref p1, .ref p2, .ref p3, .ref p4] j = some (.ref a) ∧ H a = some (.tup (st.map V.str))) : Ev (tSpot K j) σ H (IsSt st) := fun H1 R s1 r => by
  obtain ⟨L, p1, p2, p3, p4, h11, hC⟩ := c.ex
  obtain ⟨b, hb, hs⟩ := hj _ _ _ _ _ hC
  exact ⟨_, h11, L, _, _, .ref b, rfl, rfl, SqL.of (s1 _ _ hC.l), hb, r _ _ (Same.refl _) ⟨b, rfl, s1 _ _ hs⟩⟩
theorem ev_s1 (c : CtxC W x σ H) : Ev (tSpot K 1) σ H (IsSt (c2 (sh W) x)) := ev_spot c fun _ _ p2 _ _ h => ⟨p2, rfl, h.h2⟩
theorem ev_s2 (c : CtxC W x σ H) : Ev (tSpot K 2) σ H (IsSt (c3 (sh W) x)) := ev_spot c fun _ _ _ p3 _ h => ⟨p3, rfl, h.h3⟩
theorem ev_s3 (c : CtxC W x σ H) : Ev (tSpot K 3) σ H (IsSt (c4 (sh W) x)) := ev_spot c fun _ _ _ _ p4 h => ⟨p4, rfl, h.h4⟩
theorem ev_lowJ (c : CtxC W x σ H) {n j : Nat} {z : Str} (hi : σ[n]? = some (some (.int (j : Int)))) (hz : x.1[j]? = some z) : Ev (tOp (rIxT K) (tVar 3) (tVar n)) σ H (IsZ z) := fun H1 R s1 r => by
  obtain ⟨d, p, a, h1, h2, h3, h4, h5, h6⟩ := c.b.ex
  exact ⟨_, h3, _, hi, a, _, _, .str z, rfl, rfl, SqT.of (s1 _ _ h6), atI_nat (by rw [List.getElem?_map, hz]; rfl), r _ _ (Same.refl _) rfl⟩
theorem op_s1 (f : BFix W x i k) (c : CtxC W x σ H) (q : ∀ H' v, Same H H' → QF K (sh W) H' v → Q v H') : t5 (tSpot K 1) (tVar 4) (tVar 5) (tOp (rIxT K) (tVar 3) (tVar 9)) (tVar 7) σ H Q := by
  obtain ⟨z, hz, hl, _⟩ := f.F.li
  exact el_all (ev_s1 c) (ev_z c.b.i4) (ev_z c.b.i5) (ev_lowJ c (f.F.ei ▸ c.i9) hz) (ev_z c.b.i7) f.n2.1 (f.n2.2 ▸ f.l1) (f.n2.2 ▸ f.l4) f.m1 f.m2 (f.F.nms z (List.mem_of_getElem? hz)) f.m4 (.inr (.inr (.inl (up_low f.nd f.F.ni f.c2i (sLt_asymm hl))))) q
theorem op_s3 (f : BFix W x i k) (c : CtxC W x σ H) (q : ∀ H' v, Same H H' → QF K (sh W) H' v → Q v H') : t5 (tSpot K 3) (tVar 4) (tVar 5) (tVar 6) (tOp (rIxT K) (tVar 3) (tVar 10)) σ H Q := by
  obtain ⟨z, hz, hl, _⟩ := f.F.lk
  exact el_all (ev_s3 c) (ev_z c.b.i4) (ev_z c.b.i5) (ev_z c.b.i6) (ev_lowJ c (f.F.ek ▸ c.i10) hz) f.n4.1 (f.n4.2 ▸ f.l1) (f.n4.2 ▸ f.l4) f.m1 f.m2 f.m3 (f.F.nms z (List.mem_of_getElem? hz)) (.inr (.inr (.inr (up_low f.nd f.F.nk f.c4k (sLt_asymm hl))))) q
theorem op_s2 (f : BFix W x i k) (c : CtxC W x σ H) (q : ∀ H' v, Same H H' → QF K (sh W) H' v → Q v H') : t5 (tSpot K 2) (tVar 4) (tVar 5) (tOp (rIxT K) (tVar 3) (tVar 9)) (tOp (rIxT K) (tVar 3) (tVar 10)) σ H Q := by
  obtain ⟨z, hz, hl, _⟩ := f.F.li
  obtain ⟨y, hy, _, _⟩ := f.F.lk
  exact el_all (ev_s2 c) (ev_z c.b.i4) (ev_z c.b.i5) (ev_lowJ c (f.F.ei ▸ c.i9) hz) (ev_lowJ c (f.F.ek ▸ c.i10) hy) f.n3.1 (f.n3.2 ▸ f.l1) (f.n3.2 ▸ f.l4) f.m1 f.m2 (f.F.nms z (List.mem_of_getElem? hz)) (f.F.nms y (List.mem_of_getElem? hy)) (.inr (.inr (.inl (up_low f.nd f.F.ni f.c3i (sLt_asymm hl))))) q
theorem op_s3b (f : BFix W x i k) (c : CtxC W x σ H) (q : ∀ H' v, Same H H' → QF K (sh W) H' v → Q v H') : t5 (tSpot K 3) (tVar 4) (tVar 5) (tVar 6) (tVar 7) σ H Q :=
  el_all (ev_s3 c) (ev_z c.b.i4) (ev_z c.b.i5) (ev_z c.b.i6) (ev_z c.b.i7) f.n4.1 (f.n4.2 ▸ f.l1) (f.n4.2 ▸ f.l4) f.m1 f.m2 f.m3 f.m4 (.inr (.inr (.inr (up_low f.nd f.F.nk f.c4k (sLt_irr _))))) q
abbrev tZqs (K : PySem.W.Frag) : TE := tOp rRepB (tTup (tCons (tC (.str "zq")) tNil)) (tCB (fun (xs : List V) H (Q : VK) => ∃ p ys, xs = [V.ref p] ∧ (SqL K H p ys ∨ SqT K H p ys) ∧ Q (.int (ys.length : Int)) H) (tCons (tVar 3) tNil))
theorem rep_one {z : Str} (n : Nat) : (List.replicate n [V.str z]).flatten = (List.replicate n z).map V.str := by
  induction n with
  | zero => rfl
  | succ n ih => rw [List.replicate_succ, List.flatten_cons, ih]; rfl
theorem ev_zqs (f : BFix W x i k) (c : CtxB W x σ H) : Ev (tZqs K) σ H (IsSt (List.replicate x.1.length zq)) := fun H1 R s1 r => by
  obtain ⟨d, p, a, h1, h2, h3, h4, h5, h6⟩ := c.ex
  have l1 := f.l1
  have l4 := f.l4
  refine ⟨by show 1 ≤ sizeLine; decide, fun t nt => ⟨_, h3, a, _, rfl, .inr (SqT.of (same_upd nt _ _ (s1 _ _ h6))), t, _, [.str "zq"], rfl, rfl, upd_same, (by intro z; cases z), (by rw [List.length_map]; omega), (by rw [List.length_map]; omega), by show 1 ≤ 1000; decide, fun H' u s hu => r _ _ ((same_upd nt).trans s) ⟨u, rfl, ?_⟩⟩⟩
  rw [hu, rep_one, Int.toNat_natCast, List.length_map]
  rfl
theorem op_zqs (f : BFix W x i k) (c : CtxB W x σ H) (q : ∀ H' v, Same H H' → QF K (sh W) H' v → Q v H') : t5 (tZqs K) (tVar 4) (tVar 5) (tVar 6) (tVar 7) σ H Q :=
  el_all (ev_zqs f c) (ev_z c.i4) (ev_z c.i5) (ev_z c.i6) (ev_z c.i7) (fun z hz => by rw [(List.mem_replicate.mp hz).2]; exact zq_nm) (by rw [List.length_replicate]; exact f.l1) (by rw [List.length_replicate]; exact f.l4) f.m1 f.m2 f.m3 f.m4 (.inl (zq_way f.ok f.M (List.mem_replicate.mpr ⟨by have := f.l1; omega, rfl⟩))) q
end
end HG

namespace HG
open PySem PySem.Spec PyProof.Rows L2 HT
open C8 (pss_cut tCut)
abbrev NsLB : List Str := ["_law_bag_here", "_law_ways", "_law_square", "_law_low", "_law_one_here", "_law_other", "_law_first", "_law_second", "_law_odd", "_law_i", "_law_k", "_law_spots"]
def spLBad (K : PySem.W.Frag) : Sp := fun args H Q _ => ∃ (bv : V) (d : Addr) (v : V) (W : List Way) (x : Sq), args = [bv, .ref d, v] ∧ ShL (fun _ => True) H d W ∧ WOk W ∧ MenuW W ∧ SqAt H x v ∧ sqB (sh W) x = true ∧
  ∀ H' L vs, Same H H' → H L = none → H' L = some (.lst vs) → vs.length = 27 → (∀ v ∈ vs, QF K (sh W) H' v) → Q (.ref L) H'
/-- the odd values so far: n of them, in slot 8 -/
structure MidB (K : PySem.W.Frag) (W : List Way) (x : Sq) (H0 : Hp) (bv : V) (d p a : Addr) (n : Nat) (σ : L2.St) (H : Hp) : Prop where
  ex : ∃ (L : Addr) (vs : List V) (v9 v10 v11 : Option V), σ = [some bv, some (.ref d), some (.ref p), some (.ref a), some (.str x.2.1), some (.str x.2.2.1), some (.str x.2.2.2.1), some (.str x.2.2.2.2), some (.ref L), v9, v10, v11] ∧ H L = some (.lst vs) ∧ vs.length = n ∧ ∀ v ∈ vs, QF K (sh W) H v
  s : Same H0 H
/-- and the corners, by their names -/
structure MidC (K : PySem.W.Frag) (W : List Way) (x : Sq) (H0 : Hp) (bv : V) (d p a : Addr) (n : Nat) (σ : L2.St) (H : Hp) : Prop where
  m : MidB K W x H0 bv d p a n σ H
  i9 : σ[9]? = some (some (.int (iO (sh W) x : Int)))
  i10 : σ[10]? = some (some (.int (kO (sh W) x : Int)))
  ex : ∃ L p1 p2 p3 p4 : Addr, σ[11]? = some (some (.ref L)) ∧ CorAt H (sh W) x L p1 p2 p3 p4
section
variable {K : PySem.W.Frag} {W : List Way} {x : Sq} {H0 H : Hp} {bv : V} {d p a L : Addr} {Q : VK} {n : Nat} {Ctx : L2.St → Hp → Prop} {σ : L2.St} {vs : List V}
theorem cat_odds {S : List Way} (m : Nat) (h8 : σ[8]? = some (some (.ref L))) (hL : H L = some (.lst vs)) (hv : ∀ v ∈ vs, QF K S H v) (hn : vs.length + m ≤ 100) (c : Ctx σ H)
    (k : ∀ H' M us, Same H H' → H M = none → H' M = some (.lst us) → us.length = vs.length + m → (∀ v ∈ us, QF K S H' v) → Q (.ref M) H') : tOp rCat (tVar 8) (tLst (tOdds Ctx (QF K S) m)) σ H Q := by
  refine ⟨_, h8, c, fun H1 us s1 hu lu => ⟨Nat.le_trans (show us.length ≤ 100 by omega) (by rw [sizeLine_eq]; decide), fun t nt => ?_⟩⟩
  have st := same_upd (o := .lst us) nt
  refine ⟨L, t, vs, us, rfl, rfl, st _ _ (s1 _ _ hL), upd_same, Nat.le_trans (show vs.length + us.length ≤ 100 by omega) (by rw [sizeLine_eq]; decide), fun M nM => ?_⟩
  have sM := same_upd (o := .lst (vs ++ us)) nM
  have s2 := st.trans sM
  refine k _ M _ (s1.trans s2) ((s1.trans st).free nM) upd_same (by rw [List.length_append, lu]) fun v hv' => ?_
  rcases List.mem_append.mp hv' with h | h
  · exact (hv v h).same (s1.trans s2)
  · exact (hu v h).same s2
end
section
variable {P : Program} {w : World} {K : PySem.W.Frag} {mg : Str → Option Value} {base : Heap}
theorem ok_lbad {f fC : Addr} {fd dC : FuncData} (ms : mg "sorted" = none) (ml : mg "len" = none) (CO : DfB K mg "_law_corners" s_law_corners ["_law_ways", "_law_square"] fC dC) (oC : FnOk P w K mg base CX0 1 fC dC ["_law_ways", "_law_square"] spLCor) (F : Fun K "_law_bad" "_law_bad" s_law_bad f fd) :
    FnOk P w K mg base CX0 2 f fd ["_law_bag_here", "_law_ways", "_law_square"] (spLBad K) := by
  have S : FnScope NsLB ["_law_bag_here", "_law_ways", "_law_square"] (defScope s_law_bad) := ⟨rfl, rfl, rfl, by decide +kernel, rfl, by decide +kernel, by decide +kernel⟩
  have nd := S.nd
  refine F.ok S (fun vs H Q E h => ?_) (fun cdv A outer s H vs Q E hr h => ?_)
  · obtain ⟨bv, d, v, W, x, rfl, _⟩ := h
    rfl
  · obtain ⟨bv, d, v, W, x, rfl, hsh, ok, hM, hv, hb, q⟩ := h
    have hu := hu_of hr
    obtain ⟨p, a, rfl, hp, ha⟩ := id hv
    obtain ⟨i, k, f⟩ := bad_fix ok hM hb
    refine ⟨_, pss_cons (ps_asg (pv 2) (pg_tup rfl (pgs_cons (pg_name (i := 3) nd rfl (Or.inl rfl)) (pgs_cons (pg_name (i := 4) nd rfl (Or.inl rfl)) (pgs_cons (pg_name (i := 5) nd rfl (Or.inl rfl)) (pgs_cons (pg_name (i := 6) nd rfl (Or.inl rfl)) (pgs_cons (pg_name (i := 7) nd rfl (Or.inl rfl)) pgs_nil)))))))
      (pss_cut (ps_set (i := 8) nd rfl (Or.inl rfl) (pe_lst (pa_odd (Ctx := CtxB W x) (φ := QF K (sh W)) (fun _ _ _ s c => CtxB.same s c) (fun _ _ _ s h => QF.same h s) (pe_odd pe_non (fun _ _ _ c q => on_non q)) (pa_odd (Ctx := CtxB W x) (φ := QF K (sh W)) (fun _ _ _ s c => CtxB.same s c) (fun _ _ _ s h => QF.same h s) (pe_odd pe_int (fun _ _ _ c q => on_int q)) (pa_odd (Ctx := CtxB W x) (φ := QF K (sh W)) (fun _ _ _ s c => CtxB.same s c) (fun _ _ _ s h => QF.same h s) (pe_odd pe_str (fun _ _ _ c q => on_str q)) (pa_odd (Ctx := CtxB W x) (φ := QF K (sh W)) (fun _ _ _ s c => CtxB.same s c) (fun _ _ _ s h => QF.same h s) (pe_odd (pe_tup pa_nil) (fun _ _ _ c q => on_tup0 q)) (pa_odd (Ctx := CtxB W x) (φ := QF K (sh W)) (fun _ _ _ s c => CtxB.same s c) (fun _ _ _ s h => QF.same h s) (pe_odd (pe_lst pa_nil) (fun _ _ _ c q => on_lst0 q)) (pa_odd (Ctx := CtxB W x) (φ := QF K (sh W)) (fun _ _ _ s c => CtxB.same s c) (fun _ _ _ s h => QF.same h s) (pe_odd pe_dnewT (fun _ _ _ c q => on_dct q)) (pa_odd (Ctx := CtxB W x) (φ := QF K (sh W)) (fun _ _ _ s c => CtxB.same s c) (fun _ _ _ s h => QF.same h s) (pe_odd (pe_slice sl_tupB (pv 2) po_none (po_some pe_int)) (fun _ _ _ c q => on_four f c q)) (pa_odd (Ctx := CtxB W x) (φ := QF K (sh W)) (fun _ _ _ s c => CtxB.same s c) (fun _ _ _ s h => QF.same h s) (pe_odd (pe_op op_catB (pv 2) (pe_tup (pa_cons pe_str pa_nil))) (fun _ _ _ c q => on_six f c q)) (pa_odd (Ctx := CtxB W x) (φ := QF K (sh W)) (fun _ _ _ s c => CtxB.same s c) (fun _ _ _ s h => QF.same h s) (pe_odd (pe_tup (pa_cons (pv 3) (pa_cons (pv 5) (pa_cons (pv 4) (pa_cons (pv 7) (pa_cons (pv 6) pa_nil)))))) (fun _ _ _ c q => on_swap f c q)) pa_odd0)))))))))))
      (pss_cut (ps_set (i := 8) nd rfl (Or.inl rfl) (pe_op op_cat (pv 8) (pe_lst (pa_odd (Ctx := CtxB W x) (φ := QF K (sh W)) (fun _ _ _ s c => CtxB.same s c) (fun _ _ _ s h => QF.same h s) (pe_odd (pe_tup (pa_cons (pv 3) (pa_cons (pv 4) (pa_cons (pv 4) (pa_cons (pv 6) (pa_cons (pv 6) pa_nil)))))) (fun _ _ _ c q => on_twice f c q)) (pa_odd (Ctx := CtxB W x) (φ := QF K (sh W)) (fun _ _ _ s c => CtxB.same s c) (fun _ _ _ s h => QF.same h s) (pe_odd (pe_tup (pa_cons (pv 3) (pa_cons (pv 4) (pa_cons (pv 5) (pa_cons pe_str (pa_cons (pv 7) pa_nil)))))) (fun _ _ _ c q => on_zq1 f c q)) (pa_odd (Ctx := CtxB W x) (φ := QF K (sh W)) (fun _ _ _ s c => CtxB.same s c) (fun _ _ _ s h => QF.same h s) (pe_odd (pe_tup (pa_cons (pv 3) (pa_cons (pv 4) (pa_cons (pv 5) (pa_cons (pv 6) (pa_cons pe_str pa_nil)))))) (fun _ _ _ c q => on_zq2 f c q)) pa_odd0))))))
      (pss_cut (ps_set (i := 8) nd rfl (Or.inl rfl) (pe_op op_cat (pv 8) (pe_lst (pa_odd (Ctx := CtxB W x) (φ := QF K (sh W)) (fun _ _ _ s c => CtxB.same s c) (fun _ _ _ s h => QF.same h s) (pe_odd (pe_tup (pa_cons (pe_op op_catB (pv 3) (pe_tup (pa_cons pe_str pa_nil))) (pa_cons (pv 4) (pa_cons (pv 5) (pa_cons (pv 6) (pa_cons (pv 7) pa_nil)))))) (fun _ _ _ c q => on_more f c q)) (pa_odd (Ctx := CtxB W x) (φ := QF K (sh W)) (fun _ _ _ s c => CtxB.same s c) (fun _ _ _ s h => QF.same h s) (pe_odd (pe_tup (pa_cons (pv 3) (pa_cons pe_str (pa_cons (pv 5) (pa_cons (pv 6) (pa_cons (pv 7) pa_nil)))))) (fun _ _ _ c q => on_zq3 f c q)) (pa_odd (Ctx := CtxB W x) (φ := QF K (sh W)) (fun _ _ _ s c => CtxB.same s c) (fun _ _ _ s h => QF.same h s) (pe_odd (pe_op op_catB (pe_tup (pa_cons pe_non pa_nil)) (pe_slice sl_tupB (pv 2) (po_some pe_int) po_none)) (fun _ _ _ c q => on_none f c q)) pa_odd0))))))
      (pss_cut (ps_set (i := 8) nd rfl (Or.inl rfl) (pe_op op_cat (pv 8) (pe_lst (pa_odd (Ctx := CtxB W x) (φ := QF K (sh W)) (fun _ _ _ s c => CtxB.same s c) (fun _ _ _ s h => QF.same h s) (pe_odd (pe_tup (pa_cons (pv 3) (pa_cons (pv 4) (pa_cons pe_str (pa_cons (pv 6) (pa_cons (pv 7) pa_nil)))))) (fun _ _ _ c q => on_zq4 f c q)) (pa_odd (Ctx := CtxB W x) (φ := QF K (sh W)) (fun _ _ _ s c => CtxB.same s c) (fun _ _ _ s h => QF.same h s) (pe_odd (pe_tup (pa_cons (pv 3) (pa_cons (pv 4) (pa_cons (pv 5) (pa_cons (pv 6) (pa_cons pe_non pa_nil)))))) (fun _ _ _ c q => on_non4 f c q)) (pa_odd (Ctx := CtxB W x) (φ := QF K (sh W)) (fun _ _ _ s c => CtxB.same s c) (fun _ _ _ s h => QF.same h s) (pe_odd (pe_tup (pa_cons (pv 3) (pa_cons (pe_lst pa_nil) (pa_cons (pv 5) (pa_cons (pv 6) (pa_cons (pv 7) pa_nil)))))) (fun _ _ _ c q => on_lst1 f c q)) pa_odd0))))))
      (pss_cut (ps_set (i := 8) nd rfl (Or.inl rfl) (pe_op op_cat (pv 8) (pe_lst (pa_odd (Ctx := CtxB W x) (φ := QF K (sh W)) (fun _ _ _ s c => CtxB.same s c) (fun _ _ _ s h => QF.same h s) (pe_odd (pe_tup (pa_cons (pe_ix ix_list (pe_ix ix_tup (pe_call oC (hr.mono (by decide)) (by rfl) CO.d.g CO.d.F.kp CO.b .nil pass0 (pa_cons (pv 1) (pa_cons (pv 2) pa_nil))) pe_int (fun _ _ => rfl)) pe_int (fun _ _ => rfl)) (pa_cons (pv 4) (pa_cons (pv 5) (pa_cons (pe_ix ix_tup (pv 3) (pe_bm PySem.F.plainAttrs_list PySem.F.slot_list_index PySem.F.type_list_index mt_index (pe_callB (call_srtD rfl) (by rfl) ms (by decide +kernel) (pa_cons (pv 1) pa_nil)) (pa_cons (pv 4) pa_nil)) (fun _ _ => rfl)) (pa_cons (pv 7) pa_nil)))))) (fun _ _ _ c q => on_c3 f c q)) pa_odd0))))
      (pss_cut (ps_set (i := 8) nd rfl (Or.inl rfl) (pe_op op_cat (pv 8) (pe_lst (pa_odd (Ctx := CtxB W x) (φ := QF K (sh W)) (fun _ _ _ s c => CtxB.same s c) (fun _ _ _ s h => QF.same h s) (pe_odd (pe_tup (pa_cons (pe_ix ix_list (pe_ix ix_tup (pe_call oC (hr.mono (by decide)) (by rfl) CO.d.g CO.d.F.kp CO.b .nil pass0 (pa_cons (pv 1) (pa_cons (pv 2) pa_nil))) pe_int (fun _ _ => rfl)) pe_int (fun _ _ => rfl)) (pa_cons (pv 4) (pa_cons (pv 5) (pa_cons (pv 6) (pa_cons (pv 7) pa_nil)))))) (fun _ _ _ c q => on_c2 f c q)) (pa_odd (Ctx := CtxB W x) (φ := QF K (sh W)) (fun _ _ _ s c => CtxB.same s c) (fun _ _ _ s h => QF.same h s) (pe_odd (pe_tup (pa_cons (pv 3) (pa_cons pe_int (pa_cons (pv 5) (pa_cons (pv 6) (pa_cons (pv 7) pa_nil)))))) (fun _ _ _ c q => on_int1 f c q)) pa_odd0)))))
      (pss_cut (ps_asg (pe_call oC (hr.mono (by decide)) (by rfl) CO.d.g CO.d.F.kp CO.b .nil pass0 (pa_cons (pv 1) (pa_cons (pv 2) pa_nil))) (pg_tup rfl (pgs_cons (pg_name (i := 9) nd rfl (Or.inl rfl)) (pgs_cons (pg_name (i := 10) nd rfl (Or.inl rfl)) (pgs_cons (pg_name (i := 11) nd rfl (Or.inl rfl)) pgs_nil)))))
      (pss_cut (ps_set (i := 8) nd rfl (Or.inl rfl) (pe_op op_cat (pv 8) (pe_lst (pa_odd (Ctx := CtxC W x) (φ := QF K (sh W)) (fun _ _ _ s c => CtxC.same s c) (fun _ _ _ s h => QF.same h s) (pe_odd (pe_tup (pa_cons (pe_ix ix_list (pv 11) pe_int (fun _ _ => rfl)) (pa_cons (pv 4) (pa_cons (pv 5) (pa_cons (pe_ix ix_tup (pv 3) (pv 9) (fun _ _ => rfl)) (pa_cons (pv 7) pa_nil)))))) (fun _ _ _ c q => op_s1 f c q)) (pa_odd (Ctx := CtxC W x) (φ := QF K (sh W)) (fun _ _ _ s c => CtxC.same s c) (fun _ _ _ s h => QF.same h s) (pe_odd (pe_tup (pa_cons (pe_ix ix_list (pv 11) pe_int (fun _ _ => rfl)) (pa_cons (pv 4) (pa_cons (pv 5) (pa_cons (pv 6) (pa_cons (pe_ix ix_tup (pv 3) (pv 10) (fun _ _ => rfl)) pa_nil)))))) (fun _ _ _ c q => op_s3 f c q)) pa_odd0)))))
      (pss_cut (ps_set (i := 8) nd rfl (Or.inl rfl) (pe_op op_cat (pv 8) (pe_lst (pa_odd (Ctx := CtxC W x) (φ := QF K (sh W)) (fun _ _ _ s c => CtxC.same s c) (fun _ _ _ s h => QF.same h s) (pe_odd (pe_tup (pa_cons (pe_ix ix_list (pv 11) pe_int (fun _ _ => rfl)) (pa_cons (pv 4) (pa_cons (pv 5) (pa_cons (pe_ix ix_tup (pv 3) (pv 9) (fun _ _ => rfl)) (pa_cons (pe_ix ix_tup (pv 3) (pv 10) (fun _ _ => rfl)) pa_nil)))))) (fun _ _ _ c q => op_s2 f c q)) (pa_odd (Ctx := CtxC W x) (φ := QF K (sh W)) (fun _ _ _ s c => CtxC.same s c) (fun _ _ _ s h => QF.same h s) (pe_odd (pe_tup (pa_cons (pe_ix ix_list (pv 11) pe_int (fun _ _ => rfl)) (pa_cons (pv 4) (pa_cons (pv 5) (pa_cons (pv 6) (pa_cons (pv 7) pa_nil)))))) (fun _ _ _ c q => op_s3b f c q)) pa_odd0)))))
      (pss_one (ps_ret (pe_op op_cat (pv 8) (pe_lst (pa_odd (Ctx := CtxB W x) (φ := QF K (sh W)) (fun _ _ _ s c => CtxB.same s c) (fun _ _ _ s h => QF.same h s) (pe_odd (pe_tup (pa_cons (pe_op op_repB (pe_tup (pa_cons pe_str pa_nil)) (pe_callB call_len_seq (by rfl) ml PySem.boot_len (pa_cons (pv 3) pa_nil))) (pa_cons (pv 4) (pa_cons (pv 5) (pa_cons (pv 6) (pa_cons (pv 7) pa_nil)))))) (fun _ _ _ c q => op_zqs f c q)) (pa_odd (Ctx := CtxB W x) (φ := QF K (sh W)) (fun _ _ _ s c => CtxB.same s c) (fun _ _ _ s h => QF.same h s) (pe_odd (pe_tup (pa_cons (pv 3) (pa_cons (pv 4) (pa_cons (pv 5) (pa_cons (pe_tup (pa_cons (pv 6) pa_nil)) (pa_cons (pv 7) pa_nil)))))) (fun _ _ _ c q => op_first f c q)) pa_odd0))))))))))))))), ?_⟩
    refine ⟨_, rfl, p, _, rfl, SqT.of hp, rfl, _, _, rfl, _, _, rfl, _, _, rfl, _, _, rfl, _, _, rfl, rfl, ?_⟩
    refine ⟨MidB K W x H bv d p a 9, ⟨⟨⟨d, p, a, rfl, rfl, rfl, hsh, hp, ha⟩, rfl, rfl, rfl, rfl⟩, fun H1 vs s1 hvs hl => ⟨(by rw [hl]; show 9 ≤ sizeLine; decide), fun L nL => ?_⟩⟩, ?_⟩
    · have sL := same_upd (o := .lst vs) nL
      exact ⟨⟨L, vs, _, _, _, rfl, upd_same, hl, fun v hv => (hvs v hv).same sL⟩, s1.trans sL⟩
    have CB : ∀ {H1 : Hp} {L : Addr} {v9 v10 v11 : Option V}, Same H H1 → CtxB W x [some bv, some (.ref d), some (.ref p), some (.ref a), some (.str x.2.1), some (.str x.2.2.1), some (.str x.2.2.2.1), some (.str x.2.2.2.2), some (.ref L), v9, v10, v11] H1 :=
      fun s1 => ⟨⟨d, p, a, rfl, rfl, rfl, hsh.same s1, s1 _ _ hp, s1 _ _ ha⟩, rfl, rfl, rfl, rfl⟩
    rintro σ H1 ⟨⟨L, vs, v9, v10, v11, rfl, hL, hl, hvs⟩, s1⟩
    refine ⟨MidB K W x H bv d p a 12, cat_odds 3 rfl hL hvs (by omega) (CB s1) (fun H' M us s nM hM lu hu => ⟨⟨M, us, v9, v10, v11, rfl, hM, by omega, hu⟩, s1.trans s⟩), ?_⟩
    clear hvs hL hl s1
    rintro σ H1 ⟨⟨L, vs, v9, v10, v11, rfl, hL, hl, hvs⟩, s1⟩
    refine ⟨MidB K W x H bv d p a 15, cat_odds 3 rfl hL hvs (by omega) (CB s1) (fun H' M us s nM hM lu hu => ⟨⟨M, us, v9, v10, v11, rfl, hM, by omega, hu⟩, s1.trans s⟩), ?_⟩
    clear hvs hL hl s1
    rintro σ H1 ⟨⟨L, vs, v9, v10, v11, rfl, hL, hl, hvs⟩, s1⟩
    refine ⟨MidB K W x H bv d p a 18, cat_odds 3 rfl hL hvs (by omega) (CB s1) (fun H' M us s nM hM lu hu => ⟨⟨M, us, v9, v10, v11, rfl, hM, by omega, hu⟩, s1.trans s⟩), ?_⟩
    clear hvs hL hl s1
    rintro σ H1 ⟨⟨L, vs, v9, v10, v11, rfl, hL, hl, hvs⟩, s1⟩
    refine ⟨MidB K W x H bv d p a 19, cat_odds 1 rfl hL hvs (by omega) (CB s1) (fun H' M us s nM hM lu hu => ⟨⟨M, us, v9, v10, v11, rfl, hM, by omega, hu⟩, s1.trans s⟩), ?_⟩
    clear hvs hL hl s1
    rintro σ H1 ⟨⟨L, vs, v9, v10, v11, rfl, hL, hl, hvs⟩, s1⟩
    refine ⟨MidB K W x H bv d p a 21, cat_odds 2 rfl hL hvs (by omega) (CB s1) (fun H' M us s nM hM lu hu => ⟨⟨M, us, v9, v10, v11, rfl, hM, by omega, hu⟩, s1.trans s⟩), ?_⟩
    clear hvs hL hl s1
    rintro σ H1 ⟨⟨L, vs, v9, v10, v11, rfl, hL, hl, hvs⟩, s1⟩
    refine ⟨MidC K W x H bv d p a 21, ?_, ?_⟩
    · refine ⟨_, rfl, _, rfl, d, _, W, x, rfl, hsh.same s1, ok, hv.same s1, hb, fun H2 r Lc p1 p2 p3 p4 s2 hr2 C2 => ⟨r, _, rfl, SqT.of hr2, rfl, _, _, rfl, _, _, rfl, _, _, rfl, rfl, ?_⟩⟩
      exact ⟨⟨⟨L, vs, _, _, _, rfl, s2 _ _ hL, hl, fun v hv => (hvs v hv).same s2⟩, s1.trans s2⟩, rfl, rfl, Lc, p1, p2, p3, p4, rfl, C2⟩
    clear hvs hL hl s1
    rintro σ H1 ⟨⟨⟨L, vs, v9, v10, v11, rfl, hL, hl, hvs⟩, s1⟩, i9, i10, Lc, p1, p2, p3, p4, h11, C1⟩
    refine ⟨MidC K W x H bv d p a 23, cat_odds 2 rfl hL hvs (by omega) ⟨CB s1, i9, i10, Lc, p1, p2, p3, p4, h11, C1⟩ (fun H' M us s nM hM lu hu => ⟨⟨⟨M, us, v9, v10, v11, rfl, hM, by omega, hu⟩, s1.trans s⟩, i9, i10, Lc, p1, p2, p3, p4, h11, C1.same s⟩), ?_⟩
    clear hvs hL hl s1 i9 i10 h11 C1
    rintro σ H1 ⟨⟨⟨L, vs, v9, v10, v11, rfl, hL, hl, hvs⟩, s1⟩, i9, i10, Lc, p1, p2, p3, p4, h11, C1⟩
    refine ⟨MidC K W x H bv d p a 25, cat_odds 2 rfl hL hvs (by omega) ⟨CB s1, i9, i10, Lc, p1, p2, p3, p4, h11, C1⟩ (fun H' M us s nM hM lu hu => ⟨⟨⟨M, us, v9, v10, v11, rfl, hM, by omega, hu⟩, s1.trans s⟩, i9, i10, Lc, p1, p2, p3, p4, h11, C1.same s⟩), ?_⟩
    clear hvs hL hl s1 i9 i10 h11 C1
    rintro σ H1 ⟨⟨⟨L, vs, v9, v10, v11, rfl, hL, hl, hvs⟩, s1⟩, i9, i10, Lc, p1, p2, p3, p4, h11, C1⟩
    exact cat_odds 2 rfl hL hvs (by omega) (CB s1) (fun H' M us s nM hM lu hu => q H' M us (s1.trans s) (s1.free nM) hM (by omega) hu)
end
end HG

namespace HG
open PySem PySem.Spec PyProof.Rows L2 HT
open C8 (pss_cut tCut)
/-! ### repr of a tuple -/
def rReprP (K : PySem.W.Frag) : List V → Hp → VK → Prop := fun vs H Q => ∃ (a : Addr) (xs : List V) (ds : List PyData), vs = [.ref a] ∧ H a = some (.tup xs) ∧ ShwAll K H xs ds ∧ PyData.showableAll ds = true ∧ PyData.depthAll ds ≤ 30 ∧ (PyData.tuple ds).shown.length ≤ sizeLine ∧ Q (.str (PyData.tuple ds).shown) H
theorem call_reprP {X : Cx} (hgd : X.A.guards = some []) (hu : X.A.units + 64 < cLine) : CallR X (.builtin "repr") (rReprP X.K) := by
  intro pins s σ H vs us Q I r h
  obtain ⟨a, xs, ds, rfl, ha, t, hs, hd, hz, q⟩ := h
  rw [Vals.ref1 r]
  obtain ⟨_, its, va, o, ho, hc, n, hdd⟩ := I.hok _ _ ha
  have hz' : (tupleText (PyData.shownAll ds)).length ≤ sizeLine := by simpa only [PyData.shown] using hz
  obtain ⟨as, bs, rd, m, k⟩ := shwAll_ra I t va hs fun x hx => Nat.le_trans (tupleText_mem_le hx) hz'
  have top : Reads s.heap (.ref a) (.tuple ds) _ := .tuple ho hc hdd (by simpa using rd)
  have na : a ∉ bs := not_mem_of_deeper top (by simp only [PyData.depth]; omega) m
  refine call_repr_slot (by omega) ⟨_, ho, hc⟩ F.slot_tuple_repr (call_tuple_reprK ho hc hdd na (by simpa using k) hgd (fun b _ => Clear.nil b) (by show X.A.units + 1 + (PyData.depthAll ds + 1) < cLine; omega) (fun _ _ z => z) (fun h' u tk hk => ?_) hz')
  refine ⟨_, _, rfl, .str (PyData.tuple ds).shown, H, I.kept (t' := tk) hk, ⟨u, ?_⟩, q⟩
  simp only [PyData.shown]
theorem read_shw {K : PySem.W.Frag} {H : Hp} {a : Addr} {xs : List V} {ds : List PyData} {n k : Nat} {Q : VK} (h : H a = some (.tup xs)) (t : ShwAll K H xs ds) (s : Sml n k (.tuple ds)) (hn : 66 * n + 64 ≤ sizeLine) (hk : k ≤ 30) (q : Q (.str (PyData.tuple ds).shown) H) : rReprP K [.ref a] H Q := by
  refine ⟨a, xs, ds, rfl, h, t, ?_, ?_, s.fits hn, q⟩
  · have := s.sh
    simpa only [PyData.showable] using this
  · have := s.dp
    simp only [PyData.depth] at this
    omega
/-! ### two tuples of one string and the very same value -/
def rNeI : R2 := fun x y H Q => ∃ a b z g, x = .ref a ∧ y = .ref b ∧ H a = some (.tup [.str z, .ref g]) ∧ H b = some (.tup [.str z, .ref g]) ∧ Q (.bl false) H
theorem op_neI {X : Cx} (hu : X.A.units + 64 < cLine) : OpR X (compareOp .NotEq) rNeI := by
  intro pins s σ H x y v u Q I rx ry h
  obtain ⟨a, b, z, g, rfl, rfl, ha, hb, q⟩ := h
  cases (show v = Value.ref a from rx)
  cases (show u = Value.ref b from ry)
  obtain ⟨_, ia, va, oa, hoa, hca, na, hda⟩ := I.hok _ _ ha
  obtain ⟨_, ib, vb, ob, hob, hcb, nb, hdb⟩ := I.hok _ _ hb
  cases va with
  | cons r1 t1 =>
    cases t1 with
    | cons r2 t2 =>
      cases t2
      cases vb with
      | cons r3 t3 =>
        cases t3 with
        | cons r4 t4 =>
          cases t4
          obtain ⟨k1, rfl⟩ := r1
          obtain ⟨k3, rfl⟩ := r3
          cases r2
          cases r4
          refine (SeqAt.RcNeAt.tuples (e := fun _ => true) ⟨oa, hoa, hca, na, hda⟩ ⟨ob, hob, hcb, nb, hdb⟩ (by omega) (fun j h1 h2 => ?_)) X.prog X.w X.xe _ ?_
          · rcases j with _ | _ | j
            · have e := SeqAt.EqAt.str_str (A := X.A.in1) (s := s) z k1 z k3
              rw [beq_self_eq_true] at e
              exact e
            · exact SeqAt.EqAt.same _
            · exact absurd h1 (by show ¬ j + 2 < 2; omega)
          · exact ⟨.bl false, H, I, rfl, q⟩
/-! ### longer lists mixed, and one of them -/
def spMixedB (K : PySem.W.Frag) : Sp := fun args H Q _ => ∃ (b k p : Addr) (ns : List Int) (xs : List V), args = [.ref b, .ref p] ∧ ABag H b k ns ∧ SqL K H p xs ∧ p ≠ b ∧ xs.length ≤ 2000000 ∧
  ∀ H' q ys, But b H H' → ABag H' b k ns → H q = none → H' q = some (.lst ys) → ys.Perm xs → Q (.ref q) H'
def spOneB (K : PySem.W.Frag) : Sp := fun vs H Q _ => ∃ (b k p : Addr) (ns : List Int) (xs : List V), vs = [.ref b, .ref p] ∧ ABag H b k ns ∧ SqL K H p xs ∧ p ≠ b ∧ xs ≠ [] ∧ xs.length ≤ 2000000 ∧
  ∀ H' x, But b H H' → ABag H' b k ns → x ∈ xs → Q x H'
section
variable {P : Program} {w : World} {K : PySem.W.Frag} {mg : Str → Option Value} {base : Heap}
variable {fT fO : Addr} {dT dO : FuncData}
theorem ok_mixedB {f : Addr} {fd : FuncData} (B : BT K mg fT fO dT dO) (F : Fun K "_law_mixed" "_law_mixed" s_law_mixed f fd) : FnOk P w K mg base CX0 2 f fd ["_law_bag_here", "_law_things"] (spMixedB K) := by
  have S : FnScope ["_law_bag_here", "_law_things", "_law_found", "_law_thing"] ["_law_bag_here", "_law_things"] (defScope s_law_mixed) := ⟨rfl, rfl, rfl, by decide +kernel, rfl, by decide +kernel, by decide +kernel⟩
  have nd := S.nd
  refine F.ok S (fun vs H Q E h => ?_) (fun cdv A outer s H vs Q E hr h => ?_)
  · obtain ⟨b, k, p, ns, xs, rfl, _⟩ := h
    rfl
  · obtain ⟨b, k, p, ns, xs, rfl, B0, hs, hpb, hz, q⟩ := h
    refine ⟨_, pss_cons (ps_set (i := 2) nd rfl (Or.inl rfl) (pe_lst pa_nil))
      (pss_cons (ps_for PassesOwn.never rfl (pi_list (pv 1)) (pg_name (i := 3) nd rfl (Or.inl rfl))
        (pss_one (ps_expr (pe_bm PySem.F.plainAttrs_list PySem.F.slot_list_insert PySem.F.type_list_insert mt_insert (pv 2) (pa_cons (pe_call (ok_take B.T B.ml B.mi) (hr.mono (by decide)) (by rfl) B.gT B.T.kp B.bT .nil pass0 (pa_cons (pv 0) (pa_cons (pe_op op_add (pe_callB call_len_seq (by rfl) B.ml PySem.boot_len (pa_cons (pv 2) pa_nil)) pe_int) pa_nil))) (pa_cons (pv 3) pa_nil))))))
      (pss_one (ps_ret (pv 2)))), ?_⟩
    refine ⟨(by show 0 ≤ sizeLine; decide), fun q0 n0 => ?_⟩
    have s0 := same_upd (o := .lst []) n0
    have hqb : q0 ≠ b := fun z => by
      obtain ⟨xs, e⟩ := abag_ne B0
      rw [z, e] at n0
      cases n0
    have hqk : q0 ≠ k := fun z => by rw [z, abag_k B0] at n0; cases n0
    refine ⟨_, rfl, p, rfl, ⟨_, s0.seq hs⟩, for_it (walk_list (K := K) (a := p) (xs := xs)) (fun i σ H' => ∃ ys v3, σ = [some (.ref b), some (.ref p), some (.ref q0), v3] ∧ But b H H' ∧ ABag H' b k ns ∧ H' q0 = some (.lst ys) ∧ ys.Perm (xs.take i)) ⟨[], none, rfl, But.of s0, B0.same s0, upd_same, by simp⟩ (fun i σ H' _ ⟨_, _, _, kb, _, _, _⟩ => but_seq kb hs hpb) ?_ ?_⟩
    · rintro i x σ H1 H2 hi ⟨ys, v3, rfl, kb, B1, hq, hp⟩ ⟨rfl, hx⟩
      have hyl : ys.length ≤ 2000000 := by
        rw [hp.length_eq, List.length_take]
        omega
      refine ⟨_, rfl, .inl ⟨rfl, _, SqL.of hq⟩, _, rfl, _, rfl, q0, ys, rfl, .inl (SqL.of hq), _, _, rfl, rfl, b, k, ns, _, rfl, B1, by omega, by omega, fun H3 d kb3 B3 d0 d1 => ?_⟩
      have hq3 := kb3 _ _ hq hqb
      refine ⟨_, rfl, q0, ys, d, x, rfl, rfl, hq3, Nat.lt_of_le_of_lt hyl (by rw [sizeLine_eq]; decide), d0, by omega, ?_⟩
      refine ⟨_, _, rfl, fun r o e hr => ?_, abag_upd B3 hqb hqk, upd_same, ?_⟩
      · have hrq : r ≠ q0 := ne_of_none e n0
        rw [upd_ne hrq]
        exact kb3 _ _ (kb _ _ e hr) hr
      · have e2 : xs.take (i + 1) = xs.take i ++ [x] := by
          rw [List.take_add_one, hx]
          rfl
        rw [e2]
        refine List.Perm.trans ?_ (hp.append_right [x])
        rw [List.append_assoc]
        refine List.Perm.trans List.perm_middle ?_
        show (x :: (ys.take d.toNat ++ ys.drop d.toNat)).Perm (ys ++ [x])
        rw [List.take_append_drop]
        exact (List.perm_append_singleton x ys).symm
    · rintro σ H' ⟨ys, v3, rfl, kb, B1, hq, hp⟩
      rw [List.take_length] at hp
      exact ⟨_, rfl, q _ q0 ys kb B1 n0 hq hp⟩
theorem ok_oneB {f ft : Addr} {fd fdt : FuncData} (F : Fun K "_law_one" "_law_one" sOne f fd) (FT : Fun K "_law_take" "_law_take" sTake ft fdt) (bT : Binds K fdt ["_law_bag_here", "_law_many"] []) (gT : mg "_law_take" = some (.ref ft))
    (ml : mg "len" = none) (mi : mg "int" = none) : FnOk P w K mg base CX0 2 f fd ["_law_bag_here", "_law_some"] (spOneB K) := by
  refine F.ok scOne (fun vs H Q E h => ?_) (fun cdv A outer s H vs Q E hr h => ?_)
  · obtain ⟨b, k, p, ns, xs, rfl, _⟩ := h
    rfl
  · obtain ⟨b, k, p, ns, xs, rfl, B, hs, hpb, h0, hl, q⟩ := h
    refine ⟨_, pss_one (ps_ret (pe_ix ix_list (pv 1) (pe_call (ok_take FT ml mi) hr (by rfl) gT FT.kp bT .nil pass0 (pa_cons (pv 0) (pa_cons (pe_callB call_len_seq (by rfl) ml PySem.boot_len (pa_cons (pv 1) pa_nil)) pa_nil))) (fun _ _ => rfl))), ?_⟩
    have hlen : 0 < xs.length := List.length_pos_iff.mpr h0
    refine ⟨_, rfl, _, rfl, _, rfl, p, xs, rfl, .inl hs, b, k, ns, _, rfl, B, (by omega), (by omega), fun H' d kb B' d0 d1 => ?_⟩
    have hj : d.toNat < xs.length := by omega
    exact ⟨p, xs, d, xs[d.toNat], rfl, rfl, but_seq kb hs hpb, at_of (j := d.toNat) (by omega) (List.getElem?_eq_getElem hj), q _ _ kb B' (List.getElem_mem hj)⟩
end
/-! ### the sums are small -/
theorem sml_wide {i : Int} (h : -(12 * 10 ^ 60) ≤ i ∧ i ≤ 12 * 10 ^ 60) : Sml 204 0 (.int i) := by
  have hb : i.natAbs < 10 ^ 63 := by
    have e : (10 : Nat) ^ 63 = 1000000000000000000000000000000000000000000000000000000000000000 := by decide
    omega
  have hb2 : i.natAbs < 2 ^ 203 := by
    have e : (2 : Nat) ^ 203 = 12855504354071922204335696738729300820177623950262342682411008 := by decide
    omega
  have hl : i.natAbs ≠ 0 → i.natAbs.log2 < 203 := fun z => (Nat.log2_lt z).mpr hb2
  refine ⟨?_, ?_, ?_, by simp only [PyData.depth]; exact Nat.le_refl _⟩
  · simp only [PyData.leavesShort, decide_eq_true_eq, PyData.shown]
    refine decide_eq_true ?_
    rw [PySem.ofString_length]
    exact int_text_length_le10 (k := 63) (by decide) hb
  · simp only [PyData.showable, decide_eq_true_eq]
    by_cases z : i.natAbs = 0
    · rw [z]
      decide
    · have := hl z
      omega
  · simp only [PyData.weight]
    split
    · omega
    · by_cases z : i.natAbs = 0
      · rw [z]
        decide
      · have := hl z
        omega
/-- every gain of the table is small -/
def GSm (S : List Way) (γ : List Str → List Int) : Prop := ∀ st ∈ stds S, ∀ z ∈ γ st, GainOk z
theorem g_small {S : List Way} {γ : List Str → List Int} {st : List Str} {m : Nat} (hγ : GLen S γ) (hs : GSm S γ) (h : st ∈ stds S) (hm : m < S.length) : GainOk (gAt γ st m) := hs st h _ (List.mem_of_getElem? (g_at hγ h hm))
theorem sums_small {W : List Way} {γ : List Str → List Int} {x : Sq} {i k : Nat} (f : BFix W x i k) (hγ : GLen (sh W) γ) (hs : GSm (sh W) γ) : Sml 204 0 (.int (sumsP (sh W) γ x).1) ∧ Sml 204 0 (.int (sumsP (sh W) γ x).2) := by
  have a1 := g_small hγ hs f.F.hin f.F.il
  have a2 := g_small hγ hs f.F.in2 f.F.il
  have a3 := g_small hγ hs f.F.in3 f.F.il
  have a4 := g_small hγ hs f.F.in4 f.F.il
  have b1 := g_small hγ hs f.F.hin f.F.kl
  have b2 := g_small hγ hs f.F.in2 f.F.kl
  have b3 := g_small hγ hs f.F.in3 f.F.kl
  have b4 := g_small hγ hs f.F.in4 f.F.kl
  have e1 : (sumsP (sh W) γ x).1 = gAt γ (x.1.set i x.2.2.2.1) i - gAt γ x.1 i + gAt γ (x.1.set k x.2.2.2.2) i - gAt γ ((x.1.set i x.2.2.2.1).set k x.2.2.2.2) i := by
    show (sumsI γ x.1 (iO (sh W) x) (kO (sh W) x) x.2.2.2.1 x.2.2.2.2).1 = _
    rw [f.F.ei, f.F.ek]
    rfl
  have e2 : (sumsP (sh W) γ x).2 = gAt γ ((x.1.set i x.2.2.2.1).set k x.2.2.2.2) k - gAt γ (x.1.set i x.2.2.2.1) k + gAt γ x.1 k - gAt γ (x.1.set k x.2.2.2.2) k := by
    show (sumsI γ x.1 (iO (sh W) x) (kO (sh W) x) x.2.2.2.1 x.2.2.2.2).2 = _
    rw [f.F.ei, f.F.ek]
    rfl
  unfold GainOk at a1 a2 a3 a4 b1 b2 b3 b4
  constructor
  · rw [e1]
    exact sml_wide (by omega)
  · rw [e2]
    exact sml_wide (by omega)
end HG

namespace HG
open PySem PySem.Spec PyProof.Rows L2 HT
open C8 (pss_cut tCut)
theorem tup_but {b k : Addr} {ns : List Int} {H H' : Hp} (kb : But b H H') (B : ABag H b k ns) {c : Addr} {xs : List V} (e : H c = some (.tup xs)) : H' c = some (.tup xs) := by
  obtain ⟨zs, hb⟩ := abag_ne B
  exact kb _ _ e (ne_of e hb (by intro z; cases z))
theorem sqAt_but {b k : Addr} {ns : List Int} {H H' : Hp} {x : Sq} {v : V} (kb : But b H H') (B : ABag H b k ns) (h : SqAt H x v) : SqAt H' x v := let ⟨p, a, e, h1, h2⟩ := h; ⟨p, a, e, tup_but kb B h1, tup_but kb B h2⟩
theorem eqv_empty : ∀ (ds : List PyData), PyData.eqv (.list ds) (.list []) = decide (ds = [])
  | [] => rfl
  | _ :: _ => rfl
theorem sqs_dp {K : PySem.W.Frag} {H : Hp} {xs : List Sq} {vs : List V} (h : Paired (SqAt H) xs vs) : DpAll K H vs (xs.map sqD) := by
  induction h with
  | nil => exact .nil
  | cons h _ ih => exact .cons (sq_dp h) ih
theorem sqD_lay {x : Sq} (h1 : ∀ z ∈ x.1, isNm z = true) (h2 : ∀ z ∈ [x.2.1, x.2.2.1, x.2.2.2.1, x.2.2.2.2], isNm z = true) : PyData.canLay0 (sqD x) = true := by
  have e := lay_strs (st := [x.2.1, x.2.2.1, x.2.2.2.1, x.2.2.2.2]) fun z hz => nm_strOk (h2 z hz)
  unfold sqD
  rw [PyData.canLay0, PyData.canLayAll0, dT_lay h1, Bool.true_and]
  exact e
theorem sqs_lay : ∀ {xs : List Sq}, (∀ x ∈ xs, PyData.canLay0 (sqD x) = true) → PyData.canLayAll0 (xs.map sqD) = true
  | [], _ => by simp [PyData.canLayAll0]
  | x :: xs, h => by
    rw [List.map_cons, PyData.canLayAll0, h x List.mem_cons_self, sqs_lay fun z hz => h z (List.mem_cons_of_mem _ hz)]
    rfl
theorem sqs_depth : ∀ (xs : List Sq), PyData.depthAll (xs.map sqD) ≤ 2
  | [] => by simp [PyData.depthAll]
  | x :: xs => by
    rw [List.map_cons, PyData.depthAll, sqD_depth]
    have := sqs_depth xs
    omega
theorem sqs_shaped {S : List Way} (ok : SOk S) : SeqAt.shaped (.list ((sqs S).map sqD)) = true := by
  unfold SeqAt.shaped
  rw [PyData.canLay0, sqs_lay (fun x hx => by
    obtain ⟨_, _, F⟩ := sqF ok ((mem_sqs ok).mp hx)
    exact sqD_lay F.nms F.nm), PyData.depth, Bool.true_and, decide_eq_true_iff]
  have := sqs_depth (sqs S)
  omega
theorem sqs_few {S : List Way} (ok : SOk S) : (sqs S).length ≤ 1048576 := by
  unfold sqs
  exact Nat.le_trans (flat_len (m := 4096) _ fun x _ => sqsAt_len ok x) (Nat.mul_le_mul_right 4096 (m := 256) ok.few)
theorem cut_mem {xs : List V} {lo hi : Option Int} {v : V} (h : v ∈ cutV xs lo hi) : v ∈ xs := List.mem_of_mem_drop (List.mem_of_mem_take h)
def ringP (S : List Way) (x : Sq) : PyData := .tuple [dT x.1, .list (((ringL S x).map fun c => [c.1, c.2]).map dT)]
def ringD (S : List Way) (x : Sq) : PyData := .tuple [.str "told", ringP S x]
theorem ring_dp {K : PySem.W.Frag} {H : Hp} {S : List Way} {x : Sq} {p r a l : Addr} {es : List V} (hp : H p = some (.tup [.str "told", .ref r])) (hr : H r = some (.tup [.ref a, .ref l])) (ha : H a = some (.tup (x.1.map V.str))) (hl : H l = some (.lst es)) (hes : Paired (ChAt H) (ringL S x) es) : Dp K H (.ref p) (ringD S x) :=
  dp_two hp (.str _) (dp_two hr (dp_tup (SqT.of ha)) (.lst (SqL.of hl) (dp_tups (chs_tups hes))))
theorem ring_nm {S : List Way} {x : Sq} {i k : Nat} (F : SqF S x i k) : ∀ st ∈ (ringL S x).map fun c => [c.1, c.2], ∀ z ∈ st, isNm z = true := by
  obtain ⟨zi, hzi, _, ei⟩ := F.li
  obtain ⟨zk, hzk, _, ek⟩ := F.lk
  have hi := F.nms zi (List.mem_of_getElem? hzi)
  have hk := F.nms zk (List.mem_of_getElem? hzk)
  have h1 := F.nm x.2.1 (by simp)
  have h2 := F.nm x.2.2.1 (by simp)
  have h3 := F.nm x.2.2.2.1 (by simp)
  have h4 := F.nm x.2.2.2.2 (by simp)
  intro st hst z hz
  unfold ringL at hst
  rw [ei, ek] at hst
  simp only [List.map_cons, List.map_nil, List.mem_cons, List.not_mem_nil, or_false] at hst
  rcases hst with rfl | rfl | rfl | rfl <;> · 
    simp only [List.mem_cons, List.not_mem_nil, or_false] at hz
    rcases hz with rfl | rfl <;> assumption
theorem ring_shaped {S : List Way} {x : Sq} {i k : Nat} (F : SqF S x i k) : SeqAt.shaped (ringD S x) = true := by
  have e0 : PyData.canLay0 (.str "told") = true := by decide +kernel
  have e1 := dT_lay F.nms
  have e2 := layAll_dT (ring_nm F)
  have d1 := dT_depth x.1
  have d2 := depthAll_dT ((ringL S x).map fun c => [c.1, c.2])
  unfold SeqAt.shaped ringD ringP
  rw [Bool.and_eq_true_iff, decide_eq_true_iff]
  constructor
  · simp only [PyData.canLay0, PyData.canLayAll0, e1, e2, Bool.and_true, Bool.true_and] at e0 ⊢
    simp [e0]
  · simp only [PyData.depth, PyData.depthAll, d1]
    omega
theorem sqVal_of {W : List Way} {x : Sq} {i k : Nat} {H : Hp} {v y : V} (f : BFix W x i k) (h1 : Seq2 H v [y, .str x.2.1, .str x.2.2.1, .str x.2.2.2.1, .str x.2.2.2.2]) (h2 : Seq2 H y (x.1.map V.str)) : SqVal H v x := ⟨⟨y, h1, h2⟩, f.F.nms, f.l1, f.l4, f.F.nm⟩
theorem s2_lst {H : Hp} {a : Addr} {xs : List V} (h : H a = some (.lst xs)) : Seq2 H (.ref a) xs := ⟨a, rfl, .inl h⟩
/-- the sums told, and the odd value told -/
def sumsD (S : List Way) (γ : List Str → List Int) (x : Sq) : List PyData := [.str "told", .tuple [.int (sumsP S γ x).1, .int (sumsP S γ x).2]]
theorem sums_sml {S : List Way} {γ : List Str → List Int} {x : Sq} (h : Sml 204 0 (.int (sumsP S γ x).1) ∧ Sml 204 0 (.int (sumsP S γ x).2)) : Sml 822 2 (.tuple (sumsD S γ x)) :=
  sml_two (n := 410) (m := 0) (k := 1) ((sml_str (by decide +kernel)).mono (by decide) (by decide)) (sml_two (m := 0) h.1 h.2)
theorem sums_shw {K : PySem.W.Frag} {H : Hp} {S : List Way} {γ : List Str → List Int} {x : Sq} {r : Addr} (h : H r = some (.tup [.int (sumsP S γ x).1, .int (sumsP S γ x).2])) : ShwAll K H [.str "told", .ref r] (sumsD S γ x) :=
  .cons (.flat (.str _)) (.cons (.flat (dp_two h (.int _) (.int _))) .nil)
def noneD (d : PyData) : List PyData := [.str "none", d]
theorem none_sml {d : PyData} (h : Sml 1300 4 d) : Sml 2602 5 (.tuple (noneD d)) := sml_two (n := 1300) (m := 0) (k := 4) ((sml_str (by decide +kernel)).mono (by decide) (by decide)) h
theorem none_shw {K : PySem.W.Frag} {H : Hp} {v : V} {d : PyData} (h : Prt K H v d) : ShwAll K H [.str "none", v] (noneD d) := .cons (.flat (.str _)) (.cons h.shw .nil)
def spLaw (K : PySem.W.Frag) : Sp := fun vs H Q _ => ∃ (a : Addr) (ns : List Int), vs = [.ref a] ∧ SqL K H a (ns.map V.int) ∧ ns.length ≤ 63 ∧ ∀ H', Q (.bl true) H'
abbrev NsLw : List Str := ["_law_script", "_law_bag_here", "_law_turn", "_law_ways", "_law_gains_here", "_law_game", "_law_due", "_law_again", "_law_found", "_law_square", "_law_i", "_law_k", "_law_spots", "_law_ring", "_law_loose", "_law_thing", "_law_way"]
section
variable {P : Program} {w : World} {K : PySem.W.Frag} {mg : Str → Option Value} {base : Heap} {C : Addr}
variable {fShape fNames fName fSorted fStds fTable fInts fInt fOne fPut : Addr} {dShape dNames dName dSorted dStds dTable dInts dInt dOne dPut : FuncData}
variable {fT fO fN fS fW : Addr} {dT' dO dN dS dW : FuncData}
theorem ok_law {f fIn fB fLs fLg fLq fSq fIs fTr fMx fOn fCo fSu fBd : Addr} {fd dIn dB dLs dLg dLq dSq dIs dTr dMx dOn dCo dSu dBd : FuncData}
    (G : GD K mg fShape fNames fName fSorted fStds fTable fInts fInt fOne fPut dShape dNames dName dSorted dStds dTable dInts dInt dOne dPut) (c : GC K C) (ci : InsOk K C) (mk : Mk K C fIn) (FIn : Fun K "__init__" "Game.__init__" s_Game___init fIn dIn) (bIn : Binds K dIn ["self", "ways", "gains"] []) (gC : mg "Game" = some (.ref C))
    (mrp : mg "repr" = none) (GL : GnT K mg fN fS fW dN dS dW)
    (FB : DfB K mg "_law_bag" s_law_bag ["_law_script"] fB dB) (oB : FnOk P w K mg base CX0 1 fB dB ["_law_script"] (spBag K)) (Ls : DfB K mg "_law_shape" s_law_shape ["_law_bag_here", "_law_most"] fLs dLs) (oLs : FnOk P w K mg base CX0 4 fLs dLs ["_law_bag_here", "_law_most"] (spLShape K))
    (Lg : DfB K mg "_law_gains" s_law_gains ["_law_bag_here", "_law_ways"] fLg dLg) (oLg : FnOk P w K mg base CX0 4 fLg dLg ["_law_bag_here", "_law_ways"] spLGains)
    (Lq : DfB K mg "_law_squares" s_law_squares ["_law_ways"] fLq dLq) (oLq : FnOk P w K mg base CX0 3 fLq dLq ["_law_ways"] (spLSqs K))
    (Sqr : DfB K mg "squares" s_squares ["game"] fSq dSq) (oSq : FnOk P w K mg base CX0 7 fSq dSq ["game"] (spSquares K C))
    (Is : DfB K mg "is_square" s_is_square ["game", "thing"] fIs dIs) (oIs : FnOk P w K mg base CX0 6 fIs dIs ["game", "thing"] (spIsSq K C))
    (Tr : DfB K mg "_law_tried" s_law_tried ["_law_way", "_law_game", "_law_thing"] fTr dTr) (oTr : FnOk P w K mg base CX0 8 fTr dTr ["_law_way", "_law_game", "_law_thing"] (spTriedQ K C))
    (Mx : DfB K mg "_law_mixed" s_law_mixed ["_law_bag_here", "_law_things"] fMx dMx) (oMx : FnOk P w K mg base CX0 2 fMx dMx ["_law_bag_here", "_law_things"] (spMixedB K))
    (On : DfB K mg "_law_one" s_law_one ["_law_bag_here", "_law_some"] fOn dOn) (oOn : FnOk P w K mg base CX0 2 fOn dOn ["_law_bag_here", "_law_some"] (spOneB K))
    (Co : DfB K mg "_law_corners" s_law_corners ["_law_ways", "_law_square"] fCo dCo) (oCo : FnOk P w K mg base CX0 1 fCo dCo ["_law_ways", "_law_square"] spLCor)
    (Su : DfB K mg "_law_sums" s_law_sums ["_law_ways", "_law_gains_here", "_law_square"] fSu dSu) (oSu : FnOk P w K mg base CX0 2 fSu dSu ["_law_ways", "_law_gains_here", "_law_square"] spLSum)
    (Bd : DfB K mg "_law_bad" s_law_bad ["_law_bag_here", "_law_ways", "_law_square"] fBd dBd) (oBd : FnOk P w K mg base CX0 2 fBd dBd ["_law_bag_here", "_law_ways", "_law_square"] (spLBad K))
    (F : Fun K "law" "law" s_law f fd) : FnG P w K mg base CX0 10 f fd ["_law_script"] (spLaw K) := by
  have S : FnScope NsLw ["_law_script"] (defScope s_law) := ⟨rfl, rfl, rfl, by decide +kernel, rfl, by decide +kernel, by decide +kernel⟩
  have nd := S.nd
  refine okG F S (fun vs H Q E h => ?_) (fun cdv A outer s H vs Q E hgd hr h => ?_)
  · obtain ⟨a, ns, rfl, _⟩ := h
    rfl
  · obtain ⟨a, ns, rfl, ha, hl, q⟩ := h
    have hu := hu_of hr
    have hu64 := hr.units
    have ml := G.T.m_list
    have mt := G.T.m_tuple
    have oInit := ok_init (P := P) (w := w) (base := base) G c FIn
    refine ⟨_, pss_cons (ps_set (i := 1) nd rfl (Or.inl rfl) (pe_call oB (hr.mono (by decide)) (by rfl) FB.d.g FB.d.F.kp FB.b .nil pass0 (pa_cons (pv 0) pa_nil)))
      (pss_cons (ps_for PassesOwn.never rfl (pi_range1 rfl GL.m_range (pa_cons pe_int pa_nil)) (pg_name (i := 2) nd rfl (Or.inl rfl))
      (pss_cons (ps_set (i := 3) nd rfl (Or.inl rfl) (pe_call oLs (hr.mono (by decide)) (by rfl) Ls.d.g Ls.d.F.kp Ls.b .nil pass0 (pa_cons (pv 1) (pa_cons (pe_ix ix_list (pe_lst (pa_ints (is := [9, 12, 27, 81]) (by decide +kernel))) (pv 2) (fun _ _ => rfl)) pa_nil))))
      (pss_cons (ps_set (i := 4) nd rfl (Or.inl rfl) (pe_call oLg (hr.mono (by decide)) (by rfl) Lg.d.g Lg.d.F.kp Lg.b .nil pass0 (pa_cons (pv 1) (pa_cons (pv 3) pa_nil))))
      (pss_cons (ps_par (i := 5) (j := 6) (by rfl) nd rfl rfl (by decide) rfl rfl (pa_cons (pe_make mk oInit (hr.mono (by decide)) (by rfl) gC bIn .nil pass0 (pa_cons (pv 3) (pa_cons (pv 4) pa_nil))) (pa_cons (pe_call oLq (hr.mono (by decide)) (by rfl) Lq.d.g Lq.d.F.kp Lq.b .nil pass0 (pa_cons (pv 3) pa_nil)) pa_nil)) (by rfl))
      (pss_cut (ps_for PassesOwn.never rfl (pi_range1 rfl GL.m_range (pa_cons pe_int pa_nil)) (pg_name (i := 7) nd rfl (Or.inl rfl))
      (pss_cons (ps_set (i := 8) nd rfl (Or.inl rfl) (pe_call oSq (hr.mono (by decide)) (by rfl) Sqr.d.g Sqr.d.F.kp Sqr.b .nil pass0 (pa_cons (pv 5) pa_nil)))
      (pss_cons (ps_if (pt_cmpR (op_neD hu64) (pv 8) (pv 6) (nomark _)) pss_never pss_nil)
      (pss_one (ps_expr (pe_bm PySem.F.plainAttrs_list PySem.F.slot_list_append PySem.F.type_list_append mt_append (pv 8) (pa_cons pe_non pa_nil)))))))
      (pss_cons (ps_if (pt_cmpR (op_eqD hu64) (pv 6) (pe_lst pa_nil) (nomark _)) (pss_one ps_continue) pss_nil)
      (pss_cut (ps_for PassesOwn.never rfl (pi_list (pe_slice sl_list (pe_call oMx (hr.mono (by decide)) (by rfl) Mx.d.g Mx.d.F.kp Mx.b .nil pass0 (pa_cons (pv 1) (pa_cons (pv 6) pa_nil))) po_none (po_some pe_int))) (pg_name (i := 9) nd rfl (Or.inl rfl))
      (pss_cons (ps_asg (pe_call oCo (hr.mono (by decide)) (by rfl) Co.d.g Co.d.F.kp Co.b .nil pass0 (pa_cons (pv 3) (pa_cons (pv 9) pa_nil))) (pg_tup rfl (pgs_cons (pg_name (i := 10) nd rfl (Or.inl rfl)) (pgs_cons (pg_name (i := 11) nd rfl (Or.inl rfl)) (pgs_cons (pg_name (i := 12) nd rfl (Or.inl rfl)) pgs_nil)))))
      (pss_cons (ps_set (i := 13) nd rfl (Or.inl rfl) (pe_tup (pa_cons (pe_ix ix_list (pv 12) pe_int (fun _ _ => rfl)) (pa_cons (pe_lst (pa_cons (pe_tup (pa_cons (pe_ix ix_tup (pv 9) pe_int (fun _ _ => rfl)) (pa_cons (pe_ix ix_tup (pv 9) pe_int (fun _ _ => rfl)) pa_nil))) (pa_cons (pe_tup (pa_cons (pe_ix ix_tup (pv 9) pe_int (fun _ _ => rfl)) (pa_cons (pe_ix ix_tup (pv 9) pe_int (fun _ _ => rfl)) pa_nil))) (pa_cons (pe_tup (pa_cons (pe_ix ix_tup (pv 9) pe_int (fun _ _ => rfl)) (pa_cons (pe_ix ix_tup (pe_ix ix_list (pv 12) pe_int (fun _ _ => rfl)) (pv 10) (fun _ _ => rfl)) pa_nil))) pa_nil)))) pa_nil))))
      (pss_cons (ps_expr (pe_bm PySem.F.plainAttrs_list PySem.F.slot_list_append PySem.F.type_list_append mt_append (pe_ix ix_tup (pv 13) pe_int (fun _ _ => rfl)) (pa_cons (pe_tup (pa_cons (pe_ix ix_tup (pv 9) pe_int (fun _ _ => rfl)) (pa_cons (pe_ix ix_tup (pe_ix ix_list (pv 12) pe_int (fun _ _ => rfl)) (pv 11) (fun _ _ => rfl)) pa_nil))) pa_nil)))
      (pss_cons (ps_set (i := 14) nd rfl (Or.inl rfl) (pe_op op_cat (pe_lst (pa_cons (pe_callTy (T := "list") call_list_of (by rfl) ml (by decide +kernel) (pa_cons (pe_ix ix_tup (pv 9) pe_int (fun _ _ => rfl)) pa_nil)) pa_nil)) (pe_callTy (T := "list") call_list_of (by rfl) ml (by decide +kernel) (pa_cons (pe_slice sl_tupB (pv 9) (po_some pe_int) po_none) pa_nil))))
      (pss_one (ps_for PassesOwn.never rfl (pi_tup (pe_tup (pa_cons (pv 9) (pa_cons (pv 14) (pa_cons (pe_callTy (T := "tuple") (r := rTupOf K) call_tup (by rfl) mt (by decide +kernel) (pa_cons (pv 14) pa_nil)) pa_nil))))) (pg_name (i := 15) nd rfl (Or.inl rfl))
      (pss_cons (ps_set (i := 8) nd rfl (Or.inl rfl) (pe_call oTr (hr.mono (by decide)) (by rfl) Tr.d.g Tr.d.F.kp Tr.b .nil pass0 (pa_cons pe_int (pa_cons (pv 5) (pa_cons (pv 15) pa_nil)))))
      (pss_cons (ps_if (PW.pt (pw_or (pt_cmpR op_isnot_bl (pe_call oIs (hr.mono (by decide)) (by rfl) Is.d.g Is.d.F.kp Is.b .nil pass0 (pa_cons (pv 5) (pa_cons (pv 15) pa_nil))) pe_bl (by rfl)) (pw_or1 (pt_cmpR (op_neD hu64) (pv 8) (pe_tup (pa_cons pe_str (pa_cons (pv 13) pa_nil))) (nomark _))))) pss_never pss_nil)
      (pss_cons (ps_expr (pe_bm0 PySem.F.plainAttrs_list PySem.F.slot_list_pop PySem.F.type_list_pop mt_pop (pe_ix ix_tup (pe_ix ix_tup (pv 8) pe_int (fun _ _ => rfl)) pe_int (fun _ _ => rfl))))
      (pss_one (ps_if (pt_cmpR op_ne (pe_callB (call_reprP hgd hu64) (by rfl) mrp (by decide +kernel) (pa_cons (pe_call oTr (hr.mono (by decide)) (by rfl) Tr.d.g Tr.d.F.kp Tr.b .nil pass0 (pa_cons pe_int (pa_cons (pv 5) (pa_cons (pv 15) pa_nil)))) pa_nil)) (pe_callB (call_reprP hgd hu64) (by rfl) mrp (by decide +kernel) (pa_cons (pe_tup (pa_cons pe_str (pa_cons (pe_call oSu (hr.mono (by decide)) (by rfl) Su.d.g Su.d.F.kp Su.b .nil pass0 (pa_cons (pv 3) (pa_cons (pv 4) (pa_cons (pv 9) pa_nil)))) pa_nil))) pa_nil)) (nomark _)) pss_never pss_nil))))))))))))
      (pss_cons (ps_if (PW.pt (pw_or (pt_cmpR op_isnot_bl (pe_call oIs (hr.mono (by decide)) (by rfl) Is.d.g Is.d.F.kp Is.b .nil pass0 (pa_cons (pv 5) (pa_cons (pv 5) pa_nil))) pe_bl (by rfl)) (pw_or1 (pt_cmpR (op_neI hu64) (pe_call oTr (hr.mono (by decide)) (by rfl) Tr.d.g Tr.d.F.kp Tr.b .nil pass0 (pa_cons pe_int (pa_cons (pv 5) (pa_cons (pv 5) pa_nil)))) (pe_tup (pa_cons pe_str (pa_cons (pv 5) pa_nil))) (nomark _))))) pss_never pss_nil)
      (pss_one (ps_for PassesOwn.never rfl (pi_list (pe_call oBd (hr.mono (by decide)) (by rfl) Bd.d.g Bd.d.F.kp Bd.b .nil pass0 (pa_cons (pv 1) (pa_cons (pv 3) (pa_cons (pe_call oOn (hr.mono (by decide)) (by rfl) On.d.g On.d.F.kp On.b .nil pass0 (pa_cons (pv 1) (pa_cons (pv 6) pa_nil))) pa_nil))))) (pg_name (i := 15) nd rfl (Or.inl rfl))
      (pss_cons (ps_if (pt_cmpR op_isnot_bl (pe_call oIs (hr.mono (by decide)) (by rfl) Is.d.g Is.d.F.kp Is.b .nil pass0 (pa_cons (pv 5) (pa_cons (pv 15) pa_nil))) pe_bl (by rfl)) pss_never pss_nil)
      (pss_one (ps_for PassesOwn.never rfl (pi_tup (pe_tup (pa_cons pe_int (pa_cons pe_int pa_nil)))) (pg_name (i := 16) nd rfl (Or.inl rfl))
      (pss_one (ps_if (pt_cmpR op_ne (pe_callB (call_reprP hgd hu64) (by rfl) mrp (by decide +kernel) (pa_cons (pe_call oTr (hr.mono (by decide)) (by rfl) Tr.d.g Tr.d.F.kp Tr.b .nil pass0 (pa_cons (pv 16) (pa_cons (pv 5) (pa_cons (pv 15) pa_nil)))) pa_nil)) (pe_callB (call_reprP hgd hu64) (by rfl) mrp (by decide +kernel) (pa_cons (pe_tup (pa_cons pe_str (pa_cons (pv 15) pa_nil))) pa_nil)) (nomark _)) pss_never pss_nil)))))))))))))))
      (pss_one (ps_ret pe_bl))), ?_⟩
    refine ⟨_, rfl, a, ns, rfl, ha, by omega, fun H1 b k ns' s1 B1 nb nk => ?_⟩
    refine ⟨4, rfl, by decide, by decide, for_range (lo := 0) (n := 4) (fun i σ H' => ∃ v2 v3 v4 v5 v6 v7 v8 v9 v10 v11 v12 v13 v14 v15 v16, σ = [some (.ref a), some (.ref b), v2, v3, v4, v5, v6, v7, v8, v9, v10, v11, v12, v13, v14, v15, v16] ∧ ABag H' b k ns') ⟨_, _, _, _, _, _, _, _, _, _, _, _, _, _, _, rfl, B1⟩ ?_ ?_⟩
    · rintro i σ H2 hi ⟨v2, v3, v4, v5, v6, v7, v8, v9, v10, v11, v12, v13, v14, v15, v16, rfl, B2⟩
      rw [Int.zero_add]
      obtain ⟨m, hm, m4, m81⟩ : ∃ m, ([9, 12, 27, 81] : List Int)[i]? = some m ∧ 4 ≤ m ∧ m ≤ 81 := by
        rcases i with _ | _ | _ | _ | i
        · exact ⟨9, rfl, by decide, by decide⟩
        · exact ⟨12, rfl, by decide, by decide⟩
        · exact ⟨27, rfl, by decide, by decide⟩
        · exact ⟨81, rfl, by decide, by decide⟩
        · omega
      refine ⟨_, rfl, (by show 4 ≤ sizeLine; decide), fun lp nlp => ?_⟩
      have slp := same_upd (o := .lst (([9, 12, 27, 81] : List Int).map V.int)) nlp
      refine ⟨_, rfl, lp, _, _, _, rfl, rfl, SqL.of upd_same, atI_nat (j := i) (by rw [List.getElem?_map, hm]; rfl), b, k, ns', m, rfl, B2.same slp, m4, m81, fun H3 d W kb3 B3 nd3 hW0 ok _ hMW => ?_⟩
      have hW3 : ShL (fun _ => True) H3 d W := by
        obtain ⟨kw, h, p⟩ := hW0
        exact ⟨kw, h, paired_imp p fun q kv ⟨e, c, ev, _, h⟩ => ⟨e, c, ev, trivial, h⟩⟩
      have sok := ok.sok
      have n4 := ok.n4
      have shl : (sh W).length = W.length := sh_len W
      refine ⟨_, rfl, _, rfl, b, k, d, ns', W, rfl, B3, hW3, ok, fun H4 gd kvs es sts kb4 B4 ngd hg4 he4 hperm hrows => ?_⟩
      have hW4 := hW3.but B3 ok.w1 kb4
      have hnd : sts.Nodup := hperm.nodup_iff.mpr (stds_nd sok.wd)
      have ekn : (es.map (·.1)).Nodup := by rw [hrows.ks]; exact hnd
      have gn4 : GnAt H4 gd W (rowOf es) := ⟨kvs, hg4, fun st hst => by
        obtain ⟨e, hem, rfl, c, hv, hc⟩ := row_at he4 (by rw [hrows.ks]; exact hperm.mem_iff.mpr hst)
        rw [rowOf_of ekn hem]
        exact ⟨hrows.len e hem, c, hv, hc⟩⟩
      have gsm : GSm (sh W) (rowOf es) := fun st hst z hz => by
        obtain ⟨e, hem, rfl, _⟩ := row_at he4 (by rw [hrows.ks]; exact hperm.mem_iff.mpr hst)
        rw [rowOf_of ekn hem] at hz
        exact hrows.ok e hem z hz
      have hγ : GLen (sh W) (rowOf es) := fun st hst => by
        obtain ⟨_, _, h⟩ := gn4
        rw [(h st hst).1, shl]
      have kvl : kvs.length = (stds (sh W)).length := by
        rw [← Paired.length he4, ← List.length_map (f := (·.1)), hrows.ks, hperm.length_eq]
      -- the game
      refine ⟨_, rfl, _, rfl, fun x dx nx ndx nxd => ?_⟩
      have s5 : Same H4 (upd (upd H4 dx (.own x)) x (.ins C dx [])) := fun c o e => by
        rw [upd_ne (ne_of_none e nx), upd_ne (ne_of_none e ndx)]
        exact e
      have hx5 : (upd (upd H4 dx (.own x)) x (.ins C dx [])) x = some (.ins C dx []) := upd_same
      generalize (upd (upd H4 dx (.own x)) x (.ins C dx [])) = H5 at s5 hx5
      have tab : TabAt K H5 gd (stds (sh W)) W.length (rowOf es) := ⟨kvs, s5 _ _ hg4, kvl, fun st hst => by
        obtain ⟨kvs', hg', h⟩ := gn4
        rw [hg4] at hg'
        cases hg'
        obtain ⟨h1, c, h2, h3⟩ := h st hst
        exact ⟨h1, .ref c, h2, .tup (SqT.of (s5 _ _ h3)) (AnyV.tup (s5 _ _ h3))⟩⟩
      refine ⟨x, d, gd, dx, W, rowOf es, rfl, hx5, (hW4.same s5).at, ok, tab, fun H6 w' l' t' vs' kvs' sx hG => ⟨rfl, ?_⟩⟩
      have s46 : Same H4 H6 := fun c o e => sx c o (ne_of_none e nx) (s5 _ _ e)
      have hG6 : IsG K C (fun a => H5 a = none ∨ a = x) H6 x (sh W) (rowOf es) := ⟨dx, w', l', t', vs', kvs', hG⟩
      have B6 := B4.same s46
      have hW6 := hW4.same s46
      have gn6 := gn4.same s46
      generalize (fun a => H5 a = none ∨ a = x) = N at hG6
      generalize rowOf es = γ at hγ gsm gn6 hG6
      clear hG sx tab s5 hx5 gn4 he4 hg4 hrows ekn hperm kvl
      -- the squares due
      refine ⟨_, rfl, d, W, rfl, hW6, ok, fun H7 due vsD s7 nD hD hS7 => ⟨_, _, rfl, ?_⟩⟩
      have hG7 := hG6.same s7
      have B7 := B6.same s7
      have hW7 := hW6.same s7
      have gn7 := gn6.same s7
      have shD := sqs_shaped sok
      have fewD := sqs_few sok
      have lenD : vsD.length ≤ 1048576 := by rw [← Paired.length hS7]; exact fewD
      have dueb : due ≠ b := abag_not B6 nD
      refine ⟨fun σ H' => ∃ v7 v8 v9 v10 v11 v12 v13 v14 v15 v16, Same H7 H' ∧ σ = [some (.ref a), some (.ref b), some (.int (i : Int)), some (.ref d), some (.ref gd), some (.ref x), some (.ref due), v7, v8, v9, v10, v11, v12, v13, v14, v15, v16], ?_, ?_⟩
      · refine ⟨3, rfl, by decide, by decide, for_range (lo := 0) (n := 3) (fun m σ H' => ∃ v7 v8 v9 v10 v11 v12 v13 v14 v15 v16, Same H7 H' ∧ σ = [some (.ref a), some (.ref b), some (.int (i : Int)), some (.ref d), some (.ref gd), some (.ref x), some (.ref due), v7, v8, v9, v10, v11, v12, v13, v14, v15, v16]) ⟨_, _, _, _, _, _, _, _, _, _, Same.refl _, rfl⟩ ?_ ?_⟩
        · rintro m' σ H8 hm' ⟨v7, v8, v9, v10, v11, v12, v13, v14, v15, v16, s8, rfl⟩
          refine ⟨_, rfl, x, N, sh W, γ, rfl, hG7.same s8, sok, fun H9 p vs s9 np hp hS9 => ?_⟩
          refine ⟨_, rfl, _, rfl, _, _, .lst (SqL.of hp) (sqs_dp hS9), .lst (SqL.of (s9 _ _ (s8 _ _ hD))) (sqs_dp (paired_imp hS7 fun _ _ h => h.same (s8.trans s9))), shD, shD, _, rfl, ?_⟩
          rw [SeqAt.eqv_refl _ (shaped_lay shD)]
          refine iteF ⟨_, rfl, .inl ⟨rfl, _, SqL.of hp⟩, p, vs, _, rfl, rfl, hp, ?_, ?_⟩
          · rw [← Paired.length hS9]
            exact Nat.lt_of_le_of_lt fewD (by rw [sizeLine_eq]; decide)
          · exact ⟨_, _, _, _, _, _, _, _, _, _, fun c o e => by
              rw [upd_ne (ne_of_none (s8 _ _ e) np)]
              exact s9 _ _ (s8 _ _ e), rfl⟩
        · rintro σ H8 ⟨v7, v8, v9, v10, v11, v12, v13, v14, v15, v16, s8, rfl⟩
          exact ⟨_, _, _, _, _, _, _, _, _, _, s8, rfl⟩
      rintro σ H8 ⟨v7, v8, v9, v10, v11, v12, v13, v14, v15, v16, s8, rfl⟩
      have hG8 := hG7.same s8
      have B8 := B7.same s8
      have hW8 := hW7.same s8
      have gn8 := gn7.same s8
      have hD8 := s8 _ _ hD
      have hS8 := paired_imp hS7 fun _ _ h => SqAt.same h s8
      clear hG6 B6 hW6 gn6 hG7 B7 hW7 gn7 hS7 hD nD
      refine ⟨_, rfl, (by show 0 ≤ sizeLine; decide), fun e0 ne0 => ?_⟩
      have se := same_upd (o := .lst []) ne0
      refine ⟨_, _, .lst (SqL.of (se _ _ hD8)) (sqs_dp (paired_imp hS8 fun _ _ h => SqAt.same h se)), .lst (SqL.of upd_same) .nil, shD, rfl, _, rfl, ?_⟩
      rw [eqv_empty]
      by_cases hs0 : sqs (sh W) = []
      · rw [hs0, decide_eq_true (show ([] : List Sq).map sqD = [] from rfl)]
        exact iteT ⟨_, _, _, _, _, _, _, _, _, _, _, _, _, _, _, rfl, B8.same se⟩
      rw [decide_eq_false (show ¬ (sqs (sh W)).map sqD = [] from fun z => hs0 (List.map_eq_nil_iff.mp z))]
      refine iteF ?_
      have hG9 := hG8.same se
      have B9 := B8.same se
      have hW9 := hW8.same se
      have gn9 := gn8.same se
      have hD9 := se _ _ hD8
      have hS9 := paired_imp hS8 fun _ _ h => SqAt.same h se
      generalize (upd H8 e0 (.lst [])) = H9 at hG9 B9 hW9 gn9 hD9 hS9
      clear hG8 B8 hW8 gn8 hD8 hS8 se ne0 e0 s8
      refine ⟨fun σ H' => ∃ v7 v8 v9 v10 v11 v12 v13 v14 v15 v16, But b H9 H' ∧ ABag H' b k ns' ∧ σ = [some (.ref a), some (.ref b), some (.int (i : Int)), some (.ref d), some (.ref gd), some (.ref x), some (.ref due), v7, v8, v9, v10, v11, v12, v13, v14, v15, v16], ?_, ?_⟩
      · refine ⟨_, rfl, _, rfl, b, k, due, ns', vsD, rfl, B9, SqL.of hD9, dueb, by omega, fun H10 q0 ys kb10 B10 nq hq hperm => ⟨6, rfl, q0, ys, rfl, SqL.of hq, fun ql nql => ?_⟩⟩
        have sql := same_upd (o := .lst (cutV ys none (some 6))) nql
        have hql := upd_same (H := H10) (a := ql) (o := .lst (cutV ys none (some 6)))
        have hG11 := (hG9.but sok B9 kb10).same sql
        have hW11 := (hW9.but B9 ok.w1 kb10).same sql
        have gn11 := (gn9.but B9 kb10).same sql
        have B11 := B10.same sql
        have kb11 := kb10.trans (But.of sql)
        have hS11 := paired_imp hS9 fun _ _ h => (sqAt_but kb10 B9 h).same sql
        have hin : ∀ v ∈ cutV ys none (some 6), v ∈ vsD := fun v hv => hperm.mem_iff.mp (cut_mem hv)
        generalize cutV ys none (some 6) = zs at sql hql hG11 hW11 gn11 B11 kb11 hS11 hin
        generalize (upd H10 ql (.lst zs)) = H11 at sql hql hG11 hW11 gn11 B11 kb11 hS11
        refine ⟨ql, rfl, ⟨_, SqL.of hql⟩, for_it (walk_list (K := K) (a := ql) (xs := zs)) (fun j σ H' => ∃ v7 v8 v9 v10 v11 v12 v13 v14 v15 v16, Same H11 H' ∧ σ = [some (.ref a), some (.ref b), some (.int (i : Int)), some (.ref d), some (.ref gd), some (.ref x), some (.ref due), v7, v8, v9, v10, v11, v12, v13, v14, v15, v16]) ⟨_, _, _, _, _, _, _, _, _, _, Same.refl _, rfl⟩ (fun j σ H' _ ⟨_, _, _, _, _, _, _, _, _, _, sx, _⟩ => SqL.of (sx _ _ hql)) ?_ ?_⟩
        · rintro j y σ Hz H12 hj ⟨v7, v8, v9, v10, v11, v12, v13, v14, v15, v16, s12, rfl⟩ ⟨rfl, hy⟩
          obtain ⟨xq, hxq, hsq0⟩ := paired_mem hS11 (hin y (List.mem_of_getElem? hy))
          have hb := (mem_sqs sok).mp hxq
          obtain ⟨ki, kk, bf⟩ := bad_fix ok hMW hb
          have hsq := hsq0.same s12
          obtain ⟨pq, aq, rfl, hpq, haq⟩ := id hsq
          refine ⟨_, rfl, _, rfl, d, _, W, xq, rfl, hW11.same s12, ok, hsq, hb, fun H13 r0 L p1 p2 p3 p4 s13 hr0 C0 => ⟨r0, _, rfl, SqT.of hr0, rfl, _, _, rfl, _, _, rfl, _, _, rfl, rfl, ?_⟩⟩
          have hp13 := s13 _ _ hpq
          have ha13 := s13 _ _ haq
          obtain ⟨zi, hzi, _, wi⟩ := bf.F.li
          obtain ⟨zk, hzk, _, wk⟩ := bf.F.lk
          refine ⟨_, rfl, L, _, _, .ref p1, rfl, rfl, SqL.of C0.l, rfl, ?_⟩
          refine ⟨_, rfl, pq, _, _, .str xq.2.1, rfl, rfl, SqT.of (hp13), rfl, _, rfl, pq, _, _, .str xq.2.2.2.1, rfl, rfl, SqT.of (hp13), rfl, (by show 2 ≤ sizeLine; decide), fun t1 nt1 => ?_⟩
          have st1 := same_upd (o := .tup [V.str xq.2.1, V.str xq.2.2.2.1]) nt1
          have ht1 := upd_same (H := H13) (a := t1) (o := .tup [V.str xq.2.1, V.str xq.2.2.2.1])
          generalize (upd H13 t1 (.tup [V.str xq.2.1, V.str xq.2.2.2.1])) = H14 at st1 ht1
          refine ⟨_, rfl, pq, _, _, .str xq.2.2.1, rfl, rfl, SqT.of (st1 _ _ hp13), rfl, _, rfl, pq, _, _, .str xq.2.2.2.2, rfl, rfl, SqT.of (st1 _ _ hp13), rfl, (by show 2 ≤ sizeLine; decide), fun t2 nt2 => ?_⟩
          have st2 := same_upd (o := .tup [V.str xq.2.2.1, V.str xq.2.2.2.2]) nt2
          have ht2 := upd_same (H := H14) (a := t2) (o := .tup [V.str xq.2.2.1, V.str xq.2.2.2.2])
          generalize (upd H14 t2 (.tup [V.str xq.2.2.1, V.str xq.2.2.2.2])) = H15 at st2 ht2
          have s1315 := st1.trans st2
          refine ⟨_, rfl, pq, _, _, .str xq.2.1, rfl, rfl, SqT.of (s1315 _ _ hp13), rfl, _, rfl, L, _, _, .ref p1, rfl, rfl, SqL.of (s1315 _ _ C0.l), rfl, _, rfl, p1, _, _, .str zi, rfl, rfl, SqT.of (s1315 _ _ C0.h1), atI_nat (j := iO (sh W) xq) (by rw [bf.F.ei, List.getElem?_map, hzi]; rfl), (by show 2 ≤ sizeLine; decide), fun t3 nt3 => ?_⟩
          have st3 := same_upd (o := .tup [V.str xq.2.1, V.str zi]) nt3
          have ht3 := upd_same (H := H15) (a := t3) (o := .tup [V.str xq.2.1, V.str zi])
          generalize (upd H15 t3 (.tup [V.str xq.2.1, V.str zi])) = H16 at st3 ht3
          have s1316 := s1315.trans st3
          refine ⟨(by show 3 ≤ sizeLine; decide), fun lr nlr => ⟨(by show 2 ≤ sizeLine; decide), fun r1 nr1 => ?_⟩⟩
          have slr := same_upd (o := .lst [V.ref t1, V.ref t2, V.ref t3]) nlr
          have hlr := upd_same (H := H16) (a := lr) (o := .lst [V.ref t1, V.ref t2, V.ref t3])
          generalize (upd H16 lr (.lst [V.ref t1, V.ref t2, V.ref t3])) = H17 at slr hlr nr1
          have sr1 := same_upd (o := .tup [V.ref p1, V.ref lr]) nr1
          have hr1 := upd_same (H := H17) (a := r1) (o := .tup [V.ref p1, V.ref lr])
          generalize (upd H17 r1 (.tup [V.ref p1, V.ref lr])) = H18 at sr1 hr1
          have s1318 := s1316.trans (slr.trans sr1)
          refine ⟨_, rfl, r1, _, _, .ref lr, rfl, rfl, SqT.of hr1, rfl, .inl ⟨rfl, _, SqL.of (sr1 _ _ hlr)⟩, ?_⟩
          refine ⟨_, rfl, pq, _, _, .str xq.2.2.1, rfl, rfl, SqT.of (s1318 _ _ hp13), rfl, _, rfl, L, _, _, .ref p1, rfl, rfl, SqL.of (s1318 _ _ C0.l), rfl, _, rfl, p1, _, _, .str zk, rfl, rfl, SqT.of (s1318 _ _ C0.h1), atI_nat (j := kO (sh W) xq) (by rw [bf.F.ek, List.getElem?_map, hzk]; rfl), (by show 2 ≤ sizeLine; decide), fun t4 nt4 => ?_⟩
          have st4 := same_upd (o := .tup [V.str xq.2.2.1, V.str zk]) nt4
          have ht4 := upd_same (H := H18) (a := t4) (o := .tup [V.str xq.2.2.1, V.str zk])
          generalize (upd H18 t4 (.tup [V.str xq.2.2.1, V.str zk])) = H19 at st4 ht4
          refine ⟨lr, _, _, rfl, rfl, st4 _ _ (sr1 _ _ hlr), (by show 3 < sizeLine; decide), ?_⟩
          have keep : Same H16 (upd H19 lr (.lst ([V.ref t1, V.ref t2, V.ref t3] ++ [V.ref t4]))) := fun c o e => by
            rw [upd_ne (ne_of_none e nlr)]
            exact st4 _ _ (sr1 _ _ (slr _ _ e))
          have hr20 : (upd H19 lr (.lst ([V.ref t1, V.ref t2, V.ref t3] ++ [V.ref t4]))) r1 = some (.tup [V.ref p1, V.ref lr]) := by
            rw [upd_ne (Ne.symm (ne_of_none hlr nr1))]
            exact st4 _ _ hr1
          have ht20 : (upd H19 lr (.lst ([V.ref t1, V.ref t2, V.ref t3] ++ [V.ref t4]))) t4 = some (.tup [V.str xq.2.2.1, V.str zk]) := by
            rw [upd_ne (Ne.symm (ne_of_none (sr1 _ _ hlr) nt4))]
            exact ht4
          have hl20 : (upd H19 lr (.lst ([V.ref t1, V.ref t2, V.ref t3] ++ [V.ref t4]))) lr = some (.lst [V.ref t1, V.ref t2, V.ref t3, V.ref t4]) := upd_same
          generalize (upd H19 lr (.lst ([V.ref t1, V.ref t2, V.ref t3] ++ [V.ref t4]))) = H20 at keep hr20 ht20 hl20
          have hch : Paired (ChAt H20) (ringL (sh W) xq) [V.ref t1, V.ref t2, V.ref t3, V.ref t4] := by
            unfold ringL
            rw [wi, wk]
            exact .cons ⟨t1, rfl, keep _ _ (st3 _ _ (st2 _ _ ht1))⟩ (.cons ⟨t2, rfl, keep _ _ (st3 _ _ ht2)⟩ (.cons ⟨t3, rfl, keep _ _ ht3⟩ (.cons ⟨t4, rfl, ht20⟩ .nil)))
          have s1320 := s1316.trans keep
          have s1220 := s13.trans s1320
          have s1120 := s12.trans s1220
          have hp20 := s1220 _ _ hpq
          have ha20 := s1220 _ _ haq
          have hc20 := s1320 _ _ C0.h1
          clear hp13 ha13 ht1 ht2 ht3 ht4 hlr hr1 st1 st2 st3 st4 slr sr1 s1315 s1316 s1318 nt1 nt2 nt3 nt4 nlr nr1 keep ht20
          refine ⟨_, rfl, pq, _, _, .ref aq, rfl, rfl, SqT.of hp20, rfl, aq, _, rfl, .inr (SqT.of ha20), fun la nla => ⟨(by show 1 ≤ sizeLine; decide), fun l1 nl1 => ?_⟩⟩
          have sla := same_upd (o := .lst (xq.1.map V.str)) nla
          have hla := upd_same (H := H20) (a := la) (o := .lst (xq.1.map V.str))
          generalize (upd H20 la (.lst (xq.1.map V.str))) = H21 at sla hla nl1
          have sl1 := same_upd (o := .lst [V.ref la]) nl1
          have hl1 := upd_same (H := H21) (a := l1) (o := .lst [V.ref la])
          generalize (upd H21 l1 (.lst [V.ref la])) = H22 at sl1 hl1
          refine ⟨_, rfl, 1, rfl, pq, _, rfl, sl1 _ _ (sla _ _ hp20), fun H23 r2 s23 hr2 => ?_⟩
          have hr2' : H23 r2 = some (.tup [.str xq.2.1, .str xq.2.2.1, .str xq.2.2.2.1, .str xq.2.2.2.2]) := hr2
          refine ⟨r2, [.str xq.2.1, .str xq.2.2.1, .str xq.2.2.2.1, .str xq.2.2.2.2], rfl, .inr (SqT.of hr2'), fun l2 nl2 => ⟨l1, l2, [V.ref la], [.str xq.2.1, .str xq.2.2.1, .str xq.2.2.2.1, .str xq.2.2.2.2], rfl, rfl, same_upd nl2 _ _ (s23 _ _ hl1), upd_same, (by show 5 ≤ sizeLine; decide), fun lo nlo => ?_⟩⟩
          have sl2 := same_upd (o := .lst [.str xq.2.1, .str xq.2.2.1, .str xq.2.2.2.1, .str xq.2.2.2.2]) nl2
          have slo := same_upd (o := .lst ([V.ref la] ++ [.str xq.2.1, .str xq.2.2.1, .str xq.2.2.2.1, .str xq.2.2.2.2])) nlo
          have hlo : (upd (upd H23 l2 (.lst [.str xq.2.1, .str xq.2.2.1, .str xq.2.2.2.1, .str xq.2.2.2.2])) lo (.lst ([V.ref la] ++ [.str xq.2.1, .str xq.2.2.1, .str xq.2.2.2.1, .str xq.2.2.2.2]))) lo = some (.lst [V.ref la, .str xq.2.1, .str xq.2.2.1, .str xq.2.2.2.1, .str xq.2.2.2.2]) := upd_same
          have s2024 := sla.trans (sl1.trans (s23.trans (sl2.trans slo)))
          have hla24 := slo _ _ (sl2 _ _ (s23 _ _ (sl1 _ _ hla)))
          generalize (upd (upd H23 l2 (.lst [.str xq.2.1, .str xq.2.2.1, .str xq.2.2.2.1, .str xq.2.2.2.2])) lo (.lst ([V.ref la] ++ [.str xq.2.1, .str xq.2.2.1, .str xq.2.2.2.1, .str xq.2.2.2.2]))) = H24 at slo hlo s2024 hla24
          have s1124 := s1120.trans s2024
          refine ⟨_, rfl, _, rfl, _, rfl, lo, _, rfl, .inl ⟨SqL.of hlo, fun lt nlt => ⟨(by show 3 ≤ sizeLine; decide), fun T nT => ?_⟩⟩⟩
          have slt := same_upd (o := .tup [V.ref la, .str xq.2.1, .str xq.2.2.1, .str xq.2.2.2.1, .str xq.2.2.2.2]) nlt
          have hlt := upd_same (H := H24) (a := lt) (o := .tup [V.ref la, .str xq.2.1, .str xq.2.2.1, .str xq.2.2.2.1, .str xq.2.2.2.2])
          generalize (upd H24 lt (.tup [V.ref la, .str xq.2.1, .str xq.2.2.1, .str xq.2.2.2.1, .str xq.2.2.2.2])) = H25 at slt hlt nT
          have sT := same_upd (o := .tup [V.ref pq, V.ref lo, V.ref lt]) nT
          have hT := upd_same (H := H25) (a := T) (o := .tup [V.ref pq, V.ref lo, V.ref lt])
          generalize (upd H25 T (.tup [V.ref pq, V.ref lo, V.ref lt])) = H26 at sT hT
          have s2426 := slt.trans sT
          have s2026 := s2024.trans s2426
          have s1126 := s1120.trans s2026
          have V1 : SqVal H26 (.ref pq) xq := sqVal_of bf (s2_tup (s2026 _ _ hp20)) (s2_tup (s2026 _ _ ha20))
          have V2 : SqVal H26 (.ref lo) xq := sqVal_of bf (s2_lst (s2426 _ _ hlo)) (s2_lst (s2426 _ _ hla24))
          have V3 : SqVal H26 (.ref lt) xq := sqVal_of bf (s2_tup (sT _ _ hlt)) (s2_lst (s2426 _ _ hla24))
          have hG26 := hG11.same s1126
          have hW26 := hW11.same s1126
          have gn26 := gn11.same s1126
          have hsq26 := hsq.same (s1220.trans s2026)
          have hr26 := s2026 _ _ hr20
          have hl26 := s2026 _ _ hl20
          have hc26 := s2026 _ _ hc20
          have hch26 := paired_imp hch fun _ _ h => ChAt.same h s2026
          have shR := ring_shaped bf.F
          have hsml := sums_small bf hγ gsm
          clear hr20 hl20 hc20 hch hp20 ha20 hlo hla24 hlt slt sT s2024 s2426 s2026 s1124
          refine ⟨T, rfl, ⟨_, SqT.of hT⟩, for_it (walk_tup (K := K) (a := T) (xs := [V.ref pq, V.ref lo, V.ref lt])) (fun m σ H' => ∃ v7 v8 v15 v16, Same H26 H' ∧ σ = [some (.ref a), some (.ref b), some (.int (i : Int)), some (.ref d), some (.ref gd), some (.ref x), some (.ref due), v7, v8, some (.ref pq), some (.int (iO (sh W) xq : Int)), some (.int (kO (sh W) xq : Int)), some (.ref L), some (.ref r1), some (.ref lo), v15, v16]) ⟨_, _, _, _, Same.refl _, rfl⟩ (fun m σ H' _ ⟨_, _, _, _, sx, _⟩ => SqT.of (sx _ _ hT)) ?_ ?_⟩
          · rintro m z σ Hz H27 hm ⟨v7, v8, v15, v16, s27, rfl⟩ ⟨rfl, hz⟩
            have hz26 : SqVal H26 z xq := by
              rcases m with _ | _ | _ | m
              · cases hz
                exact V1
              · cases hz
                exact V2
              · cases hz
                exact V3
              · exact absurd hm (by show ¬ m + 3 < 3; omega)
            have hv := hz26.same s27
            refine ⟨_, rfl, _, rfl, x, z, 0, N, sh W, γ, rfl, by decide, hG26.same s27, sok, hγ, .inr ⟨xq, hv, hb, fun _ H28 p r s28 hp hR np => ?_, fun e => by cases e⟩⟩
            obtain ⟨ar, lx, es, hr, har, hlx, nlx, hes⟩ := hR
            have s2628 := s27.trans s28
            refine ⟨_, rfl, _, rfl, x, z, sqB (sh W) xq, N, sh W, γ, rfl, hG26.same s2628, sok, (hv.same s28).judged, fun H29 s29 => ⟨_, _, rfl, rfl, _, rfl, ?_⟩⟩
            rw [hb]
            refine iteF ?_
            have s2629 := s2628.trans s29
            refine ⟨_, rfl, _, rfl, (by show 2 ≤ sizeLine; decide), fun w1 nw1 => ?_⟩
            have sw1 := same_upd (o := .tup [V.str (Str.ofString "told"), V.ref r1]) nw1
            have hw1 := upd_same (H := H29) (a := w1) (o := .tup [V.str (Str.ofString "told"), V.ref r1])
            generalize (upd H29 w1 (.tup [V.str (Str.ofString "told"), V.ref r1])) = H30 at sw1 hw1
            have s2630 := s2629.trans sw1
            have s2830 := s29.trans sw1
            refine ⟨ringD (sh W) xq, ringD (sh W) xq, ring_dp (s2830 _ _ hp) (s2830 _ _ hr) (s2830 _ _ har) (s2830 _ _ hlx) (paired_imp hes fun _ _ h => ChAt.same h s2830), ring_dp hw1 (s2630 _ _ hr26) (s2630 _ _ hc26) (s2630 _ _ hl26) (paired_imp hch26 fun _ _ h => ChAt.same h s2630), shR, shR, _, rfl, ?_⟩
            rw [SeqAt.eqv_refl _ (shaped_lay shR)]
            refine iteF ?_
            obtain ⟨e1, e2, e3, e4, rfl, _, _, _, _⟩ := paired4 hes
            refine ⟨_, rfl, p, _, _, .ref r, rfl, rfl, SqT.of (s2830 _ _ hp), rfl, r, _, _, .ref lx, rfl, rfl, SqT.of (s2830 _ _ hr), rfl, .inl ⟨rfl, _, SqL.of (s2830 _ _ hlx)⟩, lx, [e1, e2, e3, e4], e4, rfl, rfl, s2830 _ _ hlx, rfl, ?_⟩
            have s2731 : Same H27 (upd H30 lx (.lst [e1, e2, e3, e4].dropLast)) := fun c o e => by
              rw [upd_ne (ne_of_none e nlx)]
              exact s2830 _ _ (s28 _ _ e)
            generalize (upd H30 lx (.lst [e1, e2, e3, e4].dropLast)) = H31 at s2731
            have s2631 := s27.trans s2731
            refine ⟨_, rfl, _, rfl, x, z, 1, N, sh W, γ, rfl, by decide, hG26.same s2631, sok, hγ, .inr ⟨xq, hv.same s2731, hb, fun e => (by cases e), fun _ H32 p2 r2 s32 hp2 hr2 => ?_⟩⟩
            first | (unfold tNil; dsimp only) | dsimp only
            refine read_shw hp2 (sums_shw hr2) (sums_sml hsml) (by decide) (by decide) ?_
            have s2632 := s2631.trans s32
            refine ⟨_, rfl, _, rfl, _, rfl, d, gd, _, W, xq, γ, rfl, hW26.same s2632, ok, hsq26.same s2632, hb, gn26.same s2632, fun H33 r3 s33 hr3 => ⟨(by show 2 ≤ sizeLine; decide), fun w2 nw2 => ?_⟩⟩
            first | (unfold tNil; dsimp only) | dsimp only
            refine read_shw upd_same (sums_shw (same_upd nw2 _ _ hr3)) (sums_sml hsml) (by decide) (by decide) ?_
            refine ⟨rfl, _, rfl, ?_⟩
            rw [decide_eq_true rfl]
            exact iteF ⟨_, _, _, _, s2632.trans (s33.trans (same_upd nw2)), rfl⟩
          · rintro σ H27 ⟨v7, v8, v15, v16, s27, rfl⟩
            exact ⟨_, _, _, _, _, _, _, _, _, _, s1126.trans s27, rfl⟩
        · rintro σ H12 ⟨v7, v8, v9, v10, v11, v12, v13, v14, v15, v16, s12, rfl⟩
          exact ⟨_, _, _, _, _, _, _, _, _, _, kb11.trans (But.of s12), B11.same s12, rfl⟩
      rintro σ H10 ⟨v7, v8, v9, v10, v11, v12, v13, v14, v15, v16, kb10, B10, rfl⟩
      have hG10 := hG9.but sok B9 kb10
      have hW10 := hW9.but B9 ok.w1 kb10
      have hD10 := kb10 _ _ hD9 dueb
      have hS10 := paired_imp hS9 fun _ _ h => sqAt_but kb10 B9 h
      obtain ⟨gx, gw, gl, gt, gvs, gkvs, hGA⟩ := id hG10
      have hgJ : ∀ {H' : Hp}, Same H10 H' → JSq K (sh W) H' (.ref x) false := fun s => .inl ⟨.ins, AnyV.ins (s _ _ hGA.hg) c.cl ci, (by decide), (by decide), rfl⟩
      clear hG9 B9 hW9 gn9 hD9 hS9
      refine ⟨_, rfl, _, rfl, x, _, false, N, sh W, γ, rfl, hG10, sok, hgJ (Same.refl _), fun H11 s11 => ⟨_, _, rfl, rfl, _, rfl, iteF ?_⟩⟩
      refine ⟨_, rfl, _, rfl, x, _, 0, N, sh W, γ, rfl, by decide, hG10.same s11, sok, hγ, .inl ⟨hgJ s11, fun H12 p s12 hp np => ?_⟩⟩
      refine ⟨_, rfl, (by show 2 ≤ sizeLine; decide), fun w1 nw1 => ⟨p, w1, "none", x, rfl, rfl, same_upd nw1 _ _ hp, upd_same, _, rfl, iteF ?_⟩⟩
      have s13 := s11.trans (s12.trans (same_upd (o := .tup [V.str (Str.ofString "none"), V.ref x]) nw1))
      generalize (upd H12 w1 (.tup [V.str (Str.ofString "none"), V.ref x])) = H13 at s13
      have hneD : vsD ≠ [] := fun z => hs0 (by
        have h := Paired.length hS10
        rw [z] at h
        exact List.length_eq_zero_iff.mp h)
      refine ⟨_, rfl, _, rfl, _, rfl, _, rfl, b, k, due, ns', vsD, rfl, B10.same s13, SqL.of (s13 _ _ hD10), dueb, hneD, by omega, fun H14 y kb14 B14 hy => ?_⟩
      have B13 := B10.same s13
      obtain ⟨xq, hxq, hsq0⟩ := paired_mem hS10 hy
      have hb := (mem_sqs sok).mp hxq
      refine ⟨_, d, y, W, xq, rfl, (hW10.same s13).but B13 ok.w1 kb14, ok, hMW, sqAt_but kb14 B13 (hsq0.same s13), hb, fun H15 Lb vs s15 nLb hLb hlen hQF => ?_⟩
      have hG15 := ((hG10.same s13).but sok B13 kb14).same s15
      have B15 := B14.same s15
      refine ⟨Lb, rfl, ⟨_, SqL.of hLb⟩, for_it (walk_list (K := K) (a := Lb) (xs := vs)) (fun j σ H' => ∃ v7 v8 v9 v10 v11 v12 v13 v14 v15 v16, Same H15 H' ∧ σ = [some (.ref a), some (.ref b), some (.int (i : Int)), some (.ref d), some (.ref gd), some (.ref x), some (.ref due), v7, v8, v9, v10, v11, v12, v13, v14, v15, v16]) ⟨_, _, _, _, _, _, _, _, _, _, Same.refl _, rfl⟩ (fun j σ H' _ ⟨_, _, _, _, _, _, _, _, _, _, sx, _⟩ => SqL.of (sx _ _ hLb)) ?_ ?_⟩
      · rintro j z σ Hz H16 hj ⟨v7, v8, v9, v10, v11, v12, v13, v14, v15, v16, s16, rfl⟩ ⟨rfl, hz⟩
        have hq := (hQF z (List.mem_of_getElem? hz)).same s16
        refine ⟨_, rfl, _, rfl, x, z, false, N, sh W, γ, rfl, hG15.same s16, sok, hq.1, fun H17 s17 => ⟨_, _, rfl, rfl, _, rfl, iteF ?_⟩⟩
        have hq17 := hq.same s17
        have s1517 := s16.trans s17
        refine ⟨(by show 2 ≤ sizeLine; decide), fun T nT => ?_⟩
        have sT := same_upd (o := .tup [V.int 0, V.int 1]) nT
        have hT := upd_same (H := H17) (a := T) (o := .tup [V.int 0, V.int 1])
        generalize (upd H17 T (.tup [V.int 0, V.int 1])) = H18 at sT hT
        have s1518 := s1517.trans sT
        have hq18 := hq17.same sT
        refine ⟨T, rfl, ⟨_, SqT.of hT⟩, for_it (walk_tup (K := K) (a := T) (xs := [V.int 0, V.int 1])) (fun m σ H' => ∃ v16, Same H18 H' ∧ σ = [some (.ref a), some (.ref b), some (.int (i : Int)), some (.ref d), some (.ref gd), some (.ref x), some (.ref due), v7, v8, v9, v10, v11, v12, v13, v14, some z, v16]) ⟨_, Same.refl _, rfl⟩ (fun m σ H' _ ⟨_, sx, _⟩ => SqT.of (sx _ _ hT)) ?_ ?_⟩
        · rintro m u σ Hz H19 hm ⟨v16, s19, rfl⟩ ⟨rfl, hu⟩
          obtain ⟨way, rfl, hway⟩ : ∃ way : Nat, u = .int (way : Int) ∧ way ≤ 1 := by
            rcases m with _ | _ | m
            · cases hu
              exact ⟨0, rfl, by decide⟩
            · cases hu
              exact ⟨1, rfl, by decide⟩
            · exact absurd hm (by show ¬ m + 2 < 2; omega)
          obtain ⟨hJ, dd, hprt, hsml⟩ := hq18.same s19
          refine ⟨_, rfl, _, rfl, _, rfl, x, z, way, N, sh W, γ, rfl, hway, hG15.same (s1518.trans s19), sok, hγ, .inl ⟨hJ, fun H20 p2 s20 hp2 np2 => ?_⟩⟩
          first | (unfold tNil; dsimp only) | dsimp only
          refine read_shw hp2 (none_shw (hprt.same s20)) (none_sml hsml) (by decide) (by decide) ?_
          refine ⟨_, rfl, (by show 2 ≤ sizeLine; decide), fun w2 nw2 => ?_⟩
          first | (unfold tNil; dsimp only) | dsimp only
          refine read_shw upd_same (none_shw ((hprt.same s20).same (same_upd nw2))) (none_sml hsml) (by decide) (by decide) ?_
          refine ⟨rfl, _, rfl, ?_⟩
          rw [decide_eq_true rfl]
          exact iteF ⟨_, s19.trans (s20.trans (same_upd nw2)), rfl⟩
        · rintro σ H19 ⟨v16, s19, rfl⟩
          exact ⟨_, _, _, _, _, _, _, _, _, _, s1518.trans s19, rfl⟩
      · rintro σ H16 ⟨v7, v8, v9, v10, v11, v12, v13, v14, v15, v16, s16, rfl⟩
        exact ⟨_, _, _, _, _, _, _, _, _, _, _, _, _, _, _, rfl, B15.same s16⟩
    · rintro σ H2 ⟨v2, v3, v4, v5, v6, v7, v8, v9, v10, v11, v12, v13, v14, v15, v16, rfl, B2⟩
      exact q H2
end
end HG

namespace HG
open PySem PySem.Spec PyProof.Rows L2
/-! ### the facts of the text -/
abbrev VE4 : List Value := [.type "ValueError", .type "Exception", .type "BaseException", .type "object"]
/-- the class nm at C, under HE -/
structure CF (K : PySem.W.Frag) (nm : Str) (C HE : Addr) : Prop where
  ns : PySem.W.nsIn K mainGlobals nm = some (some (.ref C))
  lk : ∃ nm' q N bs sn sub ab col dd k0 k1 k2 k3 k5, K.lookup C = some (excClassObj nm' q C N bs (.ref HE :: VE4) true sn sub ab col dd k0 k1 k2 k3 k5 "ValueError.__new__")
  kC : PySem.W.keepIn K (.ref C) = true
  sa : PySem.W.findIn K (.ref C) "__setattr__" = some (some (.builtin "object.__setattr__"))
  ga : PySem.W.findIn K (.ref C) "__getattribute__" = some (some (.builtin "BaseException.__getattribute__"))
  gg : PySem.W.findIn K (.ref C) "__getattr__" = some none
  cl : PySem.W.findIn K (.ref C) "__class__" = some (some (.builtin "object.__class__"))
theorem CF.mk' {K : PySem.W.Frag} {nm nm' q : Str} {C HE N : Addr} {bs : List Value} {sn : List Str} {sub : List Value} {ab : Bool} {col : Option Bool} {dd : Option Addr} {k0 k1 k2 k3 k5 : Option Value}
    (ns : PySem.W.nsIn K mainGlobals nm = some (some (.ref C))) (lk : K.lookup C = some (excClassObj nm' q C N bs (.ref HE :: VE4) true sn sub ab col dd k0 k1 k2 k3 k5 "ValueError.__new__"))
    (kC : PySem.W.keepIn K (.ref C) = true) (sa : PySem.W.findIn K (.ref C) "__setattr__" = some (some (.builtin "object.__setattr__"))) (ga : PySem.W.findIn K (.ref C) "__getattribute__" = some (some (.builtin "BaseException.__getattribute__")))
    (gg : PySem.W.findIn K (.ref C) "__getattr__" = some none) (cl : PySem.W.findIn K (.ref C) "__class__" = some (some (.builtin "object.__class__"))) : CF K nm C HE := ⟨ns, ⟨_, _, _, _, _, _, _, _, _, _, _, _, _, _, lk⟩, kC, sa, ga, gg, cl⟩
section
variable {K : PySem.W.Frag} {nm : Str} {C D HE : Addr}
theorem CF.cls (F : CF K nm C HE) : ∃ cd, PySem.W.clsIn K C = some cd ∧ cd.mro = .ref C :: .ref HE :: VE4 ∧ cd.hasDict = true := by
  obtain ⟨nm', q, N, bs, sn, sub, ab, col, dd, k0, k1, k2, k3, k5, l⟩ := F.lk
  refine ⟨{ name := nm', bases := bs, mro := .ref C :: .ref HE :: VE4, ns := N, qualname := q, hasDict := true, slotNames := sn, subclasses := sub, abstract := ab, collection := col, hasDel := false }, ?_, rfl, rfl⟩
  unfold PySem.W.clsIn
  rw [l] <;> rfl
theorem CF.typ (F : CF K nm C HE) : PySem.W.typeIn K (.ref C) = some (.type "type") := by
  obtain ⟨nm', q, N, bs, sn, sub, ab, col, dd, k0, k1, k2, k3, k5, l⟩ := F.lk
  show (K.lookup C).map (·.cls) = _
  rw [l]
  rfl
theorem CF.mro (F : CF K nm C HE) (b : Value) : PySem.W.mroIn K C b = some ((Value.ref C :: Value.ref HE :: VE4).contains b) := by
  obtain ⟨cd, h, m, _⟩ := F.cls
  unfold PySem.W.mroIn
  rw [h]
  show (if cd.mro.isEmpty = true then none else some (cd.mro.contains b)) = _
  rw [m]
  rfl
theorem CF.xf (F : CF K nm C HE) : XfC K C where
  ga := F.ga
  gg := F.gg
  exC := by
    show PySem.W.mroIn K C (.type "BaseException") = some true
    rw [F.mro]
    exact congrArg some (by simp [VE4])
  hdC := by
    obtain ⟨cd, h, _, hd⟩ := F.cls
    unfold PySem.W.hasDictIn
    rw [h]
    exact hd
theorem CF.err (F : CF K nm C HE) : ErrC K C where
  xf := F.xf
  cl := by
    obtain ⟨cd, h, _⟩ := F.cls
    rw [h]
    rfl
  ha := F.cl
  hm := by
    rw [F.mro]
    exact congrArg some (by simp [VE4])
theorem CF.oex (F : CF K nm C HE) : OexC K C where
  cls := by
    obtain ⟨nm', q, N, bs, sn, sub, ab, col, dd, k0, k1, k2, k3, k5, l⟩ := F.lk
    exact ⟨nm', q, N, bs, _, sn, sub, ab, col, dd, k0, k1, k2, k3, k5, l, by rfl⟩
  sa := F.sa
  exC := F.xf.exC
  tyC := F.typ
  kC := F.kC
theorem CF.kit (F : CF K nm C HE) {nm2 : Str} (G : CF K nm2 D HE) (hD : D ≠ HE) : PySem.W.kitOne K (.ref C) (.ref D) = some (decide (C = D)) := by
  unfold PySem.W.kitOne
  by_cases h : C = D
  · subst h
    rw [if_pos (beq_self_eq_true _), decide_eq_true rfl]
  · rw [if_neg (by simpa using h), decide_eq_false h]
    have e2 : ((PySem.W.clsIn K D).isSome && PySem.W.typeIn K (.ref D) == some (.type "type")) = true := by
      rw [G.err.cl, G.typ]
      rfl
    show (if ((PySem.W.clsIn K D).isSome && PySem.W.typeIn K (.ref D) == some (.type "type")) = true then PySem.W.subIn K (.ref C) (.ref D) else none) = _
    rw [if_pos e2]
    show PySem.W.mroIn K C (.ref D) = _
    rw [F.mro]
    have h1 : ¬ D = C := fun z => h z.symm
    exact congrArg some (by simp [VE4, h1, hD])
theorem CF.kitH (F : CF K nm C HE) (c1 : (PySem.W.clsIn K HE).isSome = true) (t1 : PySem.W.typeIn K (.ref HE) = some (.type "type")) : PySem.W.kitOne K (.ref C) (.ref HE) = some true := by
  unfold PySem.W.kitOne
  by_cases h : C = HE
  · subst h
    rw [if_pos (beq_self_eq_true _)]
  · rw [if_neg (by simpa using h)]
    have e2 : ((PySem.W.clsIn K HE).isSome && PySem.W.typeIn K (.ref HE) == some (.type "type")) = true := by
      rw [c1, t1]
      rfl
    show (if ((PySem.W.clsIn K HE).isSome && PySem.W.typeIn K (.ref HE) == some (.type "type")) = true then PySem.W.subIn K (.ref C) (.ref HE) else none) = _
    rw [if_pos e2]
    show PySem.W.mroIn K C (.ref HE) = _
    rw [F.mro]
    exact congrArg some (by simp [VE4])
theorem CF.kitV (F : CF K nm C HE) : PySem.W.kitOne K (.ref C) (.type "ValueError") = some true := by
  unfold PySem.W.kitOne
  rw [if_neg (by simp)]
  show (if PySem.W.kitMeta "ValueError" = true then PySem.W.subIn K (.ref C) (.type "ValueError") else none) = _
  rw [if_pos (by decide +kernel)]
  show PySem.W.mroIn K C (.type "ValueError") = _
  rw [F.mro]
  exact congrArg some (by simp [VE4])
end
/-- an __init__ of such a class -/
structure IF (K : PySem.W.Frag) (f qual : Str) (st : Stmt) (C fI : Addr) (fd : FuncData) : Prop where
  iC : PySem.W.findIn K (.ref C) "__init__" = some (some (.ref fI))
  tI : PySem.W.typeIn K (.ref fI) = some (.type "function")
  no : PySem.W.findIn K (.ref C) f = some none
  F : Fun K "__init__" qual st fI fd
theorem IF.mk' {K : PySem.W.Frag} {f qual : Str} {st : Stmt} {C fI : Addr} {od an : Option Addr} {sl : Array (Option Value)} {oc kV dc pm cd ct : Value} (iC : PySem.W.findIn K (.ref C) "__init__" = some (some (.ref fI))) (tI : PySem.W.typeIn K (.ref fI) = some (.type "function"))
    (no : PySem.W.findIn K (.ref C) f = some none) (l : K.lookup fI = some ⟨oc, od, .func (PySem.W.fnOf "__init__" qual (defArgs st) (defBody st) (defScope st) .none kV dc pm an cd ct), sl⟩) (c : PySem.W.codeIn K cd qual = true) (k : PySem.W.keepIn K (.ref fI) = true) :
    IF K f qual st C fI (PySem.W.fnOf "__init__" qual (defArgs st) (defBody st) (defScope st) .none kV dc pm an cd ct) := ⟨iC, tI, no, fun_mk l c k⟩

structure DF (K : PySem.W.Frag) (x : Str) (st : Stmt) (f : Addr) (fd : FuncData) : Prop where
  ns : PySem.W.nsIn K mainGlobals x = some (some (.ref f))
  F : Fun K x x st f fd
theorem DF.mk' {K : PySem.W.Frag} {x : Str} {st : Stmt} {f : Addr} {od an : Option Addr} {sl : Array (Option Value)} {oc kV dc pm cd ct : Value} (ns : PySem.W.nsIn K mainGlobals x = some (some (.ref f)))
    (l : K.lookup f = some ⟨oc, od, .func (PySem.W.fnOf x x (defArgs st) (defBody st) (defScope st) .none kV dc pm an cd ct), sl⟩) (c : PySem.W.codeIn K cd x = true) (k : PySem.W.keepIn K (.ref f) = true) :
    DF K x st f (PySem.W.fnOf x x (defArgs st) (defBody st) (defScope st) .none kV dc pm an cd ct) := ⟨ns, fun_mk l c k⟩
structure MF (K : PySem.W.Frag) (C : Addr) (m q : Str) (st : Stmt) (f : Addr) (fd : FuncData) : Prop where
  me : Meth K C m f
  F : Fun K m q st f fd
theorem MF.mk' {K : PySem.W.Frag} {C : Addr} {m q : Str} {st : Stmt} {f : Addr} {od an : Option Addr} {sl : Array (Option Value)} {oc kV dc pm cd ct : Value} (a : PySem.W.findIn K (.ref C) m = some (some (.ref f))) (b : PySem.W.isFn K (.ref f) = true)
    (l : K.lookup f = some ⟨oc, od, .func (PySem.W.fnOf m q (defArgs st) (defBody st) (defScope st) .none kV dc pm an cd ct), sl⟩) (c : PySem.W.codeIn K cd q = true) (k : PySem.W.keepIn K (.ref f) = true) :
    MF K C m q st f (PySem.W.fnOf m q (defArgs st) (defBody st) (defScope st) .none kV dc pm an cd ct) := ⟨⟨a, b, k⟩, fun_mk l c k⟩
theorem kit_ref {K : PySem.W.Frag} {C : Addr} {T : String} (m : PySem.W.kitMeta T = true) (h : PySem.W.mroIn K C (.type T) = some false) : PySem.W.kitOne K (.ref C) (.type T) = some false := by
  unfold PySem.W.kitOne
  rw [if_neg (by simp)]
  show (if PySem.W.kitMeta T = true then _ else _) = _
  rw [if_pos m]
  exact h
theorem df_of {K : PySem.W.Frag} {h : Heap} {mg : Str → Option Value} {x : Str} {st : Stmt} {f : Addr} {fd : FuncData} (X : K.In h) (G : h.Ns mainGlobals mg) (d : DF K x st f fd) : Df K mg x st f fd := ⟨PySem.W.mg_of X G d.ns, d.F⟩
section
variable {K : PySem.W.Frag} {nm nm2 : Str} {C D HE : Addr}
theorem CF.exm (F : CF K nm C HE) (G : CF K nm2 D HE) (hD : D ≠ HE) : PySem.W.exmOne K (.ref C) (.ref D) = some (decide (C = D)) := by
  unfold PySem.W.exmOne
  rw [show (PySem.W.subIn K (.ref D) (.type "BaseException") == some true) = true by
    rw [show PySem.W.subIn K (.ref D) (.type "BaseException") = some true from G.xf.exC]
    rfl, if_pos rfl]
  have e2 : ((PySem.W.clsIn K D).isSome && PySem.W.typeIn K (.ref D) == some (.type "type")) = true := by
    rw [G.err.cl, G.typ]
    rfl
  show (if ((PySem.W.clsIn K D).isSome && PySem.W.typeIn K (.ref D) == some (.type "type")) = true then PySem.W.subIn K (.ref C) (.ref D) else none) = _
  rw [if_pos e2]
  show PySem.W.mroIn K C (.ref D) = _
  rw [F.mro]
  have h1 : (D = C) = (C = D) := propext eq_comm
  exact congrArg some (by simp [VE4, hD, h1])
theorem CF.exmH (F : CF K nm C HE) (c1 : (PySem.W.clsIn K HE).isSome = true) (t1 : PySem.W.typeIn K (.ref HE) = some (.type "type")) (e1 : PySem.W.mroIn K HE (.type "BaseException") = some true) : PySem.W.exmOne K (.ref C) (.ref HE) = some true := by
  unfold PySem.W.exmOne
  rw [show (PySem.W.subIn K (.ref HE) (.type "BaseException") == some true) = true by
    rw [show PySem.W.subIn K (.ref HE) (.type "BaseException") = some true from e1]
    rfl, if_pos rfl]
  have e2 : ((PySem.W.clsIn K HE).isSome && PySem.W.typeIn K (.ref HE) == some (.type "type")) = true := by
    rw [c1, t1]
    rfl
  show (if ((PySem.W.clsIn K HE).isSome && PySem.W.typeIn K (.ref HE) == some (.type "type")) = true then PySem.W.subIn K (.ref C) (.ref HE) else none) = _
  rw [if_pos e2]
  show PySem.W.mroIn K C (.ref HE) = _
  rw [F.mro]
  exact congrArg some (by simp [VE4])
end
theorem all_mk {l : PySem.W.OpenLaw} {w : World} {K : PySem.W.Frag} {h : Heap} {mg : Str → Option Value} {fa C HE CQ CR iQa g0 g1 g2 g3 g4 g5 g6 g7 g8 g9 g10 g11 h0 h1 h2 h3 h4 h5 h6 h7 h8 h9 h10 h11 h12 h13 h14 h15 h16 h17 h18 h19 h20 h21 h22 h23 h24 h25 h26 h27 h28 h29 h30 h31 h32 h33 h34 : Addr} {iQd gd0 gd1 gd2 gd3 gd4 gd5 gd6 gd7 gd8 gd9 gd10 gd11 hd0 hd1 hd2 hd3 hd4 hd5 hd6 hd7 hd8 hd9 hd10 hd11 hd12 hd13 hd14 hd15 hd16 hd17 hd18 hd19 hd20 hd21 hd22 hd23 hd24 hd25 hd26 hd27 hd28 hd29 hd30 hd31 hd32 hd33 hd34 : FuncData} {t_MOST_LETTERS t_MOST_NAMES t_MOST_STANDINGS : Tok} (X : K.In h) (G : h.Ns mainGlobals mg) (hfa : mg "law" = some (.ref fa))
    (nC : PySem.W.nsIn K mainGlobals "Game" = some (some (.ref C)))
    (cpg : PySem.W.plainGet K C Str.empty = true)
    (chd : PySem.W.hasDictIn K C = true)
    (cpo : PySem.W.plainOver K C = true)
    (csa : PySem.W.findIn K (.ref C) "__setattr__" = some (some (.builtin "object.__setattr__")))
    (fW : PySem.W.findIn K (.ref C) "way_lists" = some none)
    (fL : PySem.W.findIn K (.ref C) "standing_list" = some none)
    (fG : PySem.W.findIn K (.ref C) "gain_table" = some none)
    (iha : PySem.W.findIn K (.ref C) "__class__" = some (some (.builtin "object.__class__")))
    (ihn : PySem.W.specialIn K (.builtin "object.__class__") "__get__" = some (some (.builtin "getset_descriptor.__get__")))
    (iht : PySem.W.takesIn K (.builtin "object.__class__") = some true)
    (ihm : PySem.W.mroIn K C (.type "object") = some true)
    (mkm : PySem.W.makesIn K C = true)
    (mkk : PySem.W.keepIn K (.ref C) = true)
    (kt_str : PySem.W.mroIn K C (.type "str") = some false)
    (kt_int : PySem.W.mroIn K C (.type "int") = some false)
    (kt_bool : PySem.W.mroIn K C (.type "bool") = some false)
    (kt_list : PySem.W.mroIn K C (.type "list") = some false)
    (kt_tuple : PySem.W.mroIn K C (.type "tuple") = some false)
    (kt_dict : PySem.W.mroIn K C (.type "dict") = some false)
    (m0 : MF K C "__init__" "Game.__init__" s_Game___init g0 gd0)
    (m1 : MF K C "__contains__" "Game.__contains__" s_Game___contains g1 gd1)
    (m2 : MF K C "__iter__" "Game.__iter__" s_Game___iter g2 gd2)
    (m3 : MF K C "choosers" "Game.choosers" s_Game_choosers g3 gd3)
    (m4 : MF K C "ways" "Game.ways" s_Game_ways g4 gd4)
    (m5 : MF K C "gain" "Game.gain" s_Game_gain g5 gd5)
    (m6 : MF K C "changes" "Game.changes" s_Game_changes g6 gd6)
    (m7 : MF K C "has_chooser" "Game.has_chooser" s_Game_has_chooser g7 gd7)
    (m8 : MF K C "can_do" "Game.can_do" s_Game_can_do g8 gd8)
    (m9 : MF K C "seat" "Game.seat" s_Game_seat g9 gd9)
    (m10 : MF K C "check_chooser" "Game.check_chooser" s_Game_check_chooser g10 gd10)
    (m11 : MF K C "check_standing" "Game.check_standing" s_Game_check_standing g11 gd11)
    (d0 : DF K "is_integer" s_is_integer h0 hd0)
    (d1 : DF K "is_name" s_is_name h1 hd1)
    (d2 : DF K "are_names" s_are_names h2 hd2)
    (d3 : DF K "is_shape" s_is_shape h3 hd3)
    (d4 : DF K "is_change" s_is_change h4 hd4)
    (d5 : DF K "sorted_ways" s_sorted_ways h5 hd5)
    (d6 : DF K "standings_of" s_standings_of h6 hd6)
    (d7 : DF K "put" s_put h7 hd7)
    (d8 : DF K "is_one_of" s_is_one_of h8 hd8)
    (d9 : DF K "are_integers" s_are_integers h9 hd9)
    (d10 : DF K "is_table" s_is_table h10 hd10)
    (d11 : DF K "squares" s_squares h11 hd11)
    (d12 : DF K "squares_at" s_squares_at h12 hd12)
    (d13 : DF K "is_square" s_is_square h13 hd13)
    (d14 : DF K "is_upward" s_is_upward h14 hd14)
    (d15 : DF K "ring_of" s_ring_of h15 hd15)
    (d16 : DF K "sums" s_sums h16 hd16)
    (d17 : DF K "_law_bag" s_law_bag h17 hd17)
    (d18 : DF K "_law_take" s_law_take h18 hd18)
    (d19 : DF K "_law_one" s_law_one h19 hd19)
    (d20 : DF K "_law_mixed" s_law_mixed h20 hd20)
    (d21 : DF K "_law_names" s_law_names h21 hd21)
    (d22 : DF K "_law_sizes" s_law_sizes h22 hd22)
    (d23 : DF K "_law_product" s_law_product h23 hd23)
    (d24 : DF K "_law_shape" s_law_shape h24 hd24)
    (d25 : DF K "_law_wider" s_law_wider h25 hd25)
    (d26 : DF K "_law_standings" s_law_standings h26 hd26)
    (d27 : DF K "_law_number" s_law_number h27 hd27)
    (d28 : DF K "_law_gains" s_law_gains h28 hd28)
    (d29 : DF K "_law_squares" s_law_squares h29 hd29)
    (d30 : DF K "_law_corners" s_law_corners h30 hd30)
    (d31 : DF K "_law_sums" s_law_sums h31 hd31)
    (d32 : DF K "_law_tried" s_law_tried h32 hd32)
    (d33 : DF K "_law_bad" s_law_bad h33 hd33)
    (d34 : DF K "law" s_law h34 hd34)
    (c_MOST_LETTERS : PySem.W.nsIn K mainGlobals "MOST_LETTERS" = some (some (.int 8 t_MOST_LETTERS)))
    (c_MOST_NAMES : PySem.W.nsIn K mainGlobals "MOST_NAMES" = some (some (.int 4 t_MOST_NAMES)))
    (c_MOST_STANDINGS : PySem.W.nsIn K mainGlobals "MOST_STANDINGS" = some (some (.int 81 t_MOST_STANDINGS)))
    (n_isinstance : PySem.W.nsIn K mainGlobals "isinstance" = some none)
    (n_len : PySem.W.nsIn K mainGlobals "len" = some none)
    (n_all : PySem.W.nsIn K mainGlobals "all" = some none)
    (n_set : PySem.W.nsIn K mainGlobals "set" = some none)
    (n_list : PySem.W.nsIn K mainGlobals "list" = some none)
    (n_tuple : PySem.W.nsIn K mainGlobals "tuple" = some none)
    (n_dict : PySem.W.nsIn K mainGlobals "dict" = some none)
    (n_str : PySem.W.nsIn K mainGlobals "str" = some none)
    (n_int : PySem.W.nsIn K mainGlobals "int" = some none)
    (n_bool : PySem.W.nsIn K mainGlobals "bool" = some none)
    (n_sorted : PySem.W.nsIn K mainGlobals "sorted" = some none)
    (n_iter : PySem.W.nsIn K mainGlobals "iter" = some none)
    (n_enumerate : PySem.W.nsIn K mainGlobals "enumerate" = some none)
    (n_abs : PySem.W.nsIn K mainGlobals "abs" = some none)
    (n_repr : PySem.W.nsIn K mainGlobals "repr" = some none)
    (n_min : PySem.W.nsIn K mainGlobals "min" = some none)
    (n_range : PySem.W.nsIn K mainGlobals "range" = some none)
    (nHE : PySem.W.nsIn K mainGlobals "HeightError" = some (some (.ref HE)))
    (cHE : PySem.W.isClsIn K HE = true)
    (tHE : PySem.W.typeIn K (.ref HE) = some (.type "type"))
    (eHE : PySem.W.mroIn K HE (.type "BaseException") = some true)
    (cQ : CF K "NoSquare" CQ HE)
    (cR : CF K "NoRing" CR HE)
    (iQ : IF K "square" "NoSquare.__init__" s_NoSquare___init CQ iQa iQd)
    (nd : ([HE, CQ, CR] : List Addr).Nodup)
    : ∃ fd : FuncData, (∀ (s : Shared) (u : Value), BindsTo s fd ⟨[u], []⟩ [("_law_script", u)]) ∧ ∀ base : Heap, K.In base → base.Ns mainGlobals mg → FnG l.prog w K mg base CX0 10 fa fd ["_law_script"] (spLaw K) := by
  have efa : fa = h34 := by
    have z := PySem.W.mg_of X G d34.ns
    rw [hfa] at z
    cases z
    rfl
  subst efa
  have q_isinstance := PySem.W.mg_none_of X G n_isinstance
  have q_len := PySem.W.mg_none_of X G n_len
  have q_all := PySem.W.mg_none_of X G n_all
  have q_set := PySem.W.mg_none_of X G n_set
  have q_list := PySem.W.mg_none_of X G n_list
  have q_tuple := PySem.W.mg_none_of X G n_tuple
  have q_dict := PySem.W.mg_none_of X G n_dict
  have q_str := PySem.W.mg_none_of X G n_str
  have q_int := PySem.W.mg_none_of X G n_int
  have q_bool := PySem.W.mg_none_of X G n_bool
  have q_sorted := PySem.W.mg_none_of X G n_sorted
  have q_iter := PySem.W.mg_none_of X G n_iter
  have q_enumerate := PySem.W.mg_none_of X G n_enumerate
  have q_abs := PySem.W.mg_none_of X G n_abs
  have q_repr := PySem.W.mg_none_of X G n_repr
  have q_min := PySem.W.mg_none_of X G n_min
  have q_range := PySem.W.mg_none_of X G n_range
  have b0 := d0.F.binds (ps := ["thing"]) fun _ _ _ _ _ _ us hl => match us, hl with | [_], _ => rfl
  have D0 := df_of X G d0
  have b1 := d1.F.binds (ps := ["thing"]) fun _ _ _ _ _ _ us hl => match us, hl with | [_], _ => rfl
  have D1 := df_of X G d1
  have b2 := d2.F.binds (ps := ["thing"]) fun _ _ _ _ _ _ us hl => match us, hl with | [_], _ => rfl
  have D2 := df_of X G d2
  have b3 := d3.F.binds (ps := ["thing"]) fun _ _ _ _ _ _ us hl => match us, hl with | [_], _ => rfl
  have D3 := df_of X G d3
  have b4 := d4.F.binds (ps := ["thing"]) fun _ _ _ _ _ _ us hl => match us, hl with | [_], _ => rfl
  have D4 := df_of X G d4
  have b5 := d5.F.binds (ps := ["ways"]) fun _ _ _ _ _ _ us hl => match us, hl with | [_], _ => rfl
  have D5 := df_of X G d5
  have b6 := d6.F.binds (ps := ["way_lists"]) fun _ _ _ _ _ _ us hl => match us, hl with | [_], _ => rfl
  have D6 := df_of X G d6
  have b7 := d7.F.binds (ps := ["items", "at", "item"]) fun _ _ _ _ _ _ us hl => match us, hl with | [_, _, _], _ => rfl
  have D7 := df_of X G d7
  have b8 := d8.F.binds (ps := ["thing", "tuples"]) fun _ _ _ _ _ _ us hl => match us, hl with | [_, _], _ => rfl
  have D8 := df_of X G d8
  have b9 := d9.F.binds (ps := ["thing", "many"]) fun _ _ _ _ _ _ us hl => match us, hl with | [_, _], _ => rfl
  have D9 := df_of X G d9
  have b10 := d10.F.binds (ps := ["thing", "wanted", "many"]) fun _ _ _ _ _ _ us hl => match us, hl with | [_, _, _], _ => rfl
  have D10 := df_of X G d10
  have b11 := d11.F.binds (ps := ["game"]) fun _ _ _ _ _ _ us hl => match us, hl with | [_], _ => rfl
  have D11 := df_of X G d11
  have b12 := d12.F.binds (ps := ["game", "standing"]) fun _ _ _ _ _ _ us hl => match us, hl with | [_, _], _ => rfl
  have D12 := df_of X G d12
  have b13 := d13.F.binds (ps := ["game", "thing"]) fun _ _ _ _ _ _ us hl => match us, hl with | [_, _], _ => rfl
  have D13 := df_of X G d13
  have b14 := d14.F.binds (ps := ["game", "standing", "chooser", "way"]) fun _ _ _ _ _ _ us hl => match us, hl with | [_, _, _, _], _ => rfl
  have D14 := df_of X G d14
  have b15 := d15.F.binds (ps := ["game", "square"]) fun _ _ _ _ _ _ us hl => match us, hl with | [_, _], _ => rfl
  have D15 := df_of X G d15
  have b16 := d16.F.binds (ps := ["game", "square"]) fun _ _ _ _ _ _ us hl => match us, hl with | [_, _], _ => rfl
  have D16 := df_of X G d16
  have b17 := d17.F.binds (ps := ["_law_script"]) fun _ _ _ _ _ _ us hl => match us, hl with | [_], _ => rfl
  have D17 := df_of X G d17
  have b18 := d18.F.binds (ps := ["_law_bag_here", "_law_many"]) fun _ _ _ _ _ _ us hl => match us, hl with | [_, _], _ => rfl
  have D18 := df_of X G d18
  have b19 := d19.F.binds (ps := ["_law_bag_here", "_law_some"]) fun _ _ _ _ _ _ us hl => match us, hl with | [_, _], _ => rfl
  have D19 := df_of X G d19
  have b20 := d20.F.binds (ps := ["_law_bag_here", "_law_things"]) fun _ _ _ _ _ _ us hl => match us, hl with | [_, _], _ => rfl
  have D20 := df_of X G d20
  have b21 := d21.F.binds (ps := ["_law_bag_here", "_law_size"]) fun _ _ _ _ _ _ us hl => match us, hl with | [_, _], _ => rfl
  have D21 := df_of X G d21
  have b22 := d22.F.binds (ps := ["_law_bag_here", "_law_most"]) fun _ _ _ _ _ _ us hl => match us, hl with | [_, _], _ => rfl
  have D22 := df_of X G d22
  have b23 := d23.F.binds (ps := ["_law_numbers"]) fun _ _ _ _ _ _ us hl => match us, hl with | [_], _ => rfl
  have D23 := df_of X G d23
  have b24 := d24.F.binds (ps := ["_law_bag_here", "_law_most"]) fun _ _ _ _ _ _ us hl => match us, hl with | [_, _], _ => rfl
  have D24 := df_of X G d24
  have b25 := d25.F.binds (ps := ["_law_some", "_law_ways"]) fun _ _ _ _ _ _ us hl => match us, hl with | [_, _], _ => rfl
  have D25 := df_of X G d25
  have b26 := d26.F.binds (ps := ["_law_ways"]) fun _ _ _ _ _ _ us hl => match us, hl with | [_], _ => rfl
  have D26 := df_of X G d26
  have b27 := d27.F.binds (ps := ["_law_bag_here", "_law_style"]) fun _ _ _ _ _ _ us hl => match us, hl with | [_, _], _ => rfl
  have D27 := df_of X G d27
  have b28 := d28.F.binds (ps := ["_law_bag_here", "_law_ways"]) fun _ _ _ _ _ _ us hl => match us, hl with | [_, _], _ => rfl
  have D28 := df_of X G d28
  have b29 := d29.F.binds (ps := ["_law_ways"]) fun _ _ _ _ _ _ us hl => match us, hl with | [_], _ => rfl
  have D29 := df_of X G d29
  have b30 := d30.F.binds (ps := ["_law_ways", "_law_square"]) fun _ _ _ _ _ _ us hl => match us, hl with | [_, _], _ => rfl
  have D30 := df_of X G d30
  have b31 := d31.F.binds (ps := ["_law_ways", "_law_gains_here", "_law_square"]) fun _ _ _ _ _ _ us hl => match us, hl with | [_, _, _], _ => rfl
  have D31 := df_of X G d31
  have b32 := d32.F.binds (ps := ["_law_way", "_law_game", "_law_thing"]) fun _ _ _ _ _ _ us hl => match us, hl with | [_, _, _], _ => rfl
  have D32 := df_of X G d32
  have b33 := d33.F.binds (ps := ["_law_bag_here", "_law_ways", "_law_square"]) fun _ _ _ _ _ _ us hl => match us, hl with | [_, _, _], _ => rfl
  have D33 := df_of X G d33
  have b34 := d34.F.binds (ps := ["_law_script"]) fun _ _ _ _ _ _ us hl => match us, hl with | [_], _ => rfl
  have D34 := df_of X G d34
  have mb0 := m0.F.binds (ps := ["self", "ways", "gains"]) fun _ _ _ _ _ _ us hl => match us, hl with | [_, _, _], _ => rfl
  have mb1 := m1.F.binds (ps := ["self", "x"]) fun _ _ _ _ _ _ us hl => match us, hl with | [_, _], _ => rfl
  have mb2 := m2.F.binds (ps := ["self"]) fun _ _ _ _ _ _ us hl => match us, hl with | [_], _ => rfl
  have mb3 := m3.F.binds (ps := ["self"]) fun _ _ _ _ _ _ us hl => match us, hl with | [_], _ => rfl
  have mb4 := m4.F.binds (ps := ["self", "chooser"]) fun _ _ _ _ _ _ us hl => match us, hl with | [_, _], _ => rfl
  have mb5 := m5.F.binds (ps := ["self", "chooser", "standing"]) fun _ _ _ _ _ _ us hl => match us, hl with | [_, _, _], _ => rfl
  have mb6 := m6.F.binds (ps := ["self", "standing"]) fun _ _ _ _ _ _ us hl => match us, hl with | [_, _], _ => rfl
  have mb7 := m7.F.binds (ps := ["self", "thing"]) fun _ _ _ _ _ _ us hl => match us, hl with | [_, _], _ => rfl
  have mb8 := m8.F.binds (ps := ["self", "standing", "thing"]) fun _ _ _ _ _ _ us hl => match us, hl with | [_, _, _], _ => rfl
  have mb9 := m9.F.binds (ps := ["self", "chooser"]) fun _ _ _ _ _ _ us hl => match us, hl with | [_, _], _ => rfl
  have mb10 := m10.F.binds (ps := ["self", "chooser"]) fun _ _ _ _ _ _ us hl => match us, hl with | [_, _], _ => rfl
  have mb11 := m11.F.binds (ps := ["self", "standing"]) fun _ _ _ _ _ _ us hl => match us, hl with | [_, _], _ => rfl
  have biQ := iQ.F.binds (ps := ["self", "square"]) fun _ _ _ _ _ _ us hl => match us, hl with | [_, _], _ => rfl
  have EQ : EK K mg "NoSquare" "square" CQ iQa iQd := ⟨PySem.W.mg_of X G cQ.ns, cQ.oex, iQ.no, iQ.iC, iQ.tI, cQ.err, fun _ _ _ => ok_eNoSquare iQ.F cQ.oex iQ.no, biQ⟩
  have T : KT K mg := { m_isinstance := q_isinstance, m_len := q_len, m_all := q_all, m_set := q_set, m_list := q_list, m_tuple := q_tuple, m_dict := q_dict, m_str := q_str, m_int := q_int, m_bool := q_bool, g_letters := ⟨_, PySem.W.mg_of X G c_MOST_LETTERS⟩, g_names := ⟨_, PySem.W.mg_of X G c_MOST_NAMES⟩, g_standings := ⟨_, PySem.W.mg_of X G c_MOST_STANDINGS⟩ }
  have GDv : GD K mg h3 h2 h1 h5 h6 h10 h9 h0 h8 h7 hd3 hd2 hd1 hd5 hd6 hd10 hd9 hd0 hd8 hd7 := { T := T, m_sorted := q_sorted, shape := D3, bShape := b3, names := D2, bNames := b2, name := D1, bName := b1, sorted := D5, bSorted := b5, stds := D6, bStds := b6, table := D10, bTable := b10, aInts := D9, bInts := b9, aInt := D0, bInt := b0, one := D8, bOne := b8, put := D7, bPut := b7 }
  have GHv : GDC K mg h4 hd4 := ⟨D4, b4⟩
  have cv : GC K C := ⟨⟨cpg, chd, cpo, csa⟩, fW, fL, fG⟩
  have civ : InsOk K C := ⟨iha, ihn, iht, ihm, fun T hT => by
    simp only [List.mem_cons, List.not_mem_nil, or_false] at hT
    rcases hT with rfl | rfl | rfl | rfl | rfl | rfl <;> exact kit_ref (by decide +kernel) (by assumption)⟩
  have mkv : Mk K C g0 := ⟨mkm, m0.me.at_, m0.me.fn, mkk⟩
  have Bv : BT K mg h18 h19 hd18 hd19 := ⟨q_len, q_int, d18.F, b18, D18.g, d19.F, b19, D19.g⟩
  have Mv : MxT K mg h20 hd20 := ⟨d20.F, b20, D20.g⟩
  have Nv : NmT K mg h21 h22 h23 hd21 hd22 hd23 := ⟨d21.F, b21, D21.g, d22.F, b22, D22.g, d23.F, b23, D23.g⟩
  have GLv : GnT K mg h27 h26 h25 hd27 hd26 hd25 := ⟨q_sorted, q_min, q_range, q_tuple, q_list, q_dict, d27.F, b27, D27.g, d26.F, b26, D26.g, d25.F, b25, D25.g⟩
  have GMv : GmT K mg C g6 g11 g1 g8 g7 g9 g3 gd6 gd11 gd1 gd8 gd7 gd9 gd3 := ⟨⟨m6.me, m6.F, mb6⟩, ⟨m11.me, m11.F, mb11⟩, ⟨m1.me, m1.F, mb1⟩, ⟨m8.me, m8.F, mb8⟩, ⟨m7.me, m7.F, mb7⟩, ⟨m9.me, m9.F, mb9⟩, ⟨m3.me, m3.F, mb3⟩⟩
  obtain ⟨nHE1, nQR⟩ := List.nodup_cons.mp nd
  obtain ⟨nQ1, _⟩ := List.nodup_cons.mp nQR
  simp only [List.mem_cons, List.not_mem_nil, or_false, not_or] at nHE1 nQ1
  have hQ := Ne.symm nHE1.1
  have hR := Ne.symm nHE1.2
  have kQQ := (cQ.kit cQ hQ).trans (congrArg some (decide_eq_true rfl))
  have kQR := (cQ.kit cR hR).trans (congrArg some (decide_eq_false nQ1))
  have Zv : TqK K mg HE CQ CR := ⟨PySem.W.mg_of X G nHE, PySem.W.mg_of X G cR.ns, cQ.exmH cHE tHE eHE, kQQ, kQR, ⟨ihn, iht⟩⟩
  obtain ⟨oc, od, kV, doc, pm, an, cdv, ct, osl, e7, lk7, hcd7⟩ := d34.F.ex
  refine ⟨hd34, fun s v => by rw [e7]; exact .of_eq rfl, fun base _ _ => ?_⟩
  have oAt := ok_squares_at (P := l.prog) (w := w) (base := base) GDv GHv cv GMv D12
  have oSqs := ok_squares (P := l.prog) (w := w) (base := base) q_iter cv ⟨m2.me, m2.F, mb2⟩ D12 b12 oAt D11
  have oUp := ok_upward (P := l.prog) (w := w) (base := base) GDv cv ⟨m7.me, m7.F, mb7⟩ ⟨m4.me, m4.F, mb4⟩ ⟨m10.me, m10.F, mb10⟩ ⟨m9.me, m9.F, mb9⟩ D14
  have oIsq := ok_is_square (P := l.prog) (w := w) (base := base) GDv cv ⟨m1.me, m1.F, mb1⟩ D14 b14 oUp D13
  have oRing := ok_ring_of (P := l.prog) (w := w) (base := base) T cv ⟨m9.me, m9.F, mb9⟩ EQ D13 b13 oIsq D15
  have oSums := ok_sums (P := l.prog) (w := w) (base := base) GDv cv ⟨m9.me, m9.F, mb9⟩ ⟨m5.me, m5.F, mb5⟩ ⟨m11.me, m11.F, mb11⟩ ⟨m1.me, m1.F, mb1⟩ ⟨m10.me, m10.F, mb10⟩ ⟨m7.me, m7.F, mb7⟩ EQ D13 b13 oIsq D16
  have oTried := ok_triedQ (P := l.prog) (w := w) (base := base) q_isinstance EQ Zv ⟨D15, b15⟩ ⟨D16, b16⟩ oRing oSums D32
  have oStd := ok_lstandings (P := l.prog) (w := w) (base := base) q_sorted d25.F b25 D25.g d26.F
  have oLsq := ok_lsquares (P := l.prog) (w := w) (base := base) q_sorted q_range q_len ⟨D26, b26⟩ oStd d29.F
  have oCor := ok_lcorners (P := l.prog) (w := w) (base := base) q_sorted d30.F
  have oLsu := ok_lsums (P := l.prog) (w := w) (base := base) ⟨D30, b30⟩ oCor d31.F
  have oBad := ok_lbad (P := l.prog) (w := w) (base := base) q_sorted q_len ⟨D30, b30⟩ oCor d33.F
  have oMix := ok_mixedB (P := l.prog) (w := w) (base := base) Bv d20.F
  have oOne := ok_oneB (P := l.prog) (w := w) (base := base) d19.F d18.F b18 D18.g q_len q_int
  exact ok_law GDv cv civ mkv m0.F mb0 (PySem.W.mg_of X G nC) q_repr GLv ⟨D17, b17⟩ (ok_bag d17.F q_abs) ⟨D24, b24⟩ (ok_lshape Bv Mv Nv q_enumerate d24.F) ⟨D28, b28⟩ (ok_lgains Bv GLv d28.F) ⟨D29, b29⟩ oLsq ⟨D11, b11⟩ oSqs ⟨D13, b13⟩ oIsq ⟨D32, b32⟩ oTried ⟨D20, b20⟩ oMix ⟨D19, b19⟩ oOne ⟨D30, b30⟩ oCor ⟨D31, b31⟩ oLsu ⟨D33, b33⟩ oBad d34.F
end HG

open PySem PySem.W PyProof.Rows
set_option maxRecDepth 100000 in
set_option maxHeartbeats 0 in
theorem PySem.Challenge.cw_heightgames_k20_squares_listed_holds : PySem.Challenge.rw_heightgames_k20_squares_listed.Holds := by
  w_on; o_law; k_head; (case hw => w_witness2)
  k_fill
  refine HG.walkG (l := PySem.Challenge.rw_heightgames_k20_squares_listed) (n := 63) (k := 10) (x := "_law_script") (sp := HG.spLaw) rfl (by decide) rfl ⟨rfl, by decide, by decide⟩ (fun w h Y => PySem.W.kIn_of Y) ?F (fun K H a ns hl _ hS => ⟨a, ns, rfl, hS, hl, fun _ => rfl⟩)
  case F =>
    intro w mg fa h KX G hmg
    refine' HG.all_mk KX G hmg ?nC ?cpg ?chd ?cpo ?csa ?fW ?fL ?fG ?iha ?ihn ?iht ?ihm ?mkm ?mkk ?kt_str ?kt_int ?kt_bool ?kt_list ?kt_tuple ?kt_dict ?m0 ?m1 ?m2 ?m3 ?m4 ?m5 ?m6 ?m7 ?m8 ?m9 ?m10 ?m11 ?d0 ?d1 ?d2 ?d3 ?d4 ?d5 ?d6 ?d7 ?d8 ?d9 ?d10 ?d11 ?d12 ?d13 ?d14 ?d15 ?d16 ?d17 ?d18 ?d19 ?d20 ?d21 ?d22 ?d23 ?d24 ?d25 ?d26 ?d27 ?d28 ?d29 ?d30 ?d31 ?d32 ?d33 ?d34 ?c_MOST_LETTERS ?c_MOST_NAMES ?c_MOST_STANDINGS ?n_isinstance ?n_len ?n_all ?n_set ?n_list ?n_tuple ?n_dict ?n_str ?n_int ?n_bool ?n_sorted ?n_iter ?n_enumerate ?n_abs ?n_repr ?n_min ?n_range ?nHE ?cHE ?tHE ?eHE ?cQ ?cR ?iQ ?nd
    (case nC => k_is)
    (case cpg => k_is)
    (case chd => k_is)
    (case cpo => k_is)
    (case csa => k_is)
    (case fW => k_is)
    (case fL => k_is)
    (case fG => k_is)
    (case iha => k_is)
    (case ihn => k_is)
    (case iht => k_is)
    (case ihm => k_is)
    (case mkm => k_is)
    (case mkk => k_is)
    (case kt_str => k_is)
    (case kt_int => k_is)
    (case kt_bool => k_is)
    (case kt_list => k_is)
    (case kt_tuple => k_is)
    (case kt_dict => k_is)
    (case m0 => (refine' HG.MF.mk' ?a ?b ?l ?c ?k; (case a => k_is); (case b => k_is); (case l => k_is); (case c => k_is); (case k => k_is)))
    (case m1 => (refine' HG.MF.mk' ?a ?b ?l ?c ?k; (case a => k_is); (case b => k_is); (case l => k_is); (case c => k_is); (case k => k_is)))
    (case m2 => (refine' HG.MF.mk' ?a ?b ?l ?c ?k; (case a => k_is); (case b => k_is); (case l => k_is); (case c => k_is); (case k => k_is)))
    (case m3 => (refine' HG.MF.mk' ?a ?b ?l ?c ?k; (case a => k_is); (case b => k_is); (case l => k_is); (case c => k_is); (case k => k_is)))
    (case m4 => (refine' HG.MF.mk' ?a ?b ?l ?c ?k; (case a => k_is); (case b => k_is); (case l => k_is); (case c => k_is); (case k => k_is)))
    (case m5 => (refine' HG.MF.mk' ?a ?b ?l ?c ?k; (case a => k_is); (case b => k_is); (case l => k_is); (case c => k_is); (case k => k_is)))
    (case m6 => (refine' HG.MF.mk' ?a ?b ?l ?c ?k; (case a => k_is); (case b => k_is); (case l => k_is); (case c => k_is); (case k => k_is)))
    (case m7 => (refine' HG.MF.mk' ?a ?b ?l ?c ?k; (case a => k_is); (case b => k_is); (case l => k_is); (case c => k_is); (case k => k_is)))
    (case m8 => (refine' HG.MF.mk' ?a ?b ?l ?c ?k; (case a => k_is); (case b => k_is); (case l => k_is); (case c => k_is); (case k => k_is)))
    (case m9 => (refine' HG.MF.mk' ?a ?b ?l ?c ?k; (case a => k_is); (case b => k_is); (case l => k_is); (case c => k_is); (case k => k_is)))
    (case m10 => (refine' HG.MF.mk' ?a ?b ?l ?c ?k; (case a => k_is); (case b => k_is); (case l => k_is); (case c => k_is); (case k => k_is)))
    (case m11 => (refine' HG.MF.mk' ?a ?b ?l ?c ?k; (case a => k_is); (case b => k_is); (case l => k_is); (case c => k_is); (case k => k_is)))
    (case d0 => (refine' HG.DF.mk' ?a ?b ?c ?d; (case a => k_is); (case b => k_is); (case c => k_is); (case d => k_is)))
    (case d1 => (refine' HG.DF.mk' ?a ?b ?c ?d; (case a => k_is); (case b => k_is); (case c => k_is); (case d => k_is)))
    (case d2 => (refine' HG.DF.mk' ?a ?b ?c ?d; (case a => k_is); (case b => k_is); (case c => k_is); (case d => k_is)))
    (case d3 => (refine' HG.DF.mk' ?a ?b ?c ?d; (case a => k_is); (case b => k_is); (case c => k_is); (case d => k_is)))
    (case d4 => (refine' HG.DF.mk' ?a ?b ?c ?d; (case a => k_is); (case b => k_is); (case c => k_is); (case d => k_is)))
    (case d5 => (refine' HG.DF.mk' ?a ?b ?c ?d; (case a => k_is); (case b => k_is); (case c => k_is); (case d => k_is)))
    (case d6 => (refine' HG.DF.mk' ?a ?b ?c ?d; (case a => k_is); (case b => k_is); (case c => k_is); (case d => k_is)))
    (case d7 => (refine' HG.DF.mk' ?a ?b ?c ?d; (case a => k_is); (case b => k_is); (case c => k_is); (case d => k_is)))
    (case d8 => (refine' HG.DF.mk' ?a ?b ?c ?d; (case a => k_is); (case b => k_is); (case c => k_is); (case d => k_is)))
    (case d9 => (refine' HG.DF.mk' ?a ?b ?c ?d; (case a => k_is); (case b => k_is); (case c => k_is); (case d => k_is)))
    (case d10 => (refine' HG.DF.mk' ?a ?b ?c ?d; (case a => k_is); (case b => k_is); (case c => k_is); (case d => k_is)))
    (case d11 => (refine' HG.DF.mk' ?a ?b ?c ?d; (case a => k_is); (case b => k_is); (case c => k_is); (case d => k_is)))
    (case d12 => (refine' HG.DF.mk' ?a ?b ?c ?d; (case a => k_is); (case b => k_is); (case c => k_is); (case d => k_is)))
    (case d13 => (refine' HG.DF.mk' ?a ?b ?c ?d; (case a => k_is); (case b => k_is); (case c => k_is); (case d => k_is)))
    (case d14 => (refine' HG.DF.mk' ?a ?b ?c ?d; (case a => k_is); (case b => k_is); (case c => k_is); (case d => k_is)))
    (case d15 => (refine' HG.DF.mk' ?a ?b ?c ?d; (case a => k_is); (case b => k_is); (case c => k_is); (case d => k_is)))
    (case d16 => (refine' HG.DF.mk' ?a ?b ?c ?d; (case a => k_is); (case b => k_is); (case c => k_is); (case d => k_is)))
    (case d17 => (refine' HG.DF.mk' ?a ?b ?c ?d; (case a => k_is); (case b => k_is); (case c => k_is); (case d => k_is)))
    (case d18 => (refine' HG.DF.mk' ?a ?b ?c ?d; (case a => k_is); (case b => k_is); (case c => k_is); (case d => k_is)))
    (case d19 => (refine' HG.DF.mk' ?a ?b ?c ?d; (case a => k_is); (case b => k_is); (case c => k_is); (case d => k_is)))
    (case d20 => (refine' HG.DF.mk' ?a ?b ?c ?d; (case a => k_is); (case b => k_is); (case c => k_is); (case d => k_is)))
    (case d21 => (refine' HG.DF.mk' ?a ?b ?c ?d; (case a => k_is); (case b => k_is); (case c => k_is); (case d => k_is)))
    (case d22 => (refine' HG.DF.mk' ?a ?b ?c ?d; (case a => k_is); (case b => k_is); (case c => k_is); (case d => k_is)))
    (case d23 => (refine' HG.DF.mk' ?a ?b ?c ?d; (case a => k_is); (case b => k_is); (case c => k_is); (case d => k_is)))
    (case d24 => (refine' HG.DF.mk' ?a ?b ?c ?d; (case a => k_is); (case b => k_is); (case c => k_is); (case d => k_is)))
    (case d25 => (refine' HG.DF.mk' ?a ?b ?c ?d; (case a => k_is); (case b => k_is); (case c => k_is); (case d => k_is)))
    (case d26 => (refine' HG.DF.mk' ?a ?b ?c ?d; (case a => k_is); (case b => k_is); (case c => k_is); (case d => k_is)))
    (case d27 => (refine' HG.DF.mk' ?a ?b ?c ?d; (case a => k_is); (case b => k_is); (case c => k_is); (case d => k_is)))
    (case d28 => (refine' HG.DF.mk' ?a ?b ?c ?d; (case a => k_is); (case b => k_is); (case c => k_is); (case d => k_is)))
    (case d29 => (refine' HG.DF.mk' ?a ?b ?c ?d; (case a => k_is); (case b => k_is); (case c => k_is); (case d => k_is)))
    (case d30 => (refine' HG.DF.mk' ?a ?b ?c ?d; (case a => k_is); (case b => k_is); (case c => k_is); (case d => k_is)))
    (case d31 => (refine' HG.DF.mk' ?a ?b ?c ?d; (case a => k_is); (case b => k_is); (case c => k_is); (case d => k_is)))
    (case d32 => (refine' HG.DF.mk' ?a ?b ?c ?d; (case a => k_is); (case b => k_is); (case c => k_is); (case d => k_is)))
    (case d33 => (refine' HG.DF.mk' ?a ?b ?c ?d; (case a => k_is); (case b => k_is); (case c => k_is); (case d => k_is)))
    (case d34 => (refine' HG.DF.mk' ?a ?b ?c ?d; (case a => k_is); (case b => k_is); (case c => k_is); (case d => k_is)))
    (case c_MOST_LETTERS => k_is)
    (case c_MOST_NAMES => k_is)
    (case c_MOST_STANDINGS => k_is)
    (case n_isinstance => k_is)
    (case n_len => k_is)
    (case n_all => k_is)
    (case n_set => k_is)
    (case n_list => k_is)
    (case n_tuple => k_is)
    (case n_dict => k_is)
    (case n_str => k_is)
    (case n_int => k_is)
    (case n_bool => k_is)
    (case n_sorted => k_is)
    (case n_iter => k_is)
    (case n_enumerate => k_is)
    (case n_abs => k_is)
    (case n_repr => k_is)
    (case n_min => k_is)
    (case n_range => k_is)
    (case nHE => k_is)
    (case cHE => k_is)
    (case tHE => k_is)
    (case eHE => k_is)
    (case cQ => (refine' HG.CF.mk' ?a ?b ?c ?d ?e ?f ?g; (case a => k_is); (case b => k_is); (case c => k_is); (case d => k_is); (case e => k_is); (case f => k_is); (case g => k_is)))
    (case cR => (refine' HG.CF.mk' ?a ?b ?c ?d ?e ?f ?g; (case a => k_is); (case b => k_is); (case c => k_is); (case d => k_is); (case e => k_is); (case f => k_is); (case g => k_is)))
    (case iQ => (refine' HG.IF.mk' ?a ?b ?c ?d ?e ?f; (case a => k_is); (case b => k_is); (case c => k_is); (case d => k_is); (case e => k_is); (case f => k_is)))
    (case nd => decide)

