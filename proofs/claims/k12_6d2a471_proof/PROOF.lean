import PyProof.Rows.All
import Wide.All
import OpenK.AllK
import Wide.FinOn
import PyProof.EqAt
import PyProof.EqKinds
import KE.DataEq
import KE.KExcIs
import HandS.ForMost
import HandS.Exc
import HandS.ExcOwn
import HandS.ExcInit
import HandS.ExcValue
import HandS.IsInst
import HandS.ExcField
import HandS.Codes
import HandS.Strs
import HandS.StrMore
import HandS.TupAny
import HandS.Iter
import HandS.TupLen
import HandS.DictComp
import HandS.Conv
import HandS.Walk
import PyProof.TupleOfSeq
import HandS.More
import HandS.SlotsOwn
import OpenK.KOps
import KE.KUnpack
import HandS.OwnIter
import HandS.IterVal
import KE.KDictKeyed
import HandS.Style
import HandS.DictTup
import KE.KDictPairs
import KE.KDictList
import KE.KDictWalk
import HandS.Finally
import HandS.TupMul
import KE.KRevSl
import HandS.Deep
import HandS.DeepEq
import KE.KEqDict
import PyProof.ReprRoads
import HandS.Ends
import PyProof.ReprLen
import PySem.Challenge.RW_heightgames_k12_games_told
set_option Elab.async false
set_option linter.all false
set_option maxRecDepth 100000
set_option maxHeartbeats 4000000
/-! rules of our own: o[i] += e of a list; == of lists of one content; errors as values -/
namespace HG
open PySem PySem.Spec PyProof.Rows L2

section
variable {X : Cx}
def rGetL (K : PySem.W.Frag) : V → V → Hp → VK → Prop := fun o i H Q => ∃ p xs k z, o = .ref p ∧ i = .int k ∧ SqL K H p xs ∧ 0 ≤ k ∧ atI xs k = some z ∧ Q z H
theorem get_list : PGet X (rGetL X.K) := by
  intro pins s σ H o i ov iv Q I ro ri h
  obtain ⟨p, xs, k, z, rfl, rfl, hq, h0, he, q⟩ := h
  cases ro
  obtain ⟨t, rfl⟩ := ri
  obtain ⟨its, r, pl, hz⟩ := I.list hq
  obtain ⟨j, h1, h2, h3, h4, h5⟩ := atI_get he
  obtain ⟨w, ew, rw'⟩ := r.get h2
  have hl := r.length
  have hn := line63
  have hj : k.toNat = j := by
    rw [seqIndex_of h0 h5] at h1
    exact Option.some.inj h1
  exact wpAny_getItem_list pl.isList h0 (by omega) (by rw [hj]; simpa using ew) ⟨z, H, I, rw', q⟩

/-- values that are equal whenever they are the same to us -/
def plainV : V → Bool
  | .flt _ => false
  | .byt _ => false
  | _ => true
theorem eq_of_rel {x : V} {u w : Value} {A : Around} {s : Shared} (hx : plainV x = true) (r : RelV x u) (r' : RelV x w) : SeqAt.EqAt A s u w true := by
  cases x with
  | non => cases r; cases r'; exact SeqAt.EqAt.same _
  | bl b => cases r; cases r'; exact SeqAt.EqAt.same _
  | int i =>
    obtain ⟨t, rfl⟩ := r
    obtain ⟨t', rfl⟩ := r'
    intro prog w E Q q
    exact wpAny_eqBool_int (by rw [beq_self_eq_true]; exact q)
  | str z =>
    obtain ⟨t, rfl⟩ := r
    obtain ⟨t', rfl⟩ := r'
    intro prog w E Q q
    exact wpAny_eqBool_str (by rw [decide_eq_true rfl]; exact q)
  | byt b => cases hx
  | flt b => cases hx
  | ref a => cases r; cases r'; exact SeqAt.EqAt.same _
  | ty n => cases r; cases r'; exact SeqAt.EqAt.same _
def rSame (K : PySem.W.Frag) (b : Bool) : R2 := fun x y H Q => ∃ p q xs, x = .ref p ∧ y = .ref q ∧ SqL K H p xs ∧ SqL K H q xs ∧ (∀ z ∈ xs, plainV z = true) ∧ Q (.bl b) H
theorem op_neSame (hu : X.A.units + 64 < cLine) : OpR X (compareOp .NotEq) (rSame X.K false) := by
  intro pins s σ H x y v u Q I rx ry h
  obtain ⟨p, q, xs, rfl, rfl, hp, hq, hpl, k⟩ := h
  cases rx
  cases ry
  obtain ⟨its, r, pl, hz⟩ := I.list hp
  obtain ⟨its', r', pl', hz'⟩ := I.list hq
  have l1 := r.length
  have l2 := r'.length
  have hsz : its.toArray.size = its'.toArray.size := by simp only [List.size_toArray]; omega
  have hk : (!(List.range its.toArray.size).all fun _ => true) = false := by simp
  have := SeqAt.RcNeAt.lists (A := X.A) (s := s) (e := fun _ => true) pl.isList pl'.isList hsz (by omega) (fun j h1 h2 => by
    have j1 : j < xs.length := by simpa [l1] using h1
    obtain ⟨w, ew, rw1⟩ := r.get (i := j) (List.getElem?_eq_getElem j1)
    obtain ⟨w', ew', rw2⟩ := r'.get (i := j) (List.getElem?_eq_getElem j1)
    have e1 : its.toArray[j] = w := by
      have := List.getElem?_eq_some_iff.mp ew
      obtain ⟨_, e⟩ := this
      simpa using e
    have e2 : its'.toArray[j] = w' := by
      have := List.getElem?_eq_some_iff.mp ew'
      obtain ⟨_, e⟩ := this
      simpa using e
    rw [e1, e2]
    exact eq_of_rel (hpl _ (List.getElem_mem j1)) rw1 rw2)
  rw [hk] at this
  exact this X.prog X.w _ _ ⟨.bl false, H, I, rfl, k⟩
end

/-! ### errors as values -/
section
variable {X : Cx} {pins : List (Addr × Obj)} {σ : L2.St} {H : Hp} {s : Shared}
/-- what reading an own error's fields, and isinstance of it, ask of its class -/
structure ErrC (K : PySem.W.Frag) (C : Addr) : Prop where
  xf : XfC K C
  cl : (PySem.W.clsIn K C).isSome = true
  ha : PySem.W.findIn K (.ref C) "__class__" = some (some (.builtin "object.__class__"))
  hm : PySem.W.mroIn K C (.type "object") = some true
structure GetC (K : PySem.W.Frag) : Prop where
  hn : PySem.W.specialIn K (.builtin "object.__class__") "__get__" = some (some (.builtin "getset_descriptor.__get__"))
  ht : PySem.W.takesIn K (.builtin "object.__class__") = some true

theorem exd_obj {P : Program} {w : World} {H : Hp} {h : Heap} {dx : Addr} {fs : List (Str × V)} (hok : HOk P w H h) (he : H dx = some (exd dx fs)) : ∃ od, h.get? dx = some od ∧ ∀ n v, fs.lookup n = some v → ∃ u : Value, PySem.W.lookIn n od = some (some u) ∧ L2.RelV v u := by
  obtain ⟨mA, hns, hr⟩ := exd_at hok he
  obtain ⟨od, ho, hl⟩ := lookIn_ns hns
  refine ⟨od, ho, fun n v l => ?_⟩
  obtain ⟨u, hu, ru⟩ := RelO.some_of (v := v) (o := mA n) (by rw [← l]; exact hr n)
  exact ⟨u, by rw [hl n, hu], ru⟩

/-- e.f, e an own error that is tracked -/
def tErrF (K : PySem.W.Frag) (f : Str) (te : TE) : TE := fun σ H Q => te σ H fun x H1 => ∃ (a C dx : Addr) (fs : List (Str × V)) (v : V), x = .ref a ∧ H1 a = some (exo a C (some dx)) ∧ H1 dx = some (exd dx fs) ∧ XfC K C ∧ PySem.W.findIn K (.ref C) f = some none ∧ fs.lookup f = some v ∧ Q v H1
theorem pe_errF {e : Expr} {te : TE} {pos : Pos} {n : Str} (he : PE X e te) (hb : attributeBase e n X.env (eval e X.env) = eval e X.env := by rfl) : PE X (.Attribute e n pos) (tErrF X.K n te) := by
  refine ⟨fun pins s σ H Q I h => ?_⟩
  refine attr_of hb (thn (he.run pins s σ H _ I h) fun u s1 hh => ?_)
  obtain ⟨x, H1, I1, rx, a, C, dx, fs, v, ex, ea, ed, T, hno, l, q⟩ := hh
  subst ex
  obtain rfl : u = Value.ref a := rx
  obtain ⟨t1, ho⟩ := exo_at I1.hok ea
  obtain ⟨od, hod, hl⟩ := exd_obj I1.hok ed
  obtain ⟨u, hu, ru⟩ := hl n v l
  have J : PySem.W.InstAt s1.heap a { cls := .ref C, dict := some dx, data := .fields #[.ref t1, .none, .none, .none, .bool false, .none] } C (some od) := ⟨ho, rfl, rfl, hod⟩
  exact HandSPX.exc_get I1.kIn J T.ga T.gg T.exC (PySem.W.findObj_own T.hdC hno rfl (by rw [hu])) (handed_of ru) ⟨v, H1, I1.tok _, ru, q⟩

/-- isinstance(e, c), e an own error that is tracked -/
def rIsErr (K : PySem.W.Frag) : List V → Hp → VK → Prop := fun xs H Q => ∃ (a C : Addr) (d : Option Addr) (c : V) (cv : Value) (b : Bool), xs = [.ref a, c] ∧ ClsV c cv ∧ H a = some (exo a C d) ∧ (∀ dx, d = some dx → ∃ fs, H dx = some (exd dx fs)) ∧ ErrC K C ∧ GetC K ∧ PySem.W.kitOne K (.ref C) cv = some b ∧ Q (.bl b) H
theorem call_isErr : CallR X (.builtin "isinstance") (rIsErr X.K) := by
  intro pins s σ H xs us Q I r h
  obtain ⟨a, C, d, c, cv, b, rfl, k, ea, hd, T, G, e, q⟩ := h
  obtain ⟨u1, u2, rfl, r1, r2⟩ := vals2 r
  have e2 := k.eq r2
  subst e2
  obtain rfl : u1 = Value.ref a := r1
  obtain ⟨t1, ho⟩ := exo_at I.hok ea
  have J : ∃ od, PySem.W.InstAt s.heap a { cls := .ref C, dict := d, data := .fields #[.ref t1, .none, .none, .none, .bool false, .none] } C od := by
    cases d with
    | none => exact ⟨none, ho, rfl, rfl, trivial⟩
    | some dx =>
      obtain ⟨fs, ed⟩ := hd dx rfl
      obtain ⟨od, hod, _⟩ := exd_obj I.hok ed
      exact ⟨some od, ho, rfl, rfl, hod⟩
  obtain ⟨od, J⟩ := J
  exact PySem.W.kia_one (PySem.W.kitx_exc T.cl T.xf.ga T.xf.gg T.xf.exC T.ha G.hn G.ht T.hm) I.kIn J e (fun z => nomatch z) fun tk => ⟨.bl b, H, I.tok tk, rfl, q⟩

/-- X(), an own error without own __init__ -/
theorem pe_err0 {C : Addr} {bmB : List Value} {B newId initId : String} {x : Str} {p pos : Pos} (F : ExcBaseFacts B newId initId bmB) (q : PySem.W.excIn X.K C bmB newId = true) (gC : X.mg x = some (.ref C)) (kC : PySem.W.keepIn X.K (.ref C) = true) (hg : Gl X x)
    (hdb : (x == ("__debug__" : Str)) = false := by decide) :
    PE X (.Call (.Name x p) [] [] pos) (fun σ H Q => ∀ a, H a = none → Q (.ref a) (upd H a (exo a C none))) := by
  refine ⟨fun pins s σ H Q I h => ?_⟩
  refine wpAny_Call_Name_kw (ld_glob I hg gC ?_ hdb)
  refine PySem.W.callWith_K0 I.kIn kC ?_
  obtain ⟨bm, N, nm, qn, bs, hdct, sn, sub, ab, col, dd, k0, k1, k2, k3, k5, mN, hC, hN, hni, T⟩ := exc_obj I.kIn q
  refine wpAny_call_exc_subT F T hC hN hni (fun h' a hm => ?_) (by show 0 ≤ sizeLine; omega)
  have hn : H a = none := I.hok.gone hm.new
  obtain ⟨t, ht, _, _⟩ := hm.there
  exact ⟨.ref a, upd H a (exo a C none), I.laidN hm.keeps hm.new hn (exo_ok ht), rfl, h a hn⟩

/-- X(e, ..), an own error with its own __init__, as a value -/
def tErrN (C : Addr) (sp : Sp) (ta : TA) : TE := fun σ H Q => ta σ H fun vs H1 => vs.length ≤ 1000 ∧ ∀ a, H1 a = none → sp (.ref a :: vs) (upd H1 a (exo a C none)) (fun v H2 => v = .non ∧ Q (.ref a) H2) (fun _ _ _ => False)
theorem pe_errN {CX : CXT} {x : Str} {C fI : Addr} {k : Nat} {fd : FuncData} {ps : List Str} {sp : Sp} {e : Expr} {es : List Expr} {ta : TA} {p pos : Pos} (T : OexC X.K C) (iC : PySem.W.findIn X.K (.ref C) "__init__" = some (some (.ref fI))) (tI : PySem.W.typeIn X.K (.ref fI) = some (.type "function"))
    (F1 : FnOk X.prog X.w X.K X.mg X.base CX k fI fd ps sp) (hr : Room (k + 1) X.A) (hb : Binds X.K fd ps []) (hx : Passes CX X (fun _ _ _ => False)) (hm : X.mg x = some (.ref C)) (hg : Gl X x) (ha : PA X (e :: es) ta)
    (hdb : (x == ("__debug__" : Str)) = false := by decide) (he : starEach (e :: es) X.env = (false, eval e X.env) :: starEach es X.env := by rfl) (hpl : (backTo pos (starEach es X.env)).any (·.1) = false := by rfl) :
    PE X (.Call (.Name x p) (e :: es) [] pos) (tErrN C sp ta) := by
  refine ⟨fun pins s σ H Q I h => ?_⟩
  obtain ⟨nm, q, N, bs, bm, sn, sub, ab, col, dd, k0, k1, k2, k3, k5, hC, hbm⟩ := T.cls
  refine wpAny_Call_Name_kw (ld_glob I hg hm ?_ hdb)
  refine PySem.W.callWith_K (h₀ := X.base) I.ok.mod.kin T.kC (thn (ha.run pos pins s σ H _ I h) fun us s1 ⟨vs, H1, I1, r1, hz, q1⟩ => ⟨I1.kIn, ?_⟩) he hpl
  show wpAny _ _ (call (.ref C) us) _ _ _
  obtain ⟨hp, g, dr, tk, os⟩ := s1
  have hsz : hp.objs.size ≤ hp.objs.size + 1 := Nat.le_succ _
  have hn : H1 (hp.objs.size + 1) = none := I1.hok.fresh hsz
  have hq := q1 (hp.objs.size + 1) hn
  have kk : ∀ b o, hp.get? b = some o → ((hp.push (PySem.W.kdv_tup us)).push (PySem.HandSPX.excO C hp.objs.size)).get? b = some o := fun b o e => Heap.get?_push_of_some _ (Heap.get?_push_of_some _ e)
  have hget : ((hp.push (PySem.W.kdv_tup us)).push (PySem.HandSPX.excO C hp.objs.size)).get? (hp.objs.size + 1) = some (PySem.HandSPX.excO C hp.objs.size) := by heap_get
  have I2 : Inv X pins σ (upd H1 (hp.objs.size + 1) (exo (hp.objs.size + 1) C none)) ⟨(hp.push (PySem.W.kdv_tup us)).push (PySem.HandSPX.excO C hp.objs.size), g, dr, tk, os⟩ :=
    I1.laid (t' := tk) (a := hp.objs.size + 1) (o := exo (hp.objs.size + 1) C none) (h' := (hp.push (PySem.W.kdv_tup us)).push (PySem.HandSPX.excO C hp.objs.size)) kk hsz (exo_ok hget)
  have r2 : Vals (V.ref (hp.objs.size + 1) :: vs) (Value.ref (hp.objs.size + 1) :: us) := .cons rfl r1
  have hl : (Value.ref (hp.objs.size + 1) :: us).length = ps.length := by
    have e := r2.length
    rw [F1.len _ _ _ _ hq] at e
    exact e.symm
  have hus : us.length ≤ sizeLine := by
    rw [← Paired.length r1, sizeLine_eq]
    omega
  have hB := hb _ (Value.ref (hp.objs.size + 1) :: us) I2.kIn (by simpa using hl)
  rw [List.append_nil] at hB
  refine wpAny_call (PySem.HandSPX.call_own F.excBase_ValueError (fun Y => PySem.HandSPX.refsVE_contains Y bm hbm) (I1.kIn _ _ hC) (PySem.W.looks_findIn I1.kIn iC) (fun self => PySem.W.bind_fn I1.kIn self tI) hus
    (codeAny_mono (F1.run _ X.stack _ _ ⟨Value.ref (hp.objs.size + 1) :: us, []⟩ (Value.ref (hp.objs.size + 1) :: us) _ _ (fun _ _ _ => False) (hr.make C us []) (I2.env0.make C us []) hB r2 hq) fun r s' hq' => ?_))
  cases r with
  | error er => exact hx pins σ _ _ er s' I2 hq'
  | ok fl =>
    cases fl with
    | ret u =>
      obtain ⟨v, H2, os2, bare2, un2, hok2, rv, ev, q2⟩ := hq'
      subst ev
      exact ⟨rv, .ref (hp.objs.size + 1), H2, I2.call' (ch := []) os2 un2 hok2 bare2 (fun b z => absurd z (by simp)), rfl, q2⟩
    | next => exact False.elim hq'
    | brk => exact False.elim hq'
    | cont => exact False.elim hq'
end
end HG

/-! more rules of our own: a set of distinct texts, lists or tuples walked alike, tuples put together -/
namespace HG
open PySem PySem.Spec PyProof.Rows L2

/-! ### set(xs) of distinct texts -/
section
variable {prog : Program} {w : World} {A : Around} {R : Result → Shared → Prop} {I : Addr} {fp wr : List Addr} {G : Array GenState → Array GenState → Prop} {n : Nat} {P : Nat → Value → Prop} {St : Nat → Shared → Prop}
theorem take_more {xs : List Str} {i : Nat} (hi : i < xs.length) (k : Str) : ((xs.take i).any (· == k) || decide (k = xs.getD i Str.empty)) = (xs.take (i + 1)).any (· == k) := by
  have e : xs.getD i Str.empty = xs[i] := by simp [List.getD, List.getElem?_eq_getElem hi]
  rw [List.take_add_one, List.getElem?_eq_getElem hi, e]
  simp only [List.any_append, Option.toList, List.any_cons, List.any_nil, Bool.or_false]
  congr 1
  rw [Bool.eq_iff_iff, decide_eq_true_iff, beq_iff_eq]
  exact eq_comm
theorem take_no {xs : List Str} (hN : xs.Nodup) {i : Nat} (hi : i < xs.length) : (xs.take i).any (· == xs.getD i Str.empty) = false := by
  have e : xs.getD i Str.empty = xs[i] := by simp [List.getD, List.getElem?_eq_getElem hi]
  rw [e, List.any_eq_false]
  intro y hy he
  have hy2 : y = xs[i] := by simpa using he
  obtain ⟨j, hj, ej⟩ := List.getElem_of_mem hy
  rw [List.length_take] at hj
  rw [List.getElem_take] at ej
  have := (List.getElem_inj hN).mp (ej.trans hy2)
  omega
theorem fill_texts (W : WalksS prog w A.in1 I fp wr G n P St) (S : Addr) (hSf : S ∉ fp) (xs : List Str) (hN : xs.Nodup) (hz : xs.length = n) (hb : n + 1 < scanBound)
    (hval : ∀ i v, P i v → ∃ t, v = .str (xs.getD i Str.empty) t) :
    ∀ (m i : Nat) (s : Shared), i + m = n → St i s → s.heap.SetOf (PySem.strKind prog w) S (fun k => (xs.take i).any (· == k)) i →
      (∀ s', Moved (S :: wr) G s s' → s'.heap.SetOf (PySem.strKind prog w) S (fun k => (xs.take n).any (· == k)) n → R (.ok (.ret .none)) s') →
      codeAny (model prog w) A (.builtin "set.update.loop" ⟨[.ref S, .ref I], []⟩) R s := by
  have hSw : S ∉ wr := fun h => hSf (W.sub _ h)
  have hsub : ∀ b ∈ wr, b ∈ S :: wr := fun b hb => List.mem_cons_of_mem _ hb
  intro m
  induction m with
  | zero =>
    intro i s him hst hS hR
    obtain rfl : i = n := him
    refine codeAny_builtin PyProof.Rows.F.entry_set_update_loop ?_
    rw [Around.under_plainId PyProof.Rows.F.plain_set_update_loop _]
    refine wpAny_bind (W.done s _ _ hst fun s' hm => ?_)
    obtain ⟨o, es, ep, t, ho, q⟩ := hS
    exact wpAny_pure (hR s' (hm.mono hsub) ⟨o, es, ep, t, hm.heap S _ hSw ho, q⟩)
  | succ m ih =>
    intro i s him hst hS hR
    have hlt : i < n := by omega
    have hix : i < xs.length := by omega
    refine codeAny_builtin PyProof.Rows.F.entry_set_update_loop ?_
    rw [Around.under_plainId PyProof.Rows.F.plain_set_update_loop _]
    refine wpAny_bind (W.item i s _ _ hlt hst fun v s' hP hst' hm => ?_)
    obtain ⟨t, rfl⟩ := hval i v hP
    have hS' : s'.heap.SetOf (PySem.strKind prog w) S (fun k => (xs.take i).any (· == k)) i := by
      obtain ⟨o, es, ep, tb, ho, q⟩ := hS
      exact ⟨o, es, ep, tb, hm.heap S _ hSw ho, q⟩
    refine wpAny_bind (wpAny_holding ?_)
    unfold setAdd
    refine wpAny_holding (wpAny_bind ((PySem.strKind prog w).pyHash (k := xs.getD i Str.empty) (strKind_is _ _ _ _) ?_))
    refine wpAny_setAddHashed_of (knd := PySem.strKind prog w) (s := { s' with toks := s'.toks + 1 }) (strKind_is _ _ _ _) rfl hS' (by omega) fun h' hsb hS2 => ?_
    have hSi : h'.SetOf (PySem.strKind prog w) S (fun k => (xs.take (i + 1)).any (· == k)) (i + 1) := SetOf_congr hS2 (fun k => take_more hix k) (by rw [take_no hN hix]; rfl)
    refine wpAny_pure ⟨plainId_quiet PyProof.Rows.F.plain_set_update_loop _, ih (i + 1) _ (by omega) (W.frame _ s' _ _ hst' (Nat.le_succ _) fun b hb o e => ?_) hSi fun s'' hm'' hS'' => ?_⟩
    · rw [hsb.2 b (fun h : b = S => hSf (by rw [← h]; exact hb))]
      exact e
    · refine hR s'' (Moved.trans W.gtrans ((hm.mono hsub).then_heap (Nat.le_succ _) fun b o hb e => ?_) hm'') hS''
      rw [hsb.2 b (fun h : b = S => hb (by rw [h]; exact List.mem_cons_self))]
      exact e
end
section
variable {prog : Program} {w : World} {A : Around} {E : Value → Shared → Prop} {s : Shared}
abbrev emptySet (u : Bool) : Obj := { cls := .type "set", dict := none, data := .set #[] 0 (.fresh 0 0 u) }

set_option maxHeartbeats 6000000 in
theorem set_of_list {l : Addr} {items : Array Value} {xs : List Str} {Q : Value → Shared → Prop} (hh : A.handled = none) (hl : s.heap.IsList l items) (hi : PyProof.Rows.StrsAre items.toList xs) (hN : xs.Nodup) (hn : xs.length + 1 < scanBound)
    (q : ∀ (h' : Heap) (tk : Nat), h'.SetOf (PySem.strKind prog w) s.heap.objs.size (fun k => (xs.take xs.length).any (· == k)) xs.length → (∀ b o, b < s.heap.objs.size → s.heap.get? b = some o → h'.get? b = some o) → Q (.ref s.heap.objs.size) { s with heap := h', toks := tk }) :
    wpAny (model prog w) A (call (.type "set") [.ref l]) Q E s := by
  have hz : xs.length = items.size := by rw [← StrsAre.len_eq hi, Array.length_toList]
  obtain ⟨c0, tl0, hmro⟩ := PySem.F.called_set.mro
  have hmade := PySem.F.called_set.made
  have hsub := PySem.F.called_set.sub
  have h1 := PySem.F.called_set.notType
  have h2 := PySem.F.called_set.canCreate
  have hct := PySem.F.typeCall_set_1 (.ref l)
  refine wpAny_call (codeAny_of_tree ?_)
  show wpAny _ _ (callAny (.type "set") _) _ _ _
  refine wpAny_pure ⟨Code.quiet_builtin _ (by decide +kernel), codeAny_builtin PySem.F.entry_type_call ?_⟩
  rw [Around.under_plain (weight_type_call_type "set" [.ref l] []) rfl]
  repeat (any_goals (first | assumption | wp_step))
  refine codeAny_mono (code_set_new_1 (.ref l) (E := E) (Q₁ := fun obj s₁ => ∃ u : Bool, obj = .ref s.heap.objs.size ∧ s₁ = { s with heap := s.heap.push (emptySet u) }) fun u => ⟨u, rfl, rfl⟩) fun r s₁ hr => ?_
  cases r with
  | error e => exact hr
  | ok fl =>
    cases fl with
    | next => exact hr.elim
    | brk => exact hr.elim
    | cont => exact hr.elim
    | ret obj =>
      obtain ⟨u, rfl, rfl⟩ := hr
      have hS : (s.heap.push (emptySet u)).get? s.heap.objs.size = some (emptySet u) := Heap.get?_push_size _ rfl
      have hT : Shared.TypeIs { s with heap := s.heap.push (emptySet u) } (.ref s.heap.objs.size) "set" := ⟨_, hS, rfl⟩
      have hli := PySem.F.called_set.init.lookup
      have hbi := PySem.F.called_set.init.bind (.ref s.heap.objs.size)
      repeat (any_goals (first | assumption | wp_step))
      refine codeAny_mono (codeAny_call_builtin (R := wants (fun r s₂ => r = .none ∧ ∃ h' tk, s₂ = { s with heap := h', toks := tk } ∧ h'.SetOf (PySem.strKind prog w) s.heap.objs.size (fun k => (xs.take xs.length).any (· == k)) xs.length ∧
          (∀ b o, b < s.heap.objs.size → s.heap.get? b = some o → h'.get? b = some o)) E) PySem.F.called_set.init.plain PySem.F.entry_set_init (check_set_init_1 hT ?_)) fun r₂ s₂ hr₂ => ?_
      · obtain ⟨⟨oc, odd, oda, osl⟩, hol, hcl, nl, hdl⟩ := hl
        simp only at hcl hdl
        subst hcl hdl
        have hol' := Heap.get?_push_of_some (emptySet u) hol
        have z1 := PySem.F.sub_list_set
        have z2 := PySem.F.sub_list_frozenset
        have z3 : (Value.type "list" == Value.type "dict") = false := by decide
        have hl1 : (s.heap.push (emptySet u)).IsList l items := ⟨_, hol', rfl, nl, rfl⟩
        unfold Builtin.«set.__init__» noKeywords Builtin.Frozenset.updateFrom
        generalize hPI : pyIter = PI
        wp_walk
        subst hPI
        refine wpAny_pyIter_list hl1 (wpAny_bind (wpAny_runValue ?_))
        have hlS : l < s.heap.objs.size := Heap.lt_size hol
        have z4 : A.in1.in1.in1.handled = none := by simp [hh]
        have zs : (s.heap.push (emptySet u)).objs.size = s.heap.objs.size + 1 := Heap.size_push _ _
        have hneI : l ≠ (s.heap.push (emptySet u)).objs.size := by rw [zs]; exact Nat.ne_of_lt (Nat.lt_succ_of_lt hlS)
        have hSf : s.heap.objs.size ∉ [(s.heap.push (emptySet u)).objs.size, l] := by
          rw [zs]
          simp only [List.mem_cons, List.not_mem_nil, or_false, not_or]
          exact ⟨Nat.ne_of_lt (Nat.lt_succ_self _), Nat.ne_of_gt hlS⟩
        refine fill_texts ((Walks.list z4 _ l hneI items).toS) s.heap.objs.size hSf xs hN hz (by omega) (fun i v hv => SS.strs_at hi i v (by rw [Array.getElem?_toList]; exact hv)) items.size 0 _ (by omega)
          ⟨⟨_, Heap.get?_push_size _ rfl, rfl, rfl⟩, (hl1.push _)⟩ ?hS0 ?hR
        case hS0 => exact PyProof.Rows.SetOf_congr ((PyProof.Rows.setObjOf_fresh (knd := PySem.strKind prog w) u).setOf (Heap.get?_push_of_some _ hS) (by unfold scanBound; omega)) (fun _ => rfl) rfl
        case hR =>
          intro s' hm hS'
          obtain ⟨h', g', d', tk', os'⟩ := s'
          have eg : g' = s.gens := hm.gens
          have ed : d' = s.drawn := hm.drawn
          have eo : os' = s.os := hm.os
          subst eg ed eo
          rw [← hz] at hS'
          refine wpAny_pure (wpAny_pure ⟨rfl, h', tk', rfl, hS', fun b o hb e => ?_⟩)
          refine hm.heap b o ?_ (Heap.get?_push_of_some _ (Heap.get?_push_of_some _ e))
          rw [zs]
          simp only [List.mem_cons, List.not_mem_nil, or_false, not_or]
          exact ⟨Nat.ne_of_lt hb, Nat.ne_of_lt (Nat.lt_succ_of_lt hb)⟩
      · cases r₂ with
        | error e => exact hr₂
        | ok fl₂ =>
          cases fl₂ with
          | next => exact hr₂.elim
          | brk => exact hr₂.elim
          | cont => exact hr₂.elim
          | ret r =>
            obtain ⟨rfl, h', tk, rfl, hS', hk'⟩ := hr₂
            repeat (any_goals (first | assumption | wp_step))
            exact q _ _ hS' hk'

set_option maxHeartbeats 6000000 in
theorem set_of_tuple {l : Addr} {items : Array Value} {xs : List Str} {Q : Value → Shared → Prop} (hh : A.handled = none) (hl : s.heap.IsTuple l items) (hi : PyProof.Rows.StrsAre items.toList xs) (hN : xs.Nodup) (hn : xs.length + 1 < scanBound)
    (q : ∀ (h' : Heap) (tk : Nat), h'.SetOf (PySem.strKind prog w) s.heap.objs.size (fun k => (xs.take xs.length).any (· == k)) xs.length → (∀ b o, b < s.heap.objs.size → s.heap.get? b = some o → h'.get? b = some o) → Q (.ref s.heap.objs.size) { s with heap := h', toks := tk }) :
    wpAny (model prog w) A (call (.type "set") [.ref l]) Q E s := by
  have hz : xs.length = items.size := by rw [← StrsAre.len_eq hi, Array.length_toList]
  obtain ⟨c0, tl0, hmro⟩ := PySem.F.called_set.mro
  have hmade := PySem.F.called_set.made
  have hsub := PySem.F.called_set.sub
  have h1 := PySem.F.called_set.notType
  have h2 := PySem.F.called_set.canCreate
  have hct := PySem.F.typeCall_set_1 (.ref l)
  refine wpAny_call (codeAny_of_tree ?_)
  show wpAny _ _ (callAny (.type "set") _) _ _ _
  refine wpAny_pure ⟨Code.quiet_builtin _ (by decide +kernel), codeAny_builtin PySem.F.entry_type_call ?_⟩
  rw [Around.under_plain (weight_type_call_type "set" [.ref l] []) rfl]
  repeat (any_goals (first | assumption | wp_step))
  refine codeAny_mono (code_set_new_1 (.ref l) (E := E) (Q₁ := fun obj s₁ => ∃ u : Bool, obj = .ref s.heap.objs.size ∧ s₁ = { s with heap := s.heap.push (emptySet u) }) fun u => ⟨u, rfl, rfl⟩) fun r s₁ hr => ?_
  cases r with
  | error e => exact hr
  | ok fl =>
    cases fl with
    | next => exact hr.elim
    | brk => exact hr.elim
    | cont => exact hr.elim
    | ret obj =>
      obtain ⟨u, rfl, rfl⟩ := hr
      have hS : (s.heap.push (emptySet u)).get? s.heap.objs.size = some (emptySet u) := Heap.get?_push_size _ rfl
      have hT : Shared.TypeIs { s with heap := s.heap.push (emptySet u) } (.ref s.heap.objs.size) "set" := ⟨_, hS, rfl⟩
      have hli := PySem.F.called_set.init.lookup
      have hbi := PySem.F.called_set.init.bind (.ref s.heap.objs.size)
      repeat (any_goals (first | assumption | wp_step))
      refine codeAny_mono (codeAny_call_builtin (R := wants (fun r s₂ => r = .none ∧ ∃ h' tk, s₂ = { s with heap := h', toks := tk } ∧ h'.SetOf (PySem.strKind prog w) s.heap.objs.size (fun k => (xs.take xs.length).any (· == k)) xs.length ∧
          (∀ b o, b < s.heap.objs.size → s.heap.get? b = some o → h'.get? b = some o)) E) PySem.F.called_set.init.plain PySem.F.entry_set_init (check_set_init_1 hT ?_)) fun r₂ s₂ hr₂ => ?_
      · obtain ⟨⟨oc, odd, oda, osl⟩, hol, hcl, nl, hdl⟩ := hl
        simp only at hcl hdl
        subst hcl hdl
        have hol' := Heap.get?_push_of_some (emptySet u) hol
        have z1 := PySem.F.sub_tuple_set
        have z2 := PySem.F.sub_tuple_frozenset
        have z3 : (Value.type "tuple" == Value.type "dict") = false := by decide
        have hl1 : (s.heap.push (emptySet u)).IsTuple l items := ⟨_, hol', rfl, nl, rfl⟩
        unfold Builtin.«set.__init__» noKeywords Builtin.Frozenset.updateFrom
        generalize hPI : pyIter = PI
        wp_walk
        subst hPI
        refine wpAny_pyIter_tuple hl1 (wpAny_bind (wpAny_runValue ?_))
        have hlS : l < s.heap.objs.size := Heap.lt_size hol
        have z4 : A.in1.in1.in1.handled = none := by simp [hh]
        have zs : (s.heap.push (emptySet u)).objs.size = s.heap.objs.size + 1 := Heap.size_push _ _
        have hneI : l ≠ (s.heap.push (emptySet u)).objs.size := by rw [zs]; exact Nat.ne_of_lt (Nat.lt_succ_of_lt hlS)
        have hSf : s.heap.objs.size ∉ [(s.heap.push (emptySet u)).objs.size, l] := by
          rw [zs]
          simp only [List.mem_cons, List.not_mem_nil, or_false, not_or]
          exact ⟨Nat.ne_of_lt (Nat.lt_succ_self _), Nat.ne_of_gt hlS⟩
        refine fill_texts ((Walks.tuple z4 _ l hneI items).toS) s.heap.objs.size hSf xs hN hz (by omega) (fun i v hv => SS.strs_at hi i v (by rw [Array.getElem?_toList]; exact hv)) items.size 0 _ (by omega)
          ⟨⟨_, Heap.get?_push_size _ rfl, rfl, rfl⟩, (hl1.push _)⟩ ?hS0 ?hR
        case hS0 => exact PyProof.Rows.SetOf_congr ((PyProof.Rows.setObjOf_fresh (knd := PySem.strKind prog w) u).setOf (Heap.get?_push_of_some _ hS) (by unfold scanBound; omega)) (fun _ => rfl) rfl
        case hR =>
          intro s' hm hS'
          obtain ⟨h', g', d', tk', os'⟩ := s'
          have eg : g' = s.gens := hm.gens
          have ed : d' = s.drawn := hm.drawn
          have eo : os' = s.os := hm.os
          subst eg ed eo
          rw [← hz] at hS'
          refine wpAny_pure (wpAny_pure ⟨rfl, h', tk', rfl, hS', fun b o hb e => ?_⟩)
          refine hm.heap b o ?_ (Heap.get?_push_of_some _ (Heap.get?_push_of_some _ e))
          rw [zs]
          simp only [List.mem_cons, List.not_mem_nil, or_false, not_or]
          exact ⟨Nat.ne_of_lt hb, Nat.ne_of_lt (Nat.lt_succ_of_lt hb)⟩
      · cases r₂ with
        | error e => exact hr₂
        | ok fl₂ =>
          cases fl₂ with
          | next => exact hr₂.elim
          | brk => exact hr₂.elim
          | cont => exact hr₂.elim
          | ret r =>
            obtain ⟨rfl, h', tk, rfl, hS', hk'⟩ := hr₂
            repeat (any_goals (first | assumption | wp_step))
            exact q _ _ hS' hk'

end
section
variable {X : Cx}
/-- len(set(xs)), xs a list or tuple of distinct texts -/
def tLenTexts (K : PySem.W.Frag) (ta : TE) : TE := fun σ H Q => ta σ H fun x H1 => ∃ (l : Addr) (xs : List Str), x = .ref l ∧ (SqL K H1 l (xs.map V.str) ∨ SqT K H1 l (xs.map V.str)) ∧ xs.Nodup ∧ xs.length ≤ 1000 ∧ Q (.int xs.length) H1
theorem pe_lenTexts {a : Expr} {ta : TE} {p p2 q pos : Pos} (hc : X.calm = true) (hg : Gl X "len") (hm : X.mg "len" = none) (hg2 : Gl X "set") (hm2 : X.mg "set" = none) (ha : PE X a ta)
    (na : starEach [a] X.env = (false, eval a X.env) :: starEach [] X.env := by rfl) : PE X (.Call (.Name "len" p) [.Call (.Name "set" p2) [a] [] q] [] pos) (tLenTexts X.K ta) := by
  refine ⟨fun pins s σ H Q I h => Call_ (ld_blt I hg hm boot_len (PyProof.Rows.callWith_builtin1 (PyProof.Rows.args_cons ?_ rfl) rfl rfl))⟩
  refine Call_ (ld_blt I hg2 hm2 boot_set (PyProof.Rows.callWith_type1 (PyProof.Rows.args_cons (thn (ha.run pins s σ H _ I h) fun v s1 ⟨x, H1, I1, r1, q1⟩ => PyProof.Rows.args_nil ?_) na) na rfl))
  obtain ⟨l, xs, rfl, hq, hN, hz, q1⟩ := q1
  cases r1
  have hb : xs.length + 1 < scanBound := by unfold scanBound; omega
  have fin : ∀ (h' : Heap) (tk : Nat), h'.SetOf (PySem.strKind X.prog X.w) s1.heap.objs.size (fun k => (xs.take xs.length).any (· == k)) xs.length → (∀ b o, b < s1.heap.objs.size → s1.heap.get? b = some o → h'.get? b = some o) →
      wpAny (model X.prog X.w) X.A (spliced (backTo pos (starEach [] X.env))) (fun vs s₂ => wpAny (model X.prog X.w) X.A (call (.builtin "len") (Value.ref s1.heap.objs.size :: vs)) (EP X pins σ Q) X.xe s₂) X.xe { s1 with heap := h', toks := tk } := fun h' tk hS hk => by
    obtain ⟨o, es, ep, t, ho, hex, hd, _, _, _, hf, hn⟩ := hS
    have I2 : Inv X pins σ H1 { s1 with heap := h', toks := tk } := I1.kept fun b o e => hk b o (Heap.lt_size e) e
    exact PyProof.Rows.args_nil (call_len_set ho hex hd hf (by rw [hn] <;> omega) ⟨.int xs.length, H1, I2.tok _, ⟨_, by rw [hn]⟩, q1⟩)
  rcases hq with hq | hq
  · obtain ⟨its, r, pl, _⟩ := I1.list hq
    exact set_of_list (I1.ok.hd hc) pl.isList (by simpa using strsAre_of r) hN hb fin
  · obtain ⟨its, r, pl, _⟩ := I1.tuple hq
    exact set_of_tuple (I1.ok.hd hc) pl (by simpa using strsAre_of r) hN hb fin
end
end HG

namespace HG
open PySem PySem.Spec PyProof.Rows L2
/-! ### the text -/
def topS (i : Nat) : Stmt := PySem.Challenge.pw_heightgames_k12_games_told.main.body.getD i (.Pass ⟨0, 0, 0, 0⟩)
abbrev s_wall : Stmt := topS 0
abbrev s_Wrong___init : Stmt := inClass (topS 3) 0
abbrev s_NoChooser___init : Stmt := inClass (topS 4) 0
abbrev s_NoStanding___init : Stmt := inClass (topS 5) 0
abbrev s_NoChange___init : Stmt := inClass (topS 6) 0
abbrev s_is_integer : Stmt := topS 11
abbrev s_is_name : Stmt := topS 12
abbrev s_are_names : Stmt := topS 13
abbrev s_is_shape : Stmt := topS 14
abbrev s_is_change : Stmt := topS 15
abbrev s_sorted_ways : Stmt := topS 17
abbrev s_standings_of : Stmt := topS 18
abbrev s_put : Stmt := topS 19
abbrev s_is_one_of : Stmt := topS 20
abbrev s_are_integers : Stmt := topS 21
abbrev s_is_table : Stmt := topS 22
abbrev s_Game___init : Stmt := inClass (topS 24) 0
abbrev s_Game___eq : Stmt := inClass (topS 24) 1
abbrev s_Game___len : Stmt := inClass (topS 24) 2
abbrev s_Game___contains : Stmt := inClass (topS 24) 3
abbrev s_Game___iter : Stmt := inClass (topS 24) 4
abbrev s_Game_choosers : Stmt := inClass (topS 24) 5
abbrev s_Game_ways : Stmt := inClass (topS 24) 6
abbrev s_Game_shape : Stmt := inClass (topS 24) 7
abbrev s_Game_standings : Stmt := inClass (topS 24) 8
abbrev s_Game_gain : Stmt := inClass (topS 24) 9
abbrev s_Game_gains : Stmt := inClass (topS 24) 10
abbrev s_Game_goal : Stmt := inClass (topS 24) 11
abbrev s_Game_own : Stmt := inClass (topS 24) 12
abbrev s_Game_changes : Stmt := inClass (topS 24) 13
abbrev s_Game_with_gains : Stmt := inClass (topS 24) 14
abbrev s_Game_plus : Stmt := inClass (topS 24) 15
abbrev s_Game_times : Stmt := inClass (topS 24) 16
abbrev s_Game_with_extra : Stmt := inClass (topS 24) 17
abbrev s_Game_kept : Stmt := inClass (topS 24) 18
abbrev s_Game_has_chooser : Stmt := inClass (topS 24) 19
abbrev s_Game_has_line : Stmt := inClass (topS 24) 20
abbrev s_Game_can_do : Stmt := inClass (topS 24) 21
abbrev s_Game_can_keep : Stmt := inClass (topS 24) 22
abbrev s_Game_seat : Stmt := inClass (topS 24) 23
abbrev s_Game_check_chooser : Stmt := inClass (topS 24) 24
abbrev s_Game_check_standing : Stmt := inClass (topS 24) 25
abbrev s_law_bag : Stmt := topS 26
abbrev s_law_take : Stmt := topS 27
abbrev s_law_one : Stmt := topS 28
abbrev s_law_mixed : Stmt := topS 29
abbrev s_law_names : Stmt := topS 30
abbrev s_law_sizes : Stmt := topS 31
abbrev s_law_product : Stmt := topS 32
abbrev s_law_shape : Stmt := topS 33
abbrev s_law_wider : Stmt := topS 34
abbrev s_law_standings : Stmt := topS 35
abbrev s_law_number : Stmt := topS 36
abbrev s_law_gains : Stmt := topS 37
abbrev s_law_handed : Stmt := topS 38
abbrev s_law_emptied : Stmt := topS 39
abbrev s_law_near : Stmt := topS 40
abbrev s_law_shape_right : Stmt := topS 41
abbrev s_law_standings_right : Stmt := topS 42
abbrev s_law_changes_right : Stmt := topS 43
abbrev s_law : Stmt := topS 44
end HG

namespace HG
open PySem PySem.Spec PyProof.Rows L2
open C8 (pss_cut tCut)
/-! ### values of any kind, as isinstance sees them -/
inductive Tg | non | bl | int | str | lst | tup | dct | ins
  deriving DecidableEq
def Tg.isa : Tg → String → Bool
  | .bl, T => T == "bool" || T == "int"
  | .int, T => T == "int"
  | .str, T => T == "str"
  | .lst, T => T == "list"
  | .tup, T => T == "tuple"
  | .dct, T => T == "dict"
  | _, _ => false
abbrev six : List String := ["str", "int", "bool", "list", "tuple", "dict"]
structure AnyV (K : PySem.W.Frag) (H : Hp) (x : V) (t : Tg) : Prop where
  ty : ∃ ty, TyX K H x ty ∧ ∀ T ∈ six, PySem.W.kitOne K ty (.type T) = some (t.isa T)
  st : t = .str → ∃ z, x = .str z ∧ z.length ≤ sizeLine
  ns : t ≠ .str → ∀ z, x ≠ .str z
theorem six_of {K : PySem.W.Frag} {ty : Value} {t : Tg} (h1 : PySem.W.kitOne K ty (.type "str") = some (t.isa "str")) (h2 : PySem.W.kitOne K ty (.type "int") = some (t.isa "int")) (h3 : PySem.W.kitOne K ty (.type "bool") = some (t.isa "bool"))
    (h4 : PySem.W.kitOne K ty (.type "list") = some (t.isa "list")) (h5 : PySem.W.kitOne K ty (.type "tuple") = some (t.isa "tuple")) (h6 : PySem.W.kitOne K ty (.type "dict") = some (t.isa "dict")) : ∀ T ∈ six, PySem.W.kitOne K ty (.type T) = some (t.isa T) := by
  intro T hT
  simp only [List.mem_cons, List.not_mem_nil, or_false] at hT
  rcases hT with rfl | rfl | rfl | rfl | rfl | rfl <;> assumption
theorem six_ty {K : PySem.W.Frag} {a : String} {t : Tg} (h : (six.all fun T => decide (kitB a T = some (t.isa T))) = true) : ∀ T ∈ six, PySem.W.kitOne K (.type a) (.type T) = some (t.isa T) := by
  intro T hT
  exact kit_ty (of_decide_eq_true (List.all_eq_true.mp h T hT))
section
variable {K : PySem.W.Frag} {H : Hp}
theorem AnyV.non : AnyV K H .non .non := ⟨⟨_, .base .non, six_ty (by decide +kernel)⟩, (fun z => nomatch z), (fun _ z e => nomatch e)⟩
theorem AnyV.bl (b : Bool) : AnyV K H (.bl b) .bl := ⟨⟨_, .base (.bl b), six_ty (by decide +kernel)⟩, (fun z => nomatch z), (fun _ z e => nomatch e)⟩
theorem AnyV.int (i : Int) : AnyV K H (.int i) .int := ⟨⟨_, .base (.int i), six_ty (by decide +kernel)⟩, (fun z => nomatch z), (fun _ z e => nomatch e)⟩
theorem AnyV.str (z : Str) (h : z.length ≤ sizeLine) : AnyV K H (.str z) .str := ⟨⟨_, .base (.str z), six_ty (by decide +kernel)⟩, fun _ => ⟨z, rfl, h⟩, fun n => (n rfl).elim⟩
theorem AnyV.lst {a : Addr} {xs : List V} (h : H a = some (.lst xs)) : AnyV K H (.ref a) .lst := ⟨⟨_, .base (.lst h), six_ty (by decide +kernel)⟩, (fun z => nomatch z), (fun _ z e => nomatch e)⟩
theorem AnyV.tup {a : Addr} {xs : List V} (h : H a = some (.tup xs)) : AnyV K H (.ref a) .tup := ⟨⟨_, .base (.tup h), six_ty (by decide +kernel)⟩, (fun z => nomatch z), (fun _ z e => nomatch e)⟩
theorem AnyV.dK {a : Addr} {xs : List (Key × V)} (h : H a = some (.dK xs)) : AnyV K H (.ref a) .dct := ⟨⟨_, .base (.dK h), six_ty (by decide +kernel)⟩, (fun z => nomatch z), (fun _ z e => nomatch e)⟩
theorem AnyV.dT {a : Addr} {xs : List (List Key × V)} (h : H a = some (.dT xs)) : AnyV K H (.ref a) .dct := ⟨⟨_, .base (.dT h), six_ty (by decide +kernel)⟩, (fun z => nomatch z), (fun _ z e => nomatch e)⟩
theorem AnyV.same {H' : Hp} {x : V} {t : Tg} (h : AnyV K H x t) (s : Same H H') : AnyV K H' x t := by
  obtain ⟨⟨ty, hty, q⟩, h1, h2⟩ := h
  refine ⟨⟨ty, ?_, q⟩, h1, h2⟩
  cases hty with
  | base b =>
    refine .base ?_
    cases b with
    | non => exact .non
    | bl z => exact .bl z
    | int z => exact .int z
    | str z => exact .str z
    | flt z => exact .flt z
    | lst e => exact .lst (s _ _ e)
    | frz e => exact .frz (s _ _ e)
    | tup e => exact .tup (s _ _ e)
    | dK e => exact .dK (s _ _ e)
    | dT e => exact .dT (s _ _ e)
    | ins e c a n t m => exact .ins (s _ _ e) c a n t m
  | byt b => exact .byt b
  | set e => exact .set (s _ _ e)
  | kList e c => exact .kList e c
  | kTuple e c => exact .kTuple e c
  | kDict e c => exact .kDict e c
  | fTuple e => exact .fTuple (s _ _ e)
  | fDict e => exact .fDict (s _ _ e)
end
/-- a list or a tuple, of these -/
inductive SeqV (K : PySem.W.Frag) (H : Hp) : V → List V → Prop
  | lst {a : Addr} {xs : List V} (h : SqL K H a xs) (t : AnyV K H (.ref a) .lst) : SeqV K H (.ref a) xs
  | tup {a : Addr} {xs : List V} (h : SqT K H a xs) (t : AnyV K H (.ref a) .tup) : SeqV K H (.ref a) xs
theorem same_sqt {K : PySem.W.Frag} {H H' : Hp} {a : Addr} {xs : List V} (e : Same H H') (h : SqT K H a xs) : SqT K H' a xs := by
  rcases h with (h | ⟨o, h⟩) | h
  · exact .inl (.inl (e _ _ h))
  · exact .inl (.inr ⟨o, e _ _ h⟩)
  · exact .inr h
theorem SeqV.same {K : PySem.W.Frag} {H H' : Hp} {x : V} {xs : List V} (h : SeqV K H x xs) (s : Same H H') : SeqV K H' x xs := by
  cases h with
  | lst h t => exact .lst (s.seq h) (t.same s)
  | tup h t => exact .tup (same_sqt s h) (t.same s)
/-- isinstance(x, (list, tuple)) -/
theorem kit_lt {K : PySem.W.Frag} {ty : Value} {t : Tg} (q : ∀ T ∈ six, PySem.W.kitOne K ty (.type T) = some (t.isa T)) : PySem.W.kitAny K ty [.type "list", .type "tuple"] = some (t.isa "list" || t.isa "tuple") := by
  have h1 := q "list" (by decide)
  have h2 := q "tuple" (by decide)
  unfold PySem.W.kitAny
  rw [h1]
  cases e : t.isa "list" with
  | true => rfl
  | false =>
    show PySem.W.kitAny K ty [.type "tuple"] = _
    unfold PySem.W.kitAny
    rw [h2]
    cases e2 : t.isa "tuple" <;> rfl
theorem kit_tl {K : PySem.W.Frag} {ty : Value} {t : Tg} (q : ∀ T ∈ six, PySem.W.kitOne K ty (.type T) = some (t.isa T)) : PySem.W.kitAny K ty [.type "tuple", .type "list"] = some (t.isa "tuple" || t.isa "list") := by
  have h1 := q "list" (by decide)
  have h2 := q "tuple" (by decide)
  unfold PySem.W.kitAny
  rw [h2]
  cases e : t.isa "tuple" with
  | true => rfl
  | false =>
    show PySem.W.kitAny K ty [.type "list"] = _
    unfold PySem.W.kitAny
    rw [h1]
    cases e2 : t.isa "list" <;> rfl
theorem pi_or {X : Cx} {tg iter : Expr} {w1 w2 : TI} (h1 : PI X tg iter w1) (h2 : PI X tg iter w2) : PI X tg iter (fun σ H R => w1 σ H R ∨ w2 σ H R) :=
  ⟨fun pins s σ H R I h => h.elim (fun q => h1.run pins s σ H R I q) (fun q => h2.run pins s σ H R I q)⟩
/-! ### kinds -/
def isNm (z : Str) : Bool := decide (z.length ≤ 8) && (Txt.isascii z && (Txt.isalpha z && Txt.islower z))
def nameV : V → Bool
  | .str z => isNm z
  | _ => false
theorem nameV_no {x : V} (h : ∀ z, x ≠ .str z) : nameV x = false := by
  cases x <;> first | rfl | exact absurd rfl (h _)
section
variable {X : Cx}
/-- isinstance(x, T), T one of the six; isinstance(x, (list, tuple)) -/
def rIsi6 (K : PySem.W.Frag) : List V → Hp → VK → Prop := fun xs H Q => ∃ (x : V) (t : Tg) (n : String), xs = [x, .ty n] ∧ AnyV K H x t ∧ n ∈ six ∧ Q (.bl (t.isa n)) H
theorem call_isi6 : CallR X (.builtin "isinstance") (rIsi6 X.K) := by
  intro pins s σ H xs us Q I r h
  obtain ⟨x, t, n, rfl, ⟨⟨ty, hty, k⟩, _, _⟩, hn, q⟩ := h
  exact call_isi pins s σ H _ us Q I r ⟨x, .ty n, ty, _, _, rfl, .ty n, hty, k n hn, q⟩
def rIsiLT (K : PySem.W.Frag) : List V → Hp → VK → Prop := fun xs H Q => ∃ (x : V) (t : Tg) (p : Addr) (a b : String), xs = [x, .ref p] ∧ H p = some (.tup [.ty a, .ty b]) ∧ (a = "list" ∧ b = "tuple" ∨ a = "tuple" ∧ b = "list") ∧ AnyV K H x t ∧ Q (.bl (t.isa "list" || t.isa "tuple")) H
theorem call_isiLT : CallR X (.builtin "isinstance") (rIsiLT X.K) := by
  intro pins s σ H xs us Q I r h
  obtain ⟨x, t, p, a, b, rfl, hp, hab, ⟨⟨ty, hty, k⟩, _, _⟩, q⟩ := h
  rcases hab with ⟨rfl, rfl⟩ | ⟨rfl, rfl⟩
  · exact call_isiT pins s σ H _ us Q I r ⟨x, p, _, ty, _, _, rfl, hp, .cons (.ty _) (.cons (.ty _) .nil), hty, kit_lt k, q⟩
  · rw [Bool.or_comm] at q
    exact call_isiT pins s σ H _ us Q I r ⟨x, p, _, ty, _, _, rfl, hp, .cons (.ty _) (.cons (.ty _) .nil), hty, kit_tl k, q⟩
end
def spIsName (K : PySem.W.Frag) : Sp := fun vs H Q _ => ∃ x t, vs = [x] ∧ AnyV K H x t ∧ Q (.bl (nameV x)) H
structure KT (K : PySem.W.Frag) (mg : Str → Option Value) : Prop where
  m_isinstance : mg "isinstance" = none
  m_len : mg "len" = none
  m_all : mg "all" = none
  m_set : mg "set" = none
  m_list : mg "list" = none
  m_tuple : mg "tuple" = none
  m_dict : mg "dict" = none
  m_str : mg "str" = none
  m_int : mg "int" = none
  m_bool : mg "bool" = none
  g_letters : ∃ t, mg "MOST_LETTERS" = some (.int 8 t)
  g_names : ∃ t, mg "MOST_NAMES" = some (.int 4 t)
  g_standings : ∃ t, mg "MOST_STANDINGS" = some (.int 81 t)
structure Df (K : PySem.W.Frag) (mg : Str → Option Value) (x : Str) (st : Stmt) (f : Addr) (fd : FuncData) : Prop where
  g : mg x = some (.ref f)
  F : Fun K x x st f fd
section
variable {P : Program} {w : World} {K : PySem.W.Frag} {mg : Str → Option Value} {base : Heap}
theorem ok_is_name {f : Addr} {fd : FuncData} (D : Df K mg "is_name" s_is_name f fd) (T : KT K mg) : FnOk P w K mg base CX0 1 f fd ["thing"] (spIsName K) := by
  have S : FnScope ["thing"] ["thing"] (defScope s_is_name) := ⟨rfl, rfl, rfl, by decide +kernel, rfl, by decide +kernel, by decide +kernel⟩
  refine D.F.ok S (fun vs H Q E h => ?_) (fun cdv A outer s H vs Q E hr h => ?_)
  · obtain ⟨x, t, rfl, _⟩ := h
    rfl
  · obtain ⟨x, t, rfl, hx, q⟩ := h
    obtain ⟨tk, gL⟩ := T.g_letters
    refine ⟨_, pss_cons (ps_if (PW.pt (pw_or (pt_not (pt_val (pe_callB call_isi6 (by rfl) T.m_isinstance (by decide +kernel) (pa_cons (pv 0) (pa_cons (pe_bltn (v := .ty "str") (by rfl) T.m_str (by decide +kernel) rfl) pa_nil)))))
        (pw_or1 (pt_cmpR op_gt (pe_callB call_len_str (by rfl) T.m_len PySem.boot_len (pa_cons (pv 0) pa_nil)) (pe_glob (v := .int 8) (by rfl) gL ⟨_, rfl⟩) (nomark _))))) (pss_one (ps_ret pe_bl)) pss_nil)
      (pss_one (ps_ret (pe_and (pe_m0 PySem.F.slot_str_isascii PySem.F.type_str_isascii mt_isascii (pv 0)) (pe_and (pe_m0 PySem.F.slot_str_isalpha PySem.F.type_str_isalpha mt_isalpha (pv 0)) (pe_one (pe_m0 PySem.F.slot_str_islower PySem.F.type_str_islower mt_islower (pv 0))))))), ?_⟩
    refine ⟨_, rfl, x, t, _, rfl, hx, by decide, _, rfl, ?_⟩
    by_cases ht : t = .str
    · subst ht
      obtain ⟨z, rfl, hz⟩ := hx.st rfl
      refine iteF ⟨_, rfl, z, rfl, hz, _, _, rfl, rfl, _, rfl, ite2 (fun h8 => ?_) (fun h8 => ?_)⟩
      · have h8' := of_decide_eq_true h8
        have e : nameV (.str z) = false := by
          show isNm z = false
          unfold isNm
          rw [decide_eq_false (by omega)]
          rfl
        rw [e] at q
        exact q
      · have h8' : ¬ (8 : Int) < z.length := fun z => h8 (decide_eq_true z)
        have e : nameV (.str z) = (Txt.isascii z && (Txt.isalpha z && Txt.islower z)) := by
          show isNm z = _
          unfold isNm
          rw [decide_eq_true (by omega)]
          rfl
        rw [e] at q
        refine ⟨_, rfl, ⟨_, rfl⟩, z, rfl, rfl, trivial, _, rfl, ?_⟩
        cases e1 : Txt.isascii z with
        | false =>
          rw [e1] at q
          exact q
        | true =>
          rw [e1] at q
          refine ⟨_, rfl, ⟨_, rfl⟩, z, rfl, rfl, trivial, _, rfl, ?_⟩
          cases e2 : Txt.isalpha z with
          | false =>
            rw [e2] at q
            exact q
          | true =>
            rw [e2] at q
            exact ⟨_, rfl, ⟨_, rfl⟩, z, rfl, rfl, trivial, q⟩
    · have hb : t.isa "str" = false := by cases t <;> first | rfl | exact absurd rfl ht
      rw [hb]
      refine iteT ?_
      rw [nameV_no (hx.ns ht)] at q
      exact q
end
end HG

namespace HG
open PySem PySem.Spec PyProof.Rows L2
open C8 (pss_cut tCut)
theorem same_upd {H : Hp} {p : Addr} {o : HO} (h : H p = none) : Same H (upd H p o) := fun b x e => by
  rw [upd_ne (ne_of_none e h)]
  exact e
def namesV (xs : List V) : Bool := (decide (1 ≤ xs.length) && decide (xs.length ≤ 4)) && xs.all nameV
def spAreNames (K : PySem.W.Frag) : Sp := fun vs H Q _ => ∃ x, vs = [x] ∧
  ((∃ xs, SeqV K H x xs ∧ (1 ≤ xs.length → xs.length ≤ 4 → ∀ y ∈ xs, ∃ t, AnyV K H y t) ∧ ∀ H', Same H H' → Q (.bl (namesV xs)) H') ∨
   (∃ t, AnyV K H x t ∧ t ≠ .lst ∧ t ≠ .tup ∧ ∀ H', Same H H' → Q (.bl false) H'))
section
variable {P : Program} {w : World} {K : PySem.W.Frag} {mg : Str → Option Value} {base : Heap}
theorem SeqV.any {H : Hp} {x : V} {xs : List V} (h : SeqV K H x xs) : ∃ t, AnyV K H x t ∧ (t.isa "list" || t.isa "tuple") = true := by
  cases h with
  | lst h t => exact ⟨_, t, rfl⟩
  | tup h t => exact ⟨_, t, rfl⟩
theorem SeqV.len {H : Hp} {x : V} {xs : List V} (h : SeqV K H x xs) : ∃ p, x = .ref p ∧ (SqL K H p xs ∨ SqT K H p xs) := by
  cases h with
  | lst h t => exact ⟨_, rfl, .inl h⟩
  | tup h t => exact ⟨_, rfl, .inr h⟩
theorem ok_are_names {f fN : Addr} {fd fdN : FuncData} (D : Df K mg "are_names" s_are_names f fd) (N : Df K mg "is_name" s_is_name fN fdN) (bN : Binds K fdN ["thing"] []) (T : KT K mg) : FnOk P w K mg base CX0 2 f fd ["thing"] (spAreNames K) := by
  have S : FnScope ["thing", "item"] ["thing"] (defScope s_are_names) := ⟨rfl, rfl, rfl, by decide +kernel, rfl, by decide +kernel, by decide +kernel⟩
  refine D.F.ok S (fun vs H Q E h => ?_) (fun cdv A outer s H vs Q E hr h => ?_)
  · obtain ⟨x, rfl, _⟩ := h
    rfl
  · obtain ⟨x, rfl, q⟩ := h
    have nd := S.nd
    obtain ⟨tk, gN⟩ := T.g_names
    refine ⟨_, pss_cons (ps_if (PW.pt (pw_or (pt_not (pt_val (pe_callB call_isiLT (by rfl) T.m_isinstance (by decide +kernel) (pa_cons (pv 0) (pa_cons (pe_tup (pa_cons (pe_bltn (v := .ty "list") (by rfl) T.m_list (by decide +kernel) rfl) (pa_cons (pe_bltn (v := .ty "tuple") (by rfl) T.m_tuple (by decide +kernel) rfl) pa_nil))) pa_nil)))))
        (pw_or1 (pt_not (pt_chain op_le op_le pe_int (pe_callB call_len_seq (by rfl) T.m_len PySem.boot_len (pa_cons (pv 0) pa_nil)) (pe_glob (v := .int 4) (by rfl) gN ⟨_, rfl⟩)))))) (pss_one (ps_ret pe_bl)) pss_nil)
      (pss_one (ps_ret (pe_callB (cr_all rfl) (by rfl) T.m_all (by decide +kernel) (pa_cons (pe_lc (own := [("item", 1)]) (g := gName 1) (tt := tYes) rfl nd (pi_or (pi_list (pv 0)) (pi_tup (pv 0))) (blkOk_by (N := ["thing", "item"]) (sc := defScope s_are_names) (by decide +kernel)) (fun _ _ _ _ _ => pg_name (i := 1) nd rfl (Or.inl rfl)) (fun _ _ _ _ _ => pts_nil)
        (fun _ _ _ _ _ => pe_call (ok_is_name N T) hr (by rfl) N.g N.F.kp bN .nil pass0 (pa_cons (pv 1) pa_nil))) pa_nil)))), ?_⟩
    rcases q with ⟨xs, hx, ha, q⟩ | ⟨t, ht, n1, n2, q⟩
    · obtain ⟨t, ht, hb⟩ := hx.any
      obtain ⟨p, rfl, hl⟩ := hx.len
      refine ⟨_, rfl, (by show 2 ≤ sizeLine; decide), fun pt npt => ?_⟩
      have st := same_upd (o := .tup [.ty "list", .ty "tuple"]) npt
      refine ⟨_, t, pt, _, _, rfl, upd_same, .inl ⟨rfl, rfl⟩, ht.same st, _, rfl, ?_⟩
      rw [hb]
      have hl' : SqL K (upd H pt (.tup [.ty "list", .ty "tuple"])) p xs ∨ SqT K (upd H pt (.tup [.ty "list", .ty "tuple"])) p xs := hl.imp st.seq (same_sqt st)
      refine iteF ⟨_, rfl, p, xs, rfl, hl', _, _, rfl, rfl, _, rfl, ?_⟩
      refine ite2 (fun h1 => ?_) (fun h1 => ?_)
      · have h1' := of_decide_eq_true h1
        refine ⟨_, _, rfl, rfl, _, rfl, ite2 (fun h2 => ?_) (fun h2 => ?_)⟩
        · have z : ¬ (xs.length : Int) ≤ 4 := by simpa using h2
          have e : namesV xs = false := by
            unfold namesV
            rw [decide_eq_false (show ¬ xs.length ≤ 4 by omega)]
            simp
          rw [e] at q
          exact q _ st
        · have z : (xs.length : Int) ≤ 4 := by simpa using h2
          have e : namesV xs = (xs.map nameV).all id := by
            unfold namesV
            rw [decide_eq_true (show xs.length ≤ 4 by omega), decide_eq_true (show 1 ≤ xs.length by omega), List.all_map]
            rfl
          rw [e] at q
          have hx' := hx.same st
          have ha' := fun y hy => let ⟨t, h⟩ := ha (by omega) (by omega) y hy; (⟨t, h.same st⟩ : ∃ t, AnyV K (upd H pt (.tup [.ty "list", .ty "tuple"])) y t)
          cases hx' with
          | lst hs _ =>
            refine .inl ⟨_, rfl, p, rfl, ⟨_, hs⟩, fun D hD => ?_⟩
            refine lc_list (K := K) (a := p) (xs := xs) (fun i H' => H' D = some (.lst (((xs.take i).map nameV).map V.bl)) ∧ Same (upd H pt (.tup [.ty "list", .ty "tuple"])) H') ⟨upd_same, same_upd hD⟩ (fun i H' _ ⟨_, sm⟩ => sm.seq hs) ?_ ?_
            · rintro i y H' hi ⟨hz, sm⟩
              obtain ⟨hlt, ey⟩ := List.getElem?_eq_some_iff.mp hi
              obtain ⟨t', hy⟩ := ha' y (ey ▸ List.getElem_mem hlt)
              refine ⟨rfl, _, rfl, y, t', rfl, hy.same sm, _, hz, small1000 (by rw [List.length_map, List.length_map, List.length_take]; omega), ?_, fun b o e => ?_⟩
              · rw [upd_same, List.take_add_one, hi, List.map_append, List.map_append]
                rfl
              · rw [upd_ne (ne_of_none e hD)]
                exact sm _ _ e
            · rintro H' ⟨hz, sm⟩
              rw [List.take_length] at hz
              exact ⟨D, _, rfl, SqL.of hz, q _ (st.trans sm)⟩
          | tup hs _ =>
            refine .inr ⟨_, rfl, p, rfl, ⟨_, hs⟩, fun D hD => ?_⟩
            refine lc_tup (K := K) (a := p) (xs := xs) (fun i H' => H' D = some (.lst (((xs.take i).map nameV).map V.bl)) ∧ Same (upd H pt (.tup [.ty "list", .ty "tuple"])) H') ⟨upd_same, same_upd hD⟩ (fun i H' _ ⟨_, sm⟩ => same_sqt sm hs) ?_ ?_
            · rintro i y H' hi ⟨hz, sm⟩
              obtain ⟨hlt, ey⟩ := List.getElem?_eq_some_iff.mp hi
              obtain ⟨t', hy⟩ := ha' y (ey ▸ List.getElem_mem hlt)
              refine ⟨rfl, _, rfl, y, t', rfl, hy.same sm, _, hz, small1000 (by rw [List.length_map, List.length_map, List.length_take]; omega), ?_, fun b o e => ?_⟩
              · rw [upd_same, List.take_add_one, hi, List.map_append, List.map_append]
                rfl
              · rw [upd_ne (ne_of_none e hD)]
                exact sm _ _ e
            · rintro H' ⟨hz, sm⟩
              rw [List.take_length] at hz
              exact ⟨D, _, rfl, SqL.of hz, q _ (st.trans sm)⟩
      · have z : ¬ 1 ≤ (xs.length : Int) := fun z => h1 (decide_eq_true z)
        have e : namesV xs = false := by
          unfold namesV
          rw [decide_eq_false (show ¬ 1 ≤ xs.length by omega)]
          rfl
        rw [e] at q
        exact ⟨_, rfl, iteT (q _ st)⟩
    · have hb : (t.isa "list" || t.isa "tuple") = false := by cases t <;> first | rfl | exact absurd rfl n1 | exact absurd rfl n2
      refine ⟨_, rfl, (by show 2 ≤ sizeLine; decide), fun pt npt => ?_⟩
      have st := same_upd (o := .tup [.ty "list", .ty "tuple"]) npt
      refine ⟨_, t, pt, _, _, rfl, upd_same, .inl ⟨rfl, rfl⟩, ht.same st, _, rfl, ?_⟩
      rw [hb]
      exact iteT (q _ st)
/-! ### integers -/
def intV : V → Bool
  | .int _ => true
  | _ => false
def spIsInt (K : PySem.W.Frag) : Sp := fun vs H Q _ => ∃ x t, vs = [x] ∧ AnyV K H x t ∧ Q (.bl (t.isa "int" && !t.isa "bool")) H
theorem ok_is_integer {f : Addr} {fd : FuncData} (D : Df K mg "is_integer" s_is_integer f fd) (T : KT K mg) : FnOk P w K mg base CX0 1 f fd ["thing"] (spIsInt K) := by
  have S : FnScope ["thing"] ["thing"] (defScope s_is_integer) := ⟨rfl, rfl, rfl, by decide +kernel, rfl, by decide +kernel, by decide +kernel⟩
  refine D.F.ok S (fun vs H Q E h => ?_) (fun cdv A outer s H vs Q E hr h => ?_)
  · obtain ⟨x, t, rfl, _⟩ := h
    rfl
  · obtain ⟨x, t, rfl, hx, q⟩ := h
    refine ⟨_, pss_one (ps_ret (pe_and (pe_callB call_isi6 (by rfl) T.m_isinstance (by decide +kernel) (pa_cons (pv 0) (pa_cons (pe_bltn (v := .ty "int") (by rfl) T.m_int (by decide +kernel) rfl) pa_nil)))
      (pe_one (pe_not (pe_callB call_isi6 (by rfl) T.m_isinstance (by decide +kernel) (pa_cons (pv 0) (pa_cons (pe_bltn (v := .ty "bool") (by rfl) T.m_bool (by decide +kernel) rfl) pa_nil))))))), ?_⟩
    refine ⟨_, rfl, x, t, _, rfl, hx, by decide, _, rfl, ?_⟩
    cases e : t.isa "int" with
    | false =>
      rw [e] at q
      exact q
    | true =>
      rw [e] at q
      exact ⟨_, rfl, x, t, _, rfl, hx, by decide, _, rfl, q⟩
end
end HG

namespace HG
open PySem PySem.Spec PyProof.Rows L2
open C8 (pss_cut tCut)
/-! ### tuples, by what stands behind -/
section
variable {X : Cx}
def rCatB : R2 := fun x y H Q => ∃ a b xs ys, x = .ref a ∧ y = .ref b ∧ H a = some (.tup xs) ∧ H b = some (.tup ys) ∧ xs.length + ys.length ≤ 1000 ∧ ∀ H' p, Same H H' → H' p = some (.tup (xs ++ ys)) → Q (.ref p) H'
theorem op_catB : OpR X (binaryOp .Add) rCatB := by
  intro pins s σ H x y v u Q I rx ry h
  obtain ⟨a, b, xs, ys, rfl, rfl, ha, hb, hz, q⟩ := h
  refine op_catA pins s σ H _ _ v u Q I rx ry ⟨a, b, xs, ys, rfl, rfl, SqT.of ha, SqT.of hb, Nat.le_of_lt (small1000 hz), fun e => ?_, fun _ e => ?_, fun _ _ p hp => ?_⟩
  · subst e
    exact q H b (Same.refl H) hb
  · subst e
    rw [List.append_nil] at q
    exact q H a (Same.refl H) ha
  · exact q _ p (same_upd hp) upd_same
def rSlB : V → Option Int → Option Int → Hp → VK → Prop := fun x lo hi H Q => ∃ a xs, x = .ref a ∧ H a = some (.tup xs) ∧ ∀ H' p, Same H H' → H' p = some (.tup (cutV xs lo hi)) → Q (.ref p) H'
theorem sl_tupB : SlR X rSlB := by
  intro pins s σ H x v vl vu lo hi sl Q I rx hs pl pu h
  obtain ⟨a, xs, rfl, ha, q⟩ := h
  refine sl_tupA pins s σ H _ v vl vu lo hi sl Q I rx hs pl pu ⟨a, xs, rfl, SqT.of ha, fun ⟨e1, e2⟩ => ?_, fun _ p hp => q _ p (same_upd hp) upd_same⟩
  refine q H a (Same.refl H) ?_
  unfold cutV
  rw [e1, e2, List.drop_zero, Nat.sub_zero, List.take_length]
  exact ha
theorem cut_to (xs : List V) (j : Nat) : cutV xs none (some (j : Int)) = xs.take j := by
  unfold cutV
  rw [show HT.sIx xs.length 0 none = 0 from rfl, HT.sIx_nat, List.drop_zero, Nat.sub_zero]
  by_cases h : j ≤ xs.length
  · rw [Nat.min_eq_left h]
  · rw [Nat.min_eq_right (by omega), List.take_of_length_le (Nat.le_refl _), List.take_of_length_le (by omega)]
theorem cut_from (xs : List V) (j : Nat) : cutV xs (some (j : Int)) none = xs.drop j := by
  unfold cutV
  rw [show HT.sIx xs.length xs.length none = xs.length from rfl, HT.sIx_nat]
  by_cases h : j ≤ xs.length
  · rw [Nat.min_eq_left h, List.take_of_length_le (by rw [List.length_drop]; omega)]
  · rw [Nat.min_eq_right (by omega), Nat.sub_self, List.take_zero, List.drop_eq_nil_of_le (by omega)]
end
def spPut : Sp := fun vs H Q _ => ∃ (p : Addr) (j : Nat) (x : V) (xs : List V), vs = [.ref p, .int (j : Int), x] ∧ H p = some (.tup xs) ∧ j < xs.length ∧ xs.length ≤ 100 ∧ ∀ H' q, Same H H' → H' q = some (.tup (xs.set j x)) → Q (.ref q) H'
def spAreInts (K : PySem.W.Frag) : Sp := fun vs H Q _ => ∃ x n, vs = [x, .int n] ∧
  ((∃ xs, SeqV K H x xs ∧ xs.length < sizeLine ∧ (∀ y ∈ xs, ∃ t, AnyV K H y t ∧ (t.isa "int" && !t.isa "bool") = intV y) ∧ ∀ H', Same H H' → Q (.bl (decide ((xs.length : Int) = n) && xs.all intV)) H') ∨
   (∃ t, AnyV K H x t ∧ t ≠ .lst ∧ t ≠ .tup ∧ ∀ H', Same H H' → Q (.bl false) H'))
/-- a tuple of names as a key -/
abbrev kS (st : List Str) : List Key := st.map Sum.inr
theorem kS_v (st : List Str) : (kS st).map kV = st.map V.str := by
  unfold kS
  rw [List.map_map]
  rfl
section
variable {P : Program} {w : World} {K : PySem.W.Frag} {mg : Str → Option Value} {base : Heap}
theorem ok_put {f : Addr} {fd : FuncData} (D : Df K mg "put" s_put f fd) : FnOk P w K mg base CX0 1 f fd ["items", "at", "item"] spPut := by
  have S : FnScope ["items", "at", "item"] ["items", "at", "item"] (defScope s_put) := ⟨rfl, rfl, rfl, by decide +kernel, rfl, by decide +kernel, by decide +kernel⟩
  refine D.F.ok S (fun vs H Q E h => ?_) (fun cdv A outer s H vs Q E hr h => ?_)
  · obtain ⟨p, j, x, xs, rfl, _⟩ := h
    rfl
  · obtain ⟨p, j, x, xs, rfl, hp, hj, hz, q⟩ := h
    refine ⟨_, pss_one (ps_ret (pe_op op_catB (pe_op op_catB (pe_slice sl_tupB (pv 0) po_none (po_some (pv 1))) (pe_tup (pa_cons (pv 2) pa_nil))) (pe_slice sl_tupB (pv 0) (po_some (pe_op op_add (pv 1) pe_int)) po_none))), ?_⟩
    refine ⟨_, rfl, .int j, rfl, (j : Int), rfl, p, xs, rfl, hp, fun H1 p1 s1 h1 => ?_⟩
    refine ⟨_, rfl, (by show 1 ≤ sizeLine; decide), fun p2 n2 => ?_⟩
    have s2 := same_upd (o := .tup [x]) n2
    rw [cut_to] at h1
    refine ⟨p1, p2, _, _, rfl, rfl, s2 _ _ h1, upd_same, (by rw [List.length_take]; show min j xs.length + 1 ≤ 1000; omega), fun H3 p3 s3 h3 => ?_⟩
    have hp3 := s3 _ _ (s2 _ _ (s1 _ _ hp))
    refine ⟨_, rfl, _, rfl, _, _, rfl, rfl, ((j + 1 : Nat) : Int), rfl, p, xs, rfl, hp3, fun H4 p4 s4 h4 => ?_⟩
    rw [cut_from] at h4
    refine ⟨p3, p4, _, _, rfl, rfl, s4 _ _ h3, h4, (by rw [List.length_append, List.length_take, List.length_drop]; show min j xs.length + 1 + (xs.length - (j + 1)) ≤ 1000; omega), fun H5 p5 s5 h5 => ?_⟩
    refine q H5 p5 (s1.trans (s2.trans (s3.trans (s4.trans s5)))) ?_
    rw [h5, List.set_eq_take_append_cons_drop, if_pos hj, List.append_assoc]
    rfl
theorem ok_are_integers {f fN : Addr} {fd fdN : FuncData} (D : Df K mg "are_integers" s_are_integers f fd) (N : Df K mg "is_integer" s_is_integer fN fdN) (bN : Binds K fdN ["thing"] []) (T : KT K mg) : FnOk P w K mg base CX0 2 f fd ["thing", "many"] (spAreInts K) := by
  have S : FnScope ["thing", "many", "item"] ["thing", "many"] (defScope s_are_integers) := ⟨rfl, rfl, rfl, by decide +kernel, rfl, by decide +kernel, by decide +kernel⟩
  refine D.F.ok S (fun vs H Q E h => ?_) (fun cdv A outer s H vs Q E hr h => ?_)
  · obtain ⟨x, n, rfl, _⟩ := h
    rfl
  · obtain ⟨x, n, rfl, q⟩ := h
    have nd := S.nd
    refine ⟨_, pss_cons (ps_if (PW.pt (pw_or (pt_not (pt_val (pe_callB call_isiLT (by rfl) T.m_isinstance (by decide +kernel) (pa_cons (pv 0) (pa_cons (pe_tup (pa_cons (pe_bltn (v := .ty "list") (by rfl) T.m_list (by decide +kernel) rfl) (pa_cons (pe_bltn (v := .ty "tuple") (by rfl) T.m_tuple (by decide +kernel) rfl) pa_nil))) pa_nil)))))
        (pw_or1 (pt_cmpR op_ne (pe_callB call_len_seq (by rfl) T.m_len PySem.boot_len (pa_cons (pv 0) pa_nil)) (pv 1) (nomark _))))) (pss_one (ps_ret pe_bl)) pss_nil)
      (pss_one (ps_ret (pe_callB (cr_all rfl) (by rfl) T.m_all (by decide +kernel) (pa_cons (pe_lc (own := [("item", 2)]) (g := gName 2) (tt := tYes) rfl nd (pi_or (pi_list (pv 0)) (pi_tup (pv 0))) (blkOk_by (N := ["thing", "many", "item"]) (sc := defScope s_are_integers) (by decide +kernel)) (fun _ _ _ _ _ => pg_name (i := 2) nd rfl (Or.inl rfl)) (fun _ _ _ _ _ => pts_nil)
        (fun _ _ _ _ _ => pe_call (ok_is_integer N T) (hr.mono (by decide)) (by rfl) N.g N.F.kp bN .nil pass0 (pa_cons (pv 2) pa_nil))) pa_nil)))), ?_⟩
    rcases q with ⟨xs, hx, hsz, ha, q⟩ | ⟨t, ht, n1, n2, q⟩
    · obtain ⟨t, ht, hb⟩ := hx.any
      obtain ⟨p, rfl, hl⟩ := hx.len
      refine ⟨_, rfl, (by show 2 ≤ sizeLine; decide), fun pt npt => ?_⟩
      have st := same_upd (o := .tup [.ty "list", .ty "tuple"]) npt
      refine ⟨_, t, pt, _, _, rfl, upd_same, .inl ⟨rfl, rfl⟩, ht.same st, _, rfl, ?_⟩
      rw [hb]
      have hl' : SqL K (upd H pt (.tup [.ty "list", .ty "tuple"])) p xs ∨ SqT K (upd H pt (.tup [.ty "list", .ty "tuple"])) p xs := hl.imp st.seq (same_sqt st)
      refine iteF ⟨_, rfl, p, xs, rfl, hl', _, rfl, rfl, _, rfl, ?_⟩
      by_cases hn : (xs.length : Int) = n
      · have e0 : (!decide (V.int (xs.length : Int) = V.int n)) = false := by rw [decide_eq_true (by rw [hn])]; rfl
        rw [e0]
        refine iteF ?_
        have e : (decide ((xs.length : Int) = n) && xs.all intV) = (xs.map intV).all id := by
          rw [decide_eq_true hn, List.all_map]
          rfl
        rw [e] at q
        have hx' := hx.same st
        have ha' := fun y hy => let ⟨t, h, e⟩ := ha y hy; (⟨t, h.same st, e⟩ : ∃ t, AnyV K (upd H pt (.tup [.ty "list", .ty "tuple"])) y t ∧ (t.isa "int" && !t.isa "bool") = intV y)
        cases hx' with
        | lst hs _ =>
          refine .inl ⟨_, rfl, p, rfl, ⟨_, hs⟩, fun D hD => ?_⟩
          refine lc_list (K := K) (a := p) (xs := xs) (fun i H' => H' D = some (.lst (((xs.take i).map intV).map V.bl)) ∧ Same (upd H pt (.tup [.ty "list", .ty "tuple"])) H') ⟨upd_same, same_upd hD⟩ (fun i H' _ ⟨_, sm⟩ => sm.seq hs) ?_ ?_
          · rintro i y H' hi ⟨hz, sm⟩
            obtain ⟨hlt, ey⟩ := List.getElem?_eq_some_iff.mp hi
            obtain ⟨t', hy, ei⟩ := ha' y (ey ▸ List.getElem_mem hlt)
            refine ⟨rfl, _, rfl, y, t', rfl, hy.same sm, _, hz, ?_, ?_, fun b o e => ?_⟩
            · rw [List.length_map, List.length_map, List.length_take]
              exact Nat.lt_of_le_of_lt (Nat.min_le_right _ _) hsz
            · rw [upd_same, List.take_add_one, hi, List.map_append, List.map_append, ei]
              rfl
            · rw [upd_ne (ne_of_none e hD)]
              exact sm _ _ e
          · rintro H' ⟨hz, sm⟩
            rw [List.take_length] at hz
            exact ⟨D, _, rfl, SqL.of hz, q _ (st.trans sm)⟩
        | tup hs _ =>
          refine .inr ⟨_, rfl, p, rfl, ⟨_, hs⟩, fun D hD => ?_⟩
          refine lc_tup (K := K) (a := p) (xs := xs) (fun i H' => H' D = some (.lst (((xs.take i).map intV).map V.bl)) ∧ Same (upd H pt (.tup [.ty "list", .ty "tuple"])) H') ⟨upd_same, same_upd hD⟩ (fun i H' _ ⟨_, sm⟩ => same_sqt sm hs) ?_ ?_
          · rintro i y H' hi ⟨hz, sm⟩
            obtain ⟨hlt, ey⟩ := List.getElem?_eq_some_iff.mp hi
            obtain ⟨t', hy, ei⟩ := ha' y (ey ▸ List.getElem_mem hlt)
            refine ⟨rfl, _, rfl, y, t', rfl, hy.same sm, _, hz, ?_, ?_, fun b o e => ?_⟩
            · rw [List.length_map, List.length_map, List.length_take]
              exact Nat.lt_of_le_of_lt (Nat.min_le_right _ _) hsz
            · rw [upd_same, List.take_add_one, hi, List.map_append, List.map_append, ei]
              rfl
            · rw [upd_ne (ne_of_none e hD)]
              exact sm _ _ e
          · rintro H' ⟨hz, sm⟩
            rw [List.take_length] at hz
            exact ⟨D, _, rfl, SqL.of hz, q _ (st.trans sm)⟩
      · have e0 : (!decide (V.int (xs.length : Int) = V.int n)) = true := by rw [decide_eq_false (fun z => hn (V.int.inj z))]; rfl
        rw [e0]
        rw [decide_eq_false hn] at q
        exact iteT (q _ st)
    · have hb : (t.isa "list" || t.isa "tuple") = false := by cases t <;> first | rfl | exact absurd rfl n1 | exact absurd rfl n2
      refine ⟨_, rfl, (by show 2 ≤ sizeLine; decide), fun pt npt => ?_⟩
      have st := same_upd (o := .tup [.ty "list", .ty "tuple"]) npt
      refine ⟨_, t, pt, _, _, rfl, upd_same, .inl ⟨rfl, rfl⟩, ht.same st, _, rfl, ?_⟩
      rw [hb]
      exact iteT (q _ st)
end
end HG

namespace HG
open PySem PySem.Spec PyProof.Rows L2
open C8 (pss_cut tCut)
/-! ### shapes as dicts -/
abbrev Way := Str × List Str
def WayAt (H : Hp) (v : V) (ws : List Str) : Prop := ∃ a, v = .ref a ∧ (H a = some (.lst (ws.map V.str)) ∨ H a = some (.tup (ws.map V.str)))
def KvW (H : Hp) (q : Way) (kv : Key × V) : Prop := kv.1 = Sum.inr q.1 ∧ WayAt H kv.2 q.2
def ShAt (H : Hp) (d : Addr) (W : List Way) : Prop := ∃ kvs, H d = some (.dK kvs) ∧ Paired (KvW H) W kvs
def wprod (W : List Way) : Int := W.foldl (fun m q => m * (q.2.length : Int)) 1
structure WOk (W : List Way) : Prop where
  nd : (W.map (·.1)).Nodup
  n1 : 1 ≤ W.length
  n4 : W.length ≤ 4
  nm : ∀ q ∈ W, isNm q.1 = true
  wd : ∀ q ∈ W, q.2.Nodup
  w1 : ∀ q ∈ W, 1 ≤ q.2.length
  w4 : ∀ q ∈ W, q.2.length ≤ 4
  wn : ∀ q ∈ W, ∀ z ∈ q.2, isNm z = true
  most : wprod W ≤ 81
theorem WayAt.same {H H' : Hp} {v : V} {ws : List Str} (h : WayAt H v ws) (s : Same H H') : WayAt H' v ws := by
  obtain ⟨a, e, h⟩ := h
  exact ⟨a, e, h.imp (s _ _) (s _ _)⟩
theorem paired_imp {α β : Type} {F G : α → β → Prop} {l : List α} {m : List β} (h : Paired F l m) (f : ∀ a b, F a b → G a b) : Paired G l m := Paired.mapP h f
theorem ShAt.same {H H' : Hp} {d : Addr} {W : List Way} (h : ShAt H d W) (s : Same H H') : ShAt H' d W := by
  obtain ⟨kvs, e, p⟩ := h
  exact ⟨kvs, s _ _ e, paired_imp p fun a b q => ⟨q.1, q.2.same s⟩⟩
theorem paired_keys {H : Hp} : ∀ {W : List Way} {kvs : List (Key × V)}, Paired (KvW H) W kvs → kvs.map (fun kv => kV kv.1) = (W.map (·.1)).map V.str
  | _, _, .nil => rfl
  | _, _, .cons r t => by
    rw [List.map_cons, List.map_cons, List.map_cons, paired_keys t, r.1]
    rfl
theorem paired_get {α β : Type} {F : α → β → Prop} : ∀ {l : List α} {m : List β} {i : Nat} {b : β}, Paired F l m → m[i]? = some b → ∃ a, l[i]? = some a ∧ F a b
  | _, _, _, _, .nil, e => by simp at e
  | _, _, 0, b, .cons r _, e => by
    simp at e
    subst e
    exact ⟨_, rfl, r⟩
  | _, _, i + 1, b, .cons _ t, e => by
    obtain ⟨a, h1, h2⟩ := paired_get (i := i) t (by simpa using e)
    exact ⟨a, by simpa using h1, h2⟩
theorem nm_any {K : PySem.W.Frag} {H : Hp} {z : Str} (h : isNm z = true) : AnyV K H (.str z) .str := by
  refine .str z ?_
  unfold isNm at h
  have h1 := of_decide_eq_true (Bool.and_eq_true_iff.mp h).1
  exact Nat.le_of_lt (small1000 (by omega))
theorem names_any {K : PySem.W.Frag} {H : Hp} {xs : List Str} (h : ∀ z ∈ xs, isNm z = true) : ∀ y ∈ xs.map V.str, ∃ t, AnyV K H y t := by
  intro y hy
  obtain ⟨z, hz, rfl⟩ := List.mem_map.mp hy
  exact ⟨_, nm_any (h z hz)⟩
theorem names_all {xs : List Str} (h : ∀ z ∈ xs, isNm z = true) : (xs.map V.str).all nameV = true := by
  rw [List.all_eq_true]
  intro y hy
  obtain ⟨z, hz, rfl⟩ := List.mem_map.mp hy
  exact h z hz
theorem namesV_yes {xs : List Str} (h : ∀ z ∈ xs, isNm z = true) (h1 : 1 ≤ xs.length) (h4 : xs.length ≤ 4) : namesV (xs.map V.str) = true := by
  unfold namesV
  rw [names_all h, List.length_map, decide_eq_true h1, decide_eq_true h4]
  rfl
theorem WayAt.seq {K : PySem.W.Frag} {H : Hp} {v : V} {ws : List Str} (h : WayAt H v ws) : SeqV K H v (ws.map V.str) := by
  obtain ⟨a, rfl, h | h⟩ := h
  · exact .lst (SqL.of h) (.lst h)
  · exact .tup (SqT.of h) (.tup h)
theorem WayAt.sq {K : PySem.W.Frag} {H : Hp} {v : V} {ws : List Str} (h : WayAt H v ws) : ∃ a, v = .ref a ∧ (SqL K H a (ws.map V.str) ∨ SqT K H a (ws.map V.str)) := by
  obtain ⟨a, rfl, h | h⟩ := h
  · exact ⟨a, rfl, .inl (SqL.of h)⟩
  · exact ⟨a, rfl, .inr (SqT.of h)⟩
/-- the dict is locked: what else was there stands -/
theorem WayAt.lock {H : Hp} {v : V} {ws : List Str} {d : Addr} {kvs : List (Key × V)} {o : HO} (h : WayAt H v ws) (hd : H d = some (.dK kvs)) : WayAt (upd H d o) v ws := by
  obtain ⟨a, e, h⟩ := h
  refine ⟨a, e, h.imp (fun h => ?_) (fun h => ?_)⟩
  · rw [upd_ne (ne_of h hd (by intro z; cases z))]
    exact h
  · rw [upd_ne (ne_of h hd (by intro z; cases z))]
    exact h
theorem unlock {H H' : Hp} {d : Addr} {u o : HO} (hd : H d = some u) (s : Same (upd H d o) H') : Same H (upd H' d u) := fun b x e => by
  by_cases hb : b = d
  · subst hb
    rw [upd_same]
    exact hd.symm.trans e
  · rw [upd_ne hb]
    exact s b x (by rw [upd_ne hb]; exact e)
theorem wprod_more {W : List Way} {i : Nat} {q : Way} (h : W[i]? = some q) : wprod (W.take (i + 1)) = wprod (W.take i) * (q.2.length : Int) := by
  unfold wprod
  rw [List.take_add_one, h, List.foldl_append]
  rfl
def spIsShape : Sp := fun vs H Q _ => ∃ d W, vs = [.ref d] ∧ ShAt H d W ∧ WOk W ∧ ∀ H', Same H H' → Q (.bl true) H'
section
variable {P : Program} {w : World} {K : PySem.W.Frag} {mg : Str → Option Value} {base : Heap}
theorem ok_is_shape {f fA fN : Addr} {fd fdA fdN : FuncData} (D : Df K mg "is_shape" s_is_shape f fd) (A : Df K mg "are_names" s_are_names fA fdA) (bA : Binds K fdA ["thing"] []) (N : Df K mg "is_name" s_is_name fN fdN) (bN : Binds K fdN ["thing"] []) (T : KT K mg) :
    FnOk P w K mg base CX0 3 f fd ["thing"] spIsShape := by
  have S : FnScope ["thing", "many", "ways"] ["thing"] (defScope s_is_shape) := ⟨rfl, rfl, rfl, by decide +kernel, rfl, by decide +kernel, by decide +kernel⟩
  refine D.F.ok S (fun vs H Q E h => ?_) (fun cdv Ar outer s H vs Q E hr h => ?_)
  · obtain ⟨d, W, rfl, _⟩ := h
    rfl
  · obtain ⟨d, W, rfl, ⟨kvs, hd, hp⟩, ok, q⟩ := h
    have nd := S.nd
    obtain ⟨tk, gS⟩ := T.g_standings
    have G := ok_are_names (P := P) (w := w) (base := base) A N bN T
    refine ⟨_, pss_cons (ps_if (PW.pt (pw_or (pt_not (pt_val (pe_callB call_isi6 (by rfl) T.m_isinstance (by decide +kernel) (pa_cons (pv 0) (pa_cons (pe_bltn (v := .ty "dict") (by rfl) T.m_dict (by decide +kernel) rfl) pa_nil)))))
        (pw_or1 (pt_not (pt_val (pe_call G hr (by rfl) A.g A.F.kp bA .nil pass0 (pa_cons (pe_callTy (call_listD rfl) (by rfl) T.m_list (by decide +kernel) (pa_cons (pv 0) pa_nil)) pa_nil))))))) (pss_one (ps_ret pe_bl)) pss_nil)
      (pss_cons (ps_set (i := 1) nd rfl (Or.inl rfl) pe_int)
      (pss_cons (ps_lock (ps_for PassesOwn.never rfl (pi_values (pv 0)) (pg_name (i := 2) nd rfl (Or.inl rfl))
        (pss_cons (ps_if (PW.pt (pw_or (pt_not (pt_val (pe_call G hr (by rfl) A.g A.F.kp bA .nil pass0 (pa_cons (pv 2) pa_nil))))
            (pw_or1 (pt_cmpR op_lt (pe_lenTexts rfl (by rfl) T.m_len (by rfl) T.m_set (pv 2)) (pe_callB call_len_seq (by rfl) T.m_len PySem.boot_len (pa_cons (pv 2) pa_nil)) (nomark _))))) (pss_one (ps_ret pe_bl)) pss_nil)
        (pss_one (ps_set (i := 1) nd rfl (Or.inl rfl) (pe_op op_mul (pv 1) (pe_callB call_len_seq (by rfl) T.m_len PySem.boot_len (pa_cons (pv 2) pa_nil))))))))
      (pss_one (ps_ret (pe_cmpR op_le (pv 1) (pe_glob (v := .int 81) (by rfl) gS ⟨_, rfl⟩) (nomark _)))))), ?_⟩
    refine ⟨_, rfl, _, _, _, rfl, AnyV.dK hd, by decide, _, rfl, iteF ?_⟩
    refine ⟨_, rfl, d, kvs, rfl, .inl hd, fun p np => ?_⟩
    rw [paired_keys hp]
    have s1 := same_upd (o := .lst ((W.map (·.1)).map V.str)) np
    have hnm : ∀ z ∈ W.map (·.1), isNm z = true := fun z hz => by
      obtain ⟨q, hq, rfl⟩ := List.mem_map.mp hz
      exact ok.nm q hq
    refine ⟨.ref p, rfl, .inl ⟨_, .lst (SqL.of upd_same) (.lst upd_same), fun _ _ => names_any hnm, fun H1 s2 => ?_⟩⟩
    rw [namesV_yes hnm (by rw [List.length_map]; exact ok.n1) (by rw [List.length_map]; exact ok.n4)]
    refine ⟨_, rfl, iteF ?_⟩
    have hd1 := s2 _ _ (s1 _ _ hd)
    have hp1 := paired_imp hp fun a b (q : KvW H a b) => (⟨q.1, q.2.same (s1.trans s2)⟩ : KvW H1 a b)
    have hlen : W.length = kvs.length := Paired.length hp
    refine ⟨d, .dK kvs, hd1, trivial, fun od => ?_⟩
    refine ⟨_, rfl, d, od, kvs, rfl, upd_same, for_it walk_values (fun i σ H' => ∃ v2, σ = [some (.ref d), some (.int (wprod (W.take i))), v2] ∧ Same (upd H1 d (.frz od (.dK kvs))) H') ⟨none, rfl, Same.refl _⟩ (fun i σ H' _ ⟨_, _, sm⟩ => sm _ _ upd_same) ?_ ?_⟩
    · rintro i x σ H' H'' hi ⟨v2, rfl, sm⟩ ⟨rfl, k, hk⟩
      obtain ⟨qw, hq, _, hx⟩ := paired_get hp1 hk
      have hm : qw ∈ W := List.mem_of_getElem? hq
      have hx' : WayAt H'' x qw.2 := (hx.lock hd1).same sm
      refine ⟨_, rfl, x, rfl, .inl ⟨_, hx'.seq, fun _ _ => names_any (ok.wn qw hm), fun H3 s3 => ?_⟩⟩
      rw [namesV_yes (ok.wn qw hm) (ok.w1 qw hm) (ok.w4 qw hm)]
      refine ⟨_, rfl, iteF ?_⟩
      obtain ⟨a, rfl, ha⟩ := (hx'.same s3).sq (K := K)
      have l4 := ok.w4 qw hm
      refine ⟨_, rfl, a, qw.2, rfl, ha, ok.wd qw hm, by omega, _, rfl, a, _, rfl, ha, _, _, rfl, rfl, _, rfl, ?_⟩
      rw [List.length_map]
      refine ite2 (fun z => absurd (of_decide_eq_true z) (Int.lt_irrefl _)) (fun _ => ?_)
      refine ⟨_, rfl, _, rfl, a, _, rfl, ha, _, _, rfl, rfl, .inr ⟨by omega, by rw [List.length_map]; omega⟩, ?_⟩
      rw [List.length_map]
      exact ⟨_, by rw [wprod_more hq]; rfl, sm.trans s3⟩
    · rintro σ H' ⟨v2, rfl, sm⟩
      refine ⟨sm _ _ upd_same, ?_⟩
      rw [← hlen, List.take_length]
      refine ⟨_, rfl, _, _, rfl, rfl, ?_⟩
      have e : decide (wprod W ≤ 81) = true := decide_eq_true ok.most
      have q1 := q _ (s1.trans (s2.trans (unlock hd1 sm)))
      rw [← e] at q1
      exact q1
end
end HG

namespace HG
open PySem PySem.Spec PyProof.Rows L2
/-! ### texts in order -/
abbrev leS (a b : Str) : Prop := a.cps.toList ≤ b.cps.toList
theorem ext_cps {a b : Str} (h : a.cps.toList = b.cps.toList) : a = b := by
  cases a
  cases b
  simp only [Array.toList_inj] at h
  rw [h]
theorem rising_pw : ∀ (l : List Str) (p : Str), risingS p l = true → (∀ x ∈ l, leS p x) ∧ l.Pairwise leS
  | [], _, _ => ⟨(fun _ h => nomatch h), List.Pairwise.nil⟩
  | x :: r, p, h => by
    have h' : (!ltCps x.cps.toList p.cps.toList && risingS x r) = true := h
    obtain ⟨h1, h2⟩ := Bool.and_eq_true_iff.mp h'
    have hp : leS p x := by
      rw [ltCps_eq] at h1
      have : ¬ x.cps.toList < p.cps.toList := by simpa using h1
      exact List.not_lt.mp this
    obtain ⟨a, b⟩ := rising_pw r x h2
    refine ⟨fun y hy => ?_, .cons a b⟩
    rcases List.mem_cons.mp hy with rfl | hy
    · exact hp
    · exact List.le_trans hp (a y hy)
theorem sorted_pw {l : List Str} (h : sortedS l = true) : l.Pairwise leS := by
  cases l with
  | nil => exact .nil
  | cons x r =>
    obtain ⟨a, b⟩ := rising_pw r x h
    exact .cons a b
def srt (l : List Str) : List Str := l.mergeSort fun a b => decide (leS a b)
theorem srt_perm (l : List Str) : (srt l).Perm l := List.mergeSort_perm _ _
theorem srt_pw (l : List Str) : (srt l).Pairwise leS := by
  have := List.pairwise_mergeSort (le := fun a b : Str => decide (leS a b)) (fun a b c h1 h2 => decide_eq_true (List.le_trans (of_decide_eq_true h1) (of_decide_eq_true h2)))
    (fun a b => by
      rcases List.le_total a.cps.toList b.cps.toList with h | h
      · simp [leS, h]
      · simp [leS, h]) l
  exact this.imp fun h => of_decide_eq_true h
theorem srt_uniq {l ys : List Str} (hp : ys.Perm l) (hs : sortedS ys = true) : ys = srt l :=
  List.Perm.eq_of_pairwise (le := leS) (fun a b _ _ h1 h2 => ext_cps (List.le_antisymm h1 h2)) (sorted_pw hs) (srt_pw l) (hp.trans (srt_perm l).symm)
theorem srt_len (l : List Str) : (srt l).length = l.length := (srt_perm l).length_eq
theorem srt_mem {l : List Str} {z : Str} : z ∈ srt l ↔ z ∈ l := (srt_perm l).mem_iff
theorem srt_nd {l : List Str} (h : l.Nodup) : (srt l).Nodup := (srt_perm l).nodup_iff.mpr h
theorem srt_of_perm {l m : List Str} (h : l.Perm m) : srt l = srt m :=
  List.Perm.eq_of_pairwise (le := leS) (fun a b _ _ h1 h2 => ext_cps (List.le_antisymm h1 h2)) (srt_pw l) (srt_pw m) ((srt_perm l).trans (h.trans (srt_perm m).symm))
end HG

namespace HG
open PySem PySem.Spec PyProof.Rows L2
open C8 (pss_cut tCut)
section
variable {X : Cx}
/-- sorted of a tuple of texts -/
theorem sort_tup : CallR X (.builtin "sorted") (fun vs H Q => ∃ (a : Addr) (xs : List Str), vs = [V.ref a] ∧ SqT X.K H a (xs.map V.str) ∧ xs.length < 64 ∧ ∀ (ys : List Str) (p : Addr), ys.Perm xs → sortedS ys = true → H p = none → Q (.ref p) (upd H p (.lst (ys.map V.str)))) := by
  intro pins s σ H vs us Q I r h
  obtain ⟨a, xs, rfl, hs, h64, q⟩ := h
  obtain ⟨its, rv, hl, _⟩ := I.tuple hs
  rw [Vals.ref1 r]
  have hS : StrsAre its xs := strsAre_of rv
  have hlen : its.length = xs.length := hS.len_eq
  obtain ⟨o, ho, hc, n, hd⟩ := id hl
  refine Calls.call_function_entry PyProof.Rows.kind_sorted PyProof.Rows.plain_sorted PyProof.Rows.entry_sorted (PyProof.Rows.args_sorted1 _) ?_
  unfold Builtin.«sorted»
  refine wpAny_bind (m := checkCount "sorted" 1 1 _) (wpAny_pure ?_)
  refine wpAny_bind (wpAny_collect_seq a (T := "tuple") (.inr rfl) ho hc hd (fun h' hk => ?_) (by rw [List.size_toArray, hlen, sizeLine_eq]; omega))
  have I1 : Inv X pins σ H { s with heap := h' } := I.kept (t' := s.toks) hk
  refine wpAny_bind (wpAny_newList ?_ (by rw [hlen, sizeLine_eq]; omega))
  have hoL : (h'.push (seqObj "list" its.toArray 0)).get? h'.objs.size = some (seqObj "list" its.toArray 0) := Heap.get?_push_size _ rfl
  show wpAny _ _ _ _ _ { s with heap := h'.push (seqObj "list" its.toArray 0) }
  refine wpAny_bind (wpAny_holding (wpAny_call_entry PyProof.Rows.slot_list_sort ⟨_, hoL, rfl⟩ PyProof.Rows.entry_list_sort
    (list_sort_treeK strKind_oneLt (s := { s with heap := h'.push (seqObj "list" its.toArray 0) }) hoL hS.keysOf (fun v₁ v₂ rest e => keyKind_strs (by rw [← e]; exact hS)) (by rw [hlen]; exact h64) fun st' hp hs => ⟨_, rfl, ?_⟩)
    (PyProof.Rows.args_list_sort _)))
  obtain ⟨ys, g1, g2, g3⟩ := sorted_out_str hS hp hs
  obtain ⟨e', he'⟩ := PyProof.Rows.sortedHeap_at (vs := its) (out := (arrOf st').map (·.2)) hoL
  have hle : (ys.map V.str).length ≤ sizeLine := by
    rw [List.length_map, g2.length_eq, sizeLine_eq]
    omega
  refine wpAny_pure ⟨_, rfl, .ref h'.objs.size, upd H h'.objs.size (.lst (ys.map V.str)), I1.laid (t' := s.toks) (fun b u e => ?_) (Nat.le_refl _)
    (show ObjOk X.prog X.w _ _ _ (.lst (ys.map V.str)) from ⟨hle, ((arrOf st').map (·.2)).toList, e', vals_of_strs g1, by rw [Array.toArray_toList]; exact he'⟩), rfl, q ys _ g2 g3 (I1.hok.fresh (Nat.le_refl _))⟩
  have hb : b < h'.objs.size := Heap.lt_size e
  rw [PyProof.Rows.sortedHeap_old (Nat.ne_of_lt hb) (by rw [size_push']; exact Nat.lt_succ_of_lt hb)]
  exact Heap.get?_push_of_some _ e
def rSrt (K : PySem.W.Frag) : List V → Hp → VK → Prop := fun vs H Q => ∃ (a : Addr) (xs : List Str), vs = [.ref a] ∧ (SqL K H a (xs.map V.str) ∨ SqT K H a (xs.map V.str)) ∧ xs.length < 64 ∧ ∀ p, H p = none → Q (.ref p) (upd H p (.lst ((srt xs).map V.str)))
theorem call_srt : CallR X (.builtin "sorted") (rSrt X.K) := by
  intro pins s σ H vs us Q I r h
  obtain ⟨a, xs, rfl, hs | hs, h64, q⟩ := h
  · exact cr_sortedS pins s σ H _ us Q I r ⟨a, xs, rfl, hs, h64, fun ys p h1 h2 h3 => by rw [srt_uniq h1 h2]; exact q p h3⟩
  · exact sort_tup pins s σ H _ us Q I r ⟨a, xs, rfl, hs, h64, fun ys p h1 h2 h3 => by rw [srt_uniq h1 h2]; exact q p h3⟩
/-- sorted(d), the keys texts -/
def rSrtD : List V → Hp → VK → Prop := fun vs H Q => ∃ (a : Addr) (kvs : List (Key × V)) (ks : List Str), vs = [.ref a] ∧ H a = some (.dK kvs) ∧ kvs.map (·.1) = ks.map Sum.inr ∧ ks.length < 64 ∧ ∀ p, H p = none → Q (.ref p) (upd H p (.lst ((srt ks).map V.str)))
theorem call_srtD (hc : X.calm = true) : CallR X (.builtin "sorted") rSrtD := by
  intro pins s σ H vs us Q I r h
  obtain ⟨a, kvs, ks, rfl, hd, hk, h64, q⟩ := h
  exact call_sortedD hc pins s σ H _ us Q I r ⟨a, kvs, ks, rfl, .inl hd, hk, h64, fun ys p h1 h2 h3 => by rw [srt_uniq h1 h2]; exact q p h3⟩
end
/-! ### a shape's ways, sorted -/
def lookW (W : List Way) (k : Str) : List Str := ((W.find? fun q => decide (q.1 = k)).map (·.2)).getD []
def sh (W : List Way) : List Way := (srt (W.map (·.1))).map fun k => (k, srt (lookW W k))
theorem lookW_of {W : List Way} (hN : (W.map (·.1)).Nodup) {q : Way} (hq : q ∈ W) : lookW W q.1 = q.2 := by
  unfold lookW
  induction W with
  | nil => cases hq
  | cons a r ih =>
    rw [List.map_cons, List.nodup_cons] at hN
    rw [List.find?_cons]
    rcases List.mem_cons.mp hq with rfl | hq
    · rw [decide_eq_true rfl]
      rfl
    · have hne : ¬ a.1 = q.1 := fun e => hN.1 (List.mem_map.mpr ⟨q, hq, e.symm⟩)
      rw [decide_eq_false hne]
      exact ih hN.2 hq
theorem keysK {H : Hp} : ∀ {W : List Way} {kvs : List (Key × V)}, Paired (KvW H) W kvs → kvs.map (·.1) = (W.map (·.1)).map Sum.inr
  | _, _, .nil => rfl
  | _, _, .cons r t => by
    rw [List.map_cons, List.map_cons, List.map_cons, keysK t, r.1]
theorem valV_of {H : Hp} : ∀ {W : List Way} {kvs : List (Key × V)} {q : Way}, Paired (KvW H) W kvs → (W.map (·.1)).Nodup → q ∈ W → ∃ v, valV kvs (Sum.inr q.1) = some v ∧ WayAt H v q.2
  | _, _, _, .nil, _, h => nomatch h
  | a :: W, kv :: kvs, q, .cons r t, hN, h => by
    rw [List.map_cons, List.nodup_cons] at hN
    rcases List.mem_cons.mp h with rfl | h
    · exact ⟨kv.2, valV_pos r.1, r.2⟩
    · obtain ⟨v, h1, h2⟩ := valV_of t hN.2 h
      refine ⟨v, ?_, h2⟩
      rw [valV_neg (fun e => ?_)]
      · exact h1
      · have e2 : a.1 = q.1 := Sum.inr.inj (r.1.symm.trans e)
        exact hN.1 (List.mem_map.mpr ⟨q, h, e2.symm⟩)
theorem putK_new {κ : Type} [DecidableEq κ] {kvs : List (κ × V)} {k : κ} {v : V} (h : k ∉ kvs.map (·.1)) : putK kvs k v = kvs ++ [(k, v)] := by
  unfold putK
  rw [if_neg]
  intro z
  obtain ⟨x, hx, e⟩ := List.any_eq_true.mp z
  exact h (List.mem_map.mpr ⟨x, hx, of_decide_eq_true e⟩)
/-- lists alone, new where N says so -/
def KvL (N : Addr → Prop) (H : Hp) (q : Way) (kv : Key × V) : Prop := kv.1 = Sum.inr q.1 ∧ ∃ a, kv.2 = .ref a ∧ N a ∧ H a = some (.lst (q.2.map V.str))
def ShL (N : Addr → Prop) (H : Hp) (d : Addr) (S : List Way) : Prop := ∃ kvs, H d = some (.dK kvs) ∧ Paired (KvL N H) S kvs
theorem KvL.same {N : Addr → Prop} {H H' : Hp} {q : Way} {kv : Key × V} (h : KvL N H q kv) (s : Same H H') : KvL N H' q kv := by
  obtain ⟨e, a, ev, n, h⟩ := h
  exact ⟨e, a, ev, n, s _ _ h⟩
theorem KvL.at {N : Addr → Prop} {H : Hp} {q : Way} {kv : Key × V} (h : KvL N H q kv) : KvW H q kv := by
  obtain ⟨e, a, ev, n, h⟩ := h
  exact ⟨e, a, ev, .inl h⟩
theorem ShL.at {N : Addr → Prop} {H : Hp} {d : Addr} {S : List Way} (h : ShL N H d S) : ShAt H d S := by
  obtain ⟨kvs, e, p⟩ := h
  exact ⟨kvs, e, paired_imp p fun _ _ q => q.at⟩
theorem ShL.same {N : Addr → Prop} {H H' : Hp} {d : Addr} {S : List Way} (h : ShL N H d S) (s : Same H H') : ShL N H' d S := by
  obtain ⟨kvs, e, p⟩ := h
  exact ⟨kvs, s _ _ e, paired_imp p fun _ _ q => q.same s⟩
theorem paired_append {α β : Type} {F : α → β → Prop} : ∀ {l : List α} {m : List β} {l' : List α} {m' : List β}, Paired F l m → Paired F l' m' → Paired F (l ++ l') (m ++ m')
  | _, _, _, _, .nil, h => h
  | _, _, _, _, .cons r t, h => .cons r (paired_append t h)
theorem keysL {N : Addr → Prop} {H : Hp} {S : List Way} {kvs : List (Key × V)} (h : Paired (KvL N H) S kvs) : kvs.map (·.1) = (S.map (·.1)).map Sum.inr := keysK (paired_imp h fun _ _ q => q.at)
def spSorted : Sp := fun vs H Q _ => ∃ d W, vs = [.ref d] ∧ ShAt H d W ∧ (W.map (·.1)).Nodup ∧ W.length < 64 ∧ (∀ q ∈ W, q.2.length < 64) ∧ ∀ H' p, Same H H' → H p = none → ShL (fun a => H a = none) H' p (sh W) → Q (.ref p) H'
section
variable {P : Program} {w : World} {K : PySem.W.Frag} {mg : Str → Option Value} {base : Heap}
theorem ok_sorted_ways {f : Addr} {fd : FuncData} (D : Df K mg "sorted_ways" s_sorted_ways f fd) (ms : mg "sorted" = none) : FnOk P w K mg base CX0 1 f fd ["ways"] spSorted := by
  have S : FnScope ["ways", "chooser"] ["ways"] (defScope s_sorted_ways) := ⟨rfl, rfl, rfl, by decide +kernel, rfl, by decide +kernel, by decide +kernel⟩
  refine D.F.ok S (fun vs H Q E h => ?_) (fun cdv Ar outer s H vs Q E hr h => ?_)
  · obtain ⟨d, W, rfl, _⟩ := h
    rfl
  · obtain ⟨d, W, rfl, ⟨kvs, hd, hp⟩, hN, h64, hw, q⟩ := h
    have nd := S.nd
    have hu := hu_of hr
    refine ⟨_, pss_one (ps_ret (pe_dc (own := [("chooser", 1)]) (g := gName 1) (tt := tYes) rfl nd (pi_list (pe_callB (call_srtD rfl) (by rfl) ms (by decide +kernel) (pa_cons (pv 0) pa_nil))) (blkOk_by (N := ["ways", "chooser"]) (sc := defScope s_sorted_ways) (by decide +kernel)) (fun _ _ _ _ _ => pg_name (i := 1) nd rfl (Or.inl rfl)) (fun _ _ _ _ _ => pts_nil)
      (fun _ _ _ _ _ => pv 1) (fun _ _ _ _ _ => pe_callB (id := "sorted") (r := rSrt K) call_srt (by rfl) ms (by decide +kernel) (pa_cons (pe_dget hu (pv 0) (pv 1) (fun _ _ => rfl)) pa_nil)))), ?_⟩
    refine ⟨_, rfl, d, kvs, W.map (·.1), rfl, hd, keysK hp, (by rw [List.length_map]; exact h64), fun p np => ?_⟩
    have s1 := same_upd (o := .lst ((srt (W.map (·.1))).map V.str)) np
    refine ⟨p, rfl, ⟨_, SqL.of upd_same⟩, fun D nD => ?_⟩
    refine ⟨fun i m H' => m = (sh W).length - i ∧ i ≤ (sh W).length ∧ (∃ ks, H' D = some (.dK ks) ∧ Paired (KvL (fun a => H a = none) H') ((sh W).take i) ks) ∧ Same (upd H p (.lst ((srt (W.map (·.1))).map V.str))) H', ⟨_, rfl, Nat.zero_le _, ⟨[], upd_same, .nil⟩, same_upd nD⟩, ?_⟩
    rintro i m H1 ⟨rfl, hi, ⟨ks, hD, hks⟩, sm⟩
    have sl : (sh W).length = (srt (W.map (·.1))).length := List.length_map ..
    by_cases hlt : i < (sh W).length
    · have hlt2 : i < (srt (W.map (·.1))).length := by omega
      have hx : ((srt (W.map (·.1))).map V.str)[i]? = some (.str (srt (W.map (·.1)))[i]) := by rw [List.getElem?_map, List.getElem?_eq_getElem hlt2]; rfl
      refine .inr ⟨⟨_, _, SqL.of (sm _ _ upd_same), hx⟩, fun H' => (∃ ks, H' D = some (.dK ks) ∧ Paired (KvL (fun a => H a = none) H') ((sh W).take (i + 1)) ks) ∧ Same (upd H p (.lst ((srt (W.map (·.1))).map V.str))) H', fun H' hN' => ⟨_, Nat.sub_lt_sub_left hlt (Nat.lt_succ_self i), rfl, hlt, hN'⟩, fun x H' y => ?_⟩
      obtain ⟨rfl, y⟩ := y
      have ex : x = .str (srt (W.map (·.1)))[i] := Option.some.inj ((y _ (SqL.of (sm _ _ upd_same))).symm.trans hx)
      subst ex
      obtain ⟨qw, hqw, ek⟩ := List.mem_map.mp (srt_mem.mp (List.getElem_mem hlt2))
      have e0 : (sh W)[i]? = some (qw.1, srt qw.2) := by
        unfold sh
        rw [List.getElem?_map, List.getElem?_eq_getElem hlt2, ← ek]
        show some (qw.1, srt (lookW W qw.1)) = _
        rw [lookW_of hN hqw]
      have hd1 := sm _ _ (s1 _ _ hd)
      have hp1 := paired_imp hp fun a b (q : KvW H a b) => (⟨q.1, q.2.same (s1.trans sm)⟩ : KvW H' a b)
      obtain ⟨v, hv, hw1⟩ := valV_of hp1 hN hqw
      obtain ⟨a, rfl, ha⟩ := hw1.sq (K := K)
      have hg : DGet H' d (.str (srt (W.map (·.1)))[i]) (some (.ref a)) := by
        rw [← ek, ← hv]
        exact DGet.k (k := Sum.inr qw.1) hd1
      refine ⟨rfl, _, rfl, _, rfl, _, rfl, d, _, rfl, hg, a, qw.2, rfl, ha, hw qw hqw, fun a2 n2 => ?_⟩
      have s2 := same_upd (o := .lst ((srt qw.2).map V.str)) n2
      have hD2 := s2 _ _ hD
      have hks2 := paired_imp hks fun a b (q : KvL (fun a => H a = none) H' a b) => q.same s2
      have hlk : ks.length = i := by
        rw [← Paired.length hks, List.length_take]
        omega
      have hnew : Sum.inr qw.1 ∉ ks.map (·.1) := by
        rw [keysL hks]
        intro z
        obtain ⟨y, hy, e⟩ := List.mem_map.mp z
        have ey : y = qw.1 := Sum.inr.inj e
        rw [List.map_take, show (sh W).map (·.1) = srt (W.map (·.1)) by unfold sh; rw [List.map_map]; exact List.map_id _] at hy
        obtain ⟨j, hj, ej⟩ := List.getElem_of_mem hy
        rw [List.length_take] at hj
        rw [List.getElem_take] at ej
        have := (List.getElem_inj (srt_nd hN)).mp (ej.trans (ey.trans ek))
        omega
      refine ⟨ks, Sum.inr qw.1, (by rw [← ek]; rfl), hD2, small1000 (by rw [hlk]; have := srt_len (W.map (·.1)); rw [List.length_map] at this; omega), ⟨_, upd_same, ?_⟩, fun b o e => ?_⟩
      · rw [putK_new hnew, List.take_add_one, e0]
        have up : ∀ (a : Way) (b : Key × V), KvL (fun a => H a = none) (upd H' a2 (.lst ((srt qw.2).map V.str))) a b → KvL (fun a => H a = none) (upd (upd H' a2 (.lst ((srt qw.2).map V.str))) D (.dK (ks ++ [(Sum.inr qw.1, .ref a2)]))) a b := fun a b ⟨e, c, ev, n, h⟩ => ⟨e, c, ev, n, by
          rw [upd_ne (ne_of h hD2 (by intro z; cases z))]
          exact h⟩
        refine paired_append (paired_imp hks2 up) (.cons (up _ _ ⟨rfl, a2, rfl, (s1.trans sm).free n2, upd_same⟩) .nil)
      · rw [upd_ne (ne_of_none e nD)]
        exact s2 _ _ (sm _ _ e)
    · have ei : i = (sh W).length := by omega
      subst ei
      refine .inl ⟨⟨_, SqL.of (sm _ _ upd_same), by rw [List.length_map, sl]; exact Nat.le_refl _⟩, q H1 D (s1.trans sm) (s1.free nD) ⟨ks, hD, by rw [List.take_length] at hks; exact hks⟩⟩
end
end HG

namespace HG
open PySem PySem.Spec PyProof.Rows L2
open C8 (pss_cut tCut)
/-- one clause of a comprehension, by its own walk -/
theorem walk_run {J : It} {n : Nat} {G : Hp → Prop} {Y : Nat → Hp → V → Hp → Prop} (w : Walk J n G Y) {H0 : Hp} {Qd : Hp → Prop} {B : V → Hp → (Hp → Prop) → Prop} (Pv : Nat → Hp → Prop) (h0 : Pv 0 H0) (hG : ∀ i H, i ≤ n → Pv i H → G H)
    (hs : ∀ i x H H', i < n → Pv i H → Y i H x H' → B x H' (Pv (i + 1))) (hd : ∀ H, Pv n H → Qd H) :
    ∃ W : Nat → Nat → Hp → Prop, (∃ m, W 0 m H0) ∧ ∀ i m H, W i m H →
      (J.stop i H ∧ Qd H) ∨ (J.go i H ∧ ∃ Nx : Hp → Prop, (∀ H', Nx H' → ∃ m', m' < m ∧ W (i + 1) m' H') ∧ ∀ x H', J.yld i H x H' → B x H' Nx) := by
  refine ⟨fun i m H => m = n - i ∧ i ≤ n ∧ Pv i H, ⟨n, by simp, Nat.zero_le _, h0⟩, ?_⟩
  rintro i m H ⟨rfl, hi, p⟩
  have q := hG i H hi p
  by_cases hlt : i < n
  · refine .inr ⟨w.goes i H hlt q, Pv (i + 1), fun H' p' => ⟨n - (i + 1), by omega, rfl, hlt, p'⟩, fun x H' y => hs i x H H' hlt p (w.yields i H x H' hlt q y)⟩
  · have e : i = n := by omega
    subst e
    exact .inl ⟨w.stops H q, hd H p⟩
/-- tuples of texts -/
def TupsAt (H : Hp) (sts : List (List Str)) (vs : List V) : Prop := Paired (fun st v => ∃ a, v = .ref a ∧ H a = some (.tup (st.map V.str))) sts vs
theorem TupsAt.same {H H' : Hp} {sts : List (List Str)} {vs : List V} (h : TupsAt H sts vs) (s : Same H H') : TupsAt H' sts vs := paired_imp h fun _ _ ⟨a, e, h⟩ => ⟨a, e, s _ _ h⟩
/-- a list changed: tuples stand -/
theorem TupsAt.upd {H : Hp} {sts : List (List Str)} {vs : List V} {D : Addr} {xs : List V} {o : HO} (h : TupsAt H sts vs) (hD : H D = some (.lst xs)) : TupsAt (upd H D o) sts vs := paired_imp h fun _ _ ⟨a, e, h⟩ => ⟨a, e, by
  rw [upd_ne (ne_of h hD (by intro z; cases z))]
  exact h⟩
def mul1 (sts : List (List Str)) (ws : List Str) : List (List Str) := sts.flatMap fun st => ws.map fun w => st ++ [w]
def stds (S : List Way) : List (List Str) := S.foldl (fun sts q => mul1 sts q.2) [[]]
theorem mul1_len (sts : List (List Str)) (ws : List Str) : (mul1 sts ws).length = sts.length * ws.length := by
  unfold mul1
  induction sts with
  | nil => simp
  | cons a r ih => rw [List.flatMap_cons, List.length_append, ih, List.length_map, List.length_cons, Nat.succ_mul, Nat.add_comm]
theorem mul1_more {sts : List (List Str)} {ws : List Str} {i : Nat} {st : List Str} (h : sts[i]? = some st) : mul1 (sts.take (i + 1)) ws = mul1 (sts.take i) ws ++ ws.map fun w => st ++ [w] := by
  unfold mul1
  rw [List.take_add_one, h, List.flatMap_append]
  simp
theorem stds_more {S : List Way} {i : Nat} {q : Way} (h : S[i]? = some q) : stds (S.take (i + 1)) = mul1 (stds (S.take i)) q.2 := by
  unfold stds
  rw [List.take_add_one, h, List.foldl_append]
  rfl
theorem stds_mem {S : List Way} {st : List Str} (h : st ∈ stds S) : st.length = S.length := by
  have key : ∀ (S : List Way) (sts : List (List Str)) (n : Nat), (∀ x ∈ sts, x.length = n) → ∀ x ∈ S.foldl (fun sts q => mul1 sts q.2) sts, x.length = n + S.length := by
    intro S
    induction S with
    | nil => exact fun sts n h x hx => h x hx
    | cons q r ih =>
      intro sts n h x hx
      have := ih (mul1 sts q.2) (n + 1) (fun y hy => by
        obtain ⟨z, hz, hy⟩ := List.mem_flatMap.mp hy
        obtain ⟨w, _, rfl⟩ := List.mem_map.mp hy
        rw [List.length_append, h z hz]
        rfl) x hx
      rw [this, List.length_cons]
      omega
  have := key S [[]] 0 (fun x hx => by rw [List.mem_singleton.mp hx]; rfl) st h
  omega
def spStds : Sp := fun vs H Q _ => ∃ d S N, vs = [.ref d] ∧ ShL N H d S ∧ (∀ i, i ≤ S.length → (stds (S.take i)).length ≤ 256) ∧ (∀ q ∈ S, q.2.length ≤ 4) ∧ S.length ≤ 4 ∧
  ∀ H' p vs, Same H H' → H p = none → H' p = some (.lst vs) → TupsAt H' (stds S) vs → Q (.ref p) H'
section
variable {P : Program} {w : World} {K : PySem.W.Frag} {mg : Str → Option Value} {base : Heap}
/-- (x,) behind a tuple, by what stands behind: new where not empty -/
theorem mul1_bound {sts : List (List Str)} {ws : List Str} {i j : Nat} (hi : i < sts.length) (hj : j < ws.length) : (mul1 (sts.take i) ws).length + j < sts.length * ws.length := by
  rw [mul1_len, List.length_take, Nat.min_eq_left (Nat.le_of_lt hi)]
  calc i * ws.length + j < i * ws.length + ws.length := by omega
    _ = (i + 1) * ws.length := by rw [Nat.succ_mul]
    _ ≤ sts.length * ws.length := Nat.mul_le_mul_right _ hi
theorem ok_standings_of {f : Addr} {fd : FuncData} (D : Df K mg "standings_of" s_standings_of f fd) : FnOk P w K mg base CX0 1 f fd ["way_lists"] spStds := by
  have S : FnScope ["way_lists", "standings", "ways", "standing", "way"] ["way_lists"] (defScope s_standings_of) := ⟨rfl, rfl, rfl, by decide +kernel, rfl, by decide +kernel, by decide +kernel⟩
  refine D.F.ok S (fun vs H Q E h => ?_) (fun cdv Ar outer s H vs Q E hr h => ?_)
  · obtain ⟨d, W, N, rfl, _⟩ := h
    rfl
  · obtain ⟨d, W, N, rfl, ⟨kvs, hd, hp⟩, hB, h4, hl4, q⟩ := h
    have nd := S.nd
    refine ⟨_, pss_cons (ps_set (i := 1) nd rfl (Or.inl rfl) (pe_lst (pa_cons (pe_tup pa_nil) pa_nil)))
      (pss_cons (ps_lock (ps_for PassesOwn.never rfl (pi_values (pv 0)) (pg_name (i := 2) nd rfl (Or.inr rfl))
        (pss_one (ps_setLc2 (i := 1) (own := [("standing", 3), ("way", 4)]) (vs1 := [4]) (g := gName 3) (g1 := gName 4) (tt := tYes) (tt1 := tYes) (wi1 := iList K (tVar 2)) rfl nd rfl rfl (sw_true rfl rfl rfl (by decide +kernel)) (pi_list (pv 1)) (blkOk_by (N := ["way_lists", "standings", "ways", "standing", "way"]) (sc := defScope s_standings_of) (by decide +kernel)) (by decide)
          (fun _ _ _ _ _ => pg_name (i := 3) nd rfl (Or.inl rfl)) (fun _ _ _ _ _ => pts_nil) (fun _ _ _ _ _ => pi_list (pv 2)) (fun _ _ _ _ _ => pg_name (i := 4) nd rfl (Or.inl rfl)) (fun _ _ _ _ _ => pts_nil)
          (fun _ _ _ _ _ => pe_op op_catB (pv 3) (pe_tup (pa_cons (pv 4) pa_nil)))))))
      (pss_one (ps_ret (pv 1)))), ?_⟩
    refine ⟨(by show 0 ≤ sizeLine; decide), fun p0 n0 => ?_⟩
    have s0 := same_upd (o := .tup []) n0
    refine ⟨(by show 1 ≤ sizeLine; decide), fun p1 n1 => ?_⟩
    have s1 := same_upd (o := .lst [V.ref p0]) n1
    have s01 := s0.trans s1
    have hd1 := s01 _ _ hd
    have hp1 := paired_imp hp fun a b (q : KvL N H a b) => q.same s01
    have hlen : W.length = kvs.length := Paired.length hp
    refine ⟨d, .dK kvs, hd1, trivial, fun od => ?_⟩
    generalize hHL : upd (upd (upd H p0 (.tup [])) p1 (.lst [V.ref p0])) d (.frz od (.dK kvs)) = HL
    have hL1 : HL p1 = some (.lst [V.ref p0]) := by
      subst hHL
      rw [upd_ne (fun z => by subst z; rw [upd_same] at hd1; cases hd1)]
      exact upd_same
    have hLs : ∀ {v : V} {a : Addr} {xs : List V}, v = .ref a → (upd (upd H p0 (.tup [])) p1 (.lst [V.ref p0])) a = some (.lst xs) → HL a = some (.lst xs) := fun {v a xs} _ e => by
      subst hHL
      rw [upd_ne (ne_of e hd1 (by intro z; cases z))]
      exact e
    refine ⟨_, rfl, d, od, kvs, rfl, (by subst hHL; exact upd_same), for_it walk_values (fun i σ H' => ∃ p vs v2 v3 v4, σ = [some (.ref d), some (.ref p), v2, v3, v4] ∧ H p = none ∧ H' p = some (.lst vs) ∧ TupsAt H' (stds (W.take i)) vs ∧ Same HL H') ⟨p1, [.ref p0], none, none, none, rfl, s0.free n1, hL1, .cons ⟨p0, rfl, (by
      subst hHL
      rw [upd_ne (ne_of (s1 _ _ upd_same) hd1 (by intro z; cases z))]
      exact s1 _ _ upd_same)⟩ .nil, Same.refl _⟩ (fun i σ H' _ ⟨_, _, _, _, _, _, _, _, _, sm⟩ => sm _ _ (by subst hHL; exact upd_same)) ?_ ?_⟩
    · rintro i x σ H' H'' hi ⟨pp, vs, v2, v3, v4, rfl, np, hvs, ht, sm⟩ ⟨rfl, k, hk⟩
      obtain ⟨qw, hq, ek, a, rfl, na, ha⟩ := paired_get hp1 hk
      have hm : qw ∈ W := List.mem_of_getElem? hq
      have ha' : H'' a = some (.lst (qw.2.map V.str)) := sm _ _ (hLs rfl ha)
      have hsl : (stds (W.take i)).length = vs.length := Paired.length ht
      have hb : (stds (W.take (i + 1))).length ≤ 256 := hB (i + 1) (by omega)
      rw [stds_more hq, mul1_len] at hb
      refine ⟨_, rfl, pp, rfl, ⟨_, SqL.of hvs⟩, fun D hD => ?_⟩
      have sD := same_upd (o := .lst []) hD
      refine walk_run (walk_list (K := K) (a := pp) (xs := vs)) (fun j H3 => ∃ ws, H3 D = some (.lst ws) ∧ TupsAt H3 (mul1 ((stds (W.take i)).take j) qw.2) ws ∧ Same H'' H3) ⟨[], upd_same, .nil, sD⟩ (fun j H3 _ ⟨_, _, _, s3⟩ => SqL.of (s3 _ _ hvs)) ?_ ?_
      · rintro j x H3 H3' hj ⟨ws, hD3, ht3, s3⟩ ⟨rfl, hx⟩
        obtain ⟨st, hst, c, rfl, hc⟩ := paired_get ht hx
        have hc3 := s3 _ _ hc
        refine ⟨rfl, _, rfl, a, rfl, ⟨_, SqL.of (s3 _ _ ha')⟩, walk_run (walk_list (K := K) (a := a) (xs := qw.2.map V.str)) (fun k H4 => ∃ ws, H4 D = some (.lst ws) ∧ TupsAt H4 (mul1 ((stds (W.take i)).take j) qw.2 ++ (qw.2.take k).map fun w => st ++ [w]) ws ∧ Same H'' H4) ⟨ws, hD3, by simpa using ht3, s3⟩ (fun k H4 _ ⟨_, _, _, s4⟩ => SqL.of (s4 _ _ ha')) ?_ ?_⟩
        · rintro k x H4 H4' hk4 ⟨ws4, hD4, ht4, s4⟩ ⟨rfl, hx4⟩
          rw [List.length_map] at hk4
          have ex : x = .str (qw.2[k]) := by
            rw [List.getElem?_map, List.getElem?_eq_getElem hk4] at hx4
            exact (Option.some.inj hx4).symm
          subst ex
          have hstl : st.length ≤ 100 := by
            rw [stds_mem (List.mem_of_getElem? hst), List.length_take]
            omega
          refine ⟨rfl, _, rfl, _, rfl, (by show 1 ≤ sizeLine; decide), fun p5 n5 => ?_⟩
          have s5 := same_upd (o := .tup [V.str (qw.2[k])]) n5
          refine ⟨c, p5, _, _, rfl, rfl, s5 _ _ (s4 _ _ hc), upd_same, (by rw [List.length_map]; show st.length + 1 ≤ 1000; omega), fun H6 p6 s6 h6 => ?_⟩
          have hD6 := s6 _ _ (s5 _ _ hD4)
          have ht6 := (ht4.same (s5.trans s6)).upd (o := .lst (ws4 ++ [.ref p6])) hD6
          refine ⟨ws4, hD6, small1000 ?_, _, upd_same, ?_, fun b o e => ?_⟩
          · rw [← Paired.length ht4, List.length_append, List.length_map, List.length_take, Nat.min_eq_left (Nat.le_of_lt hk4)]
            have := mul1_bound (sts := stds (W.take i)) (ws := qw.2) (by omega : j < _) hk4
            omega
          · rw [List.take_add_one, List.getElem?_eq_getElem hk4, List.map_append, ← List.append_assoc]
            refine paired_append ht6 (.cons ⟨p6, rfl, ?_⟩ .nil)
            rw [upd_ne (ne_of h6 hD6 (by intro z; cases z)), h6, List.map_append]
            rfl
          · rw [upd_ne (ne_of_none e hD)]
            exact s6 _ _ (s5 _ _ (s4 _ _ e))
        · rintro H4 ⟨ws4, hD4, ht4, s4⟩
          rw [List.length_map, List.take_length] at ht4
          exact ⟨ws4, hD4, by rw [mul1_more hst]; exact ht4, s4⟩
      · rintro H3 ⟨ws, hD3, ht3, s3⟩
        rw [← hsl, List.take_length] at ht3
        refine ⟨D, ws, _, _, _, rfl, ?_, hD3, by rw [stds_more hq]; exact ht3, sm.trans s3⟩
        have hd' : H'' d = some (.frz od (.dK kvs)) := sm _ _ (by subst hHL; exact upd_same)
        subst hHL
        exact (s01.trans (unlock hd1 sm)).free (by rw [upd_ne (fun z => by rw [z, hd'] at hD; cases hD)]; exact hD)
    · rintro σ H' ⟨p, vs, v2, v3, v4, rfl, np, hvs, ht, sm⟩
      refine ⟨sm _ _ (by subst hHL; exact upd_same), ?_⟩
      rw [← hlen, List.take_length] at ht
      refine ⟨_, rfl, q _ p vs ?_ np ?_ ?_⟩
      · subst hHL
        exact s01.trans (unlock hd1 sm)
      · rw [upd_ne (fun z => by rw [z] at np; rw [hd] at np; cases np)]
        exact hvs
      · refine paired_imp ht fun _ _ ⟨a, e, h⟩ => ⟨a, e, ?_⟩
        rw [upd_ne (ne_of h (sm _ _ (by subst hHL; exact upd_same)) (by intro z; cases z))]
        exact h
end
end HG

namespace HG
open PySem PySem.Spec PyProof.Rows L2
open C8 (pss_cut tCut)
/-- whether a value is a key, as a tuple of texts -/
def textsV : List V → Option (List Key)
  | [] => some []
  | .str z :: r => (textsV r).map (Sum.inr z :: ·)
  | _ :: _ => none
theorem textsV_names : ∀ {xs : List V}, xs.all nameV = true → ∃ st : List Str, xs = st.map V.str ∧ (∀ z ∈ st, isNm z = true)
  | [], _ => ⟨[], rfl, fun _ h => nomatch h⟩
  | x :: r, h => by
    rw [List.all_cons, Bool.and_eq_true] at h
    obtain ⟨st, e, hn⟩ := textsV_names h.2
    cases x with
    | str z => exact ⟨z :: st, by rw [e]; rfl, fun y hy => by
        rcases List.mem_cons.mp hy with rfl | hy
        · exact h.1
        · exact hn y hy⟩
    | _ => exact absurd h.1 (by intro z; cases z)
/-- whether x is a key of kvs, all texts -/
def oneOf (kvs : List (List Key × V)) (xs : List V) : Bool := xs.all nameV && kvs.any fun kv => decide (kv.1.map kV = xs)
theorem kV_inj : ∀ {a b : Key}, kV a = kV b → a = b
  | .inl a, .inl b, h => by rw [V.int.inj h]
  | .inr a, .inr b, h => by rw [V.str.inj h]
  | .inl _, .inr _, h => nomatch h
  | .inr _, .inl _, h => nomatch h
theorem kVs_inj : ∀ {a b : List Key}, a.map kV = b.map kV → a = b
  | [], [], _ => rfl
  | _ :: _, _ :: _, h => by
    rw [List.map_cons, List.map_cons, List.cons.injEq] at h
    rw [kV_inj h.1, kVs_inj h.2]
  | [], _ :: _, h => nomatch h
  | _ :: _, [], h => nomatch h
theorem oneOf_key (kvs : List (List Key × V)) (st : List Str) (h : ∀ z ∈ st, isNm z = true) : oneOf kvs (st.map V.str) = (valV kvs (kS st)).isSome := by
  unfold oneOf
  rw [names_all h, ← valV_any, Bool.true_and, ← kS_v]
  congr 1
  funext kv
  by_cases e : kv.1 = kS st
  · rw [e, decide_eq_true rfl, decide_eq_true rfl]
  · rw [decide_eq_false e, decide_eq_false fun z => e (kVs_inj z)]
def spOneOf (K : PySem.W.Frag) : Sp := fun vs H Q _ => ∃ x d kvs, vs = [x, .ref d] ∧ H d = some (.dT kvs) ∧
  ((∃ a xs, x = .ref a ∧ H a = some (.tup xs) ∧ xs.length ≤ 10000 ∧ (∀ y ∈ xs, ∃ t, AnyV K H y t) ∧ ∀ H', Same H H' → Q (.bl (oneOf kvs xs)) H') ∨ (∃ t, AnyV K H x t ∧ t ≠ .tup ∧ Q (.bl false) H))
def CellOk (K : PySem.W.Frag) (H : Hp) (o : Option V) (n : Int) (b : Bool) : Prop := (o = none ∧ b = false) ∨ ∃ v, o = some v ∧
  ((∃ xs, SeqV K H v xs ∧ xs.length < sizeLine ∧ (∀ y ∈ xs, ∃ t, AnyV K H y t ∧ (t.isa "int" && !t.isa "bool") = intV y) ∧ b = (decide ((xs.length : Int) = n) && xs.all intV)) ∨ (∃ t, AnyV K H v t ∧ t ≠ .lst ∧ t ≠ .tup ∧ b = false))
theorem CellOk.same {K : PySem.W.Frag} {H H' : Hp} {o : Option V} {n : Int} {b : Bool} (h : CellOk K H o n b) (s : Same H H') : CellOk K H' o n b := by
  rcases h with h | ⟨v, e, ⟨xs, h, hz, ha, eb⟩ | ⟨t, h, n1, n2, eb⟩⟩
  · exact .inl h
  · exact .inr ⟨v, e, .inl ⟨xs, h.same s, hz, (fun y hy => let ⟨t, q, e⟩ := ha y hy; ⟨t, q.same s, e⟩), eb⟩⟩
  · exact .inr ⟨v, e, .inr ⟨t, h.same s, n1, n2, eb⟩⟩
def spIsTable (K : PySem.W.Frag) : Sp := fun args H Q _ => ∃ x p sts vs n, ∃ good : List Str → Bool, args = [x, .ref p, .int n] ∧ H p = some (.lst vs) ∧ TupsAt H sts vs ∧ sts.length ≤ 256 ∧
  ((∃ d kvs, x = .ref d ∧ H d = some (.dT kvs) ∧ (∀ st ∈ sts, CellOk K H (valV kvs (kS st)) n (good st)) ∧ ∀ H', Same H H' → Q (.bl (decide (kvs.length = sts.length) && sts.all good)) H') ∨
   (∃ t, AnyV K H x t ∧ t ≠ .dct ∧ ∀ H', Same H H' → Q (.bl false) H'))
theorem dim_dct {K : PySem.W.Frag} {H : Hp} {x : V} {t : Tg} (h : t ≠ .dct) : t.isa "dict" = false := by cases t <;> first | rfl | exact absurd rfl h
section
variable {P : Program} {w : World} {K : PySem.W.Frag} {mg : Str → Option Value} {base : Heap}
theorem ok_is_one_of {f fN : Addr} {fd fdN : FuncData} (D : Df K mg "is_one_of" s_is_one_of f fd) (N : Df K mg "is_name" s_is_name fN fdN) (bN : Binds K fdN ["thing"] []) (T : KT K mg) : FnOk P w K mg base CX0 2 f fd ["thing", "tuples"] (spOneOf K) := by
  have S : FnScope ["thing", "tuples", "item"] ["thing", "tuples"] (defScope s_is_one_of) := ⟨rfl, rfl, rfl, by decide +kernel, rfl, by decide +kernel, by decide +kernel⟩
  refine D.F.ok S (fun vs H Q E h => ?_) (fun cdv A outer s H vs Q E hr h => ?_)
  · obtain ⟨x, d, kvs, rfl, _⟩ := h
    rfl
  · obtain ⟨x, d, kvs, rfl, hd, q⟩ := h
    have nd := S.nd
    have hu := hu_of hr
    refine ⟨_, pss_one (ps_ret (pe_and (pe_callB call_isi6 (by rfl) T.m_isinstance (by decide +kernel) (pa_cons (pv 0) (pa_cons (pe_bltn (v := .ty "tuple") (by rfl) T.m_tuple (by decide +kernel) rfl) pa_nil)))
      (pe_and (pe_callB (cr_all rfl) (by rfl) T.m_all (by decide +kernel) (pa_cons (pe_lc (own := [("item", 2)]) (g := gName 2) (tt := tYes) rfl nd (pi_tup (pv 0)) (blkOk_by (N := ["thing", "tuples", "item"]) (sc := defScope s_is_one_of) (by decide +kernel)) (fun _ _ _ _ _ => pg_name (i := 2) nd rfl (Or.inl rfl)) (fun _ _ _ _ _ => pts_nil)
        (fun _ _ _ _ _ => pe_call (ok_is_name N T) (hr.mono (by decide)) (by rfl) N.g N.F.kp bN .nil pass0 (pa_cons (pv 2) pa_nil))) pa_nil))
        (pe_one (pe_cmp (pc_din hu (pv 0) (pv 1))))))), ?_⟩
    rcases q with ⟨a, xs, rfl, ha, hz, hany, q⟩ | ⟨t, ht, nt, q⟩
    · refine ⟨_, rfl, _, .tup, _, rfl, AnyV.tup ha, by decide, _, rfl, ?_⟩
      refine ⟨_, rfl, a, rfl, ⟨_, SqT.of ha⟩, fun D hD => ?_⟩
      have sD := same_upd (o := .lst []) hD
      refine lc_it (walk_tup (K := K) (a := a) (xs := xs)) (fun i H' => H' D = some (.lst (((xs.take i).map nameV).map V.bl)) ∧ Same H H') ⟨upd_same, sD⟩ (fun i H' _ ⟨_, sm⟩ => SqT.of (sm _ _ ha)) ?_ ?_
      · rintro i y H' _ hi ⟨hz', sm⟩ ⟨rfl, hy⟩
        obtain ⟨t', hy'⟩ := hany y (List.mem_of_getElem? hy)
        refine ⟨rfl, _, rfl, y, t', rfl, hy'.same sm, _, hz', ?_, ?_, fun b o e => ?_⟩
        · rw [List.length_map, List.length_map, List.length_take, sizeLine_eq]
          omega
        · rw [upd_same, List.take_add_one, hy, List.map_append, List.map_append]
          rfl
        · rw [upd_ne (ne_of_none e hD)]
          exact sm _ _ e
      · rintro H' ⟨hz', sm⟩
        rw [List.take_length] at hz'
        refine ⟨D, _, rfl, SqL.of hz', _, rfl, ?_⟩
        have ea : ((xs.map nameV).all id) = xs.all nameV := by
          rw [List.all_map]
          rfl
        rw [ea]
        cases e : xs.all nameV with
        | false =>
          have q' := q H' sm
          unfold oneOf at q'
          rw [e] at q'
          exact q'
        | true =>
          obtain ⟨st, rfl, hst⟩ := textsV_names e
          have q' := q H' sm
          rw [oneOf_key kvs st hst] at q'
          exact ⟨_, rfl, _, rfl, d, _, rfl, DGet.t (k := kS st) (sm _ _ hd) (by rw [kS_v]; exact sm _ _ ha), q'⟩
    · have hb : t.isa "tuple" = false := by cases t <;> first | rfl | exact absurd rfl nt
      refine ⟨_, rfl, _, t, _, rfl, ht, by decide, _, rfl, ?_⟩
      rw [hb]
      exact q
theorem ok_is_table {f fI fN : Addr} {fd fdI fdN : FuncData} (D : Df K mg "is_table" s_is_table f fd) (I : Df K mg "are_integers" s_are_integers fI fdI) (bI : Binds K fdI ["thing", "many"] []) (N : Df K mg "is_integer" s_is_integer fN fdN) (bN : Binds K fdN ["thing"] []) (T : KT K mg) : FnOk P w K mg base CX0 3 f fd ["thing", "wanted", "many"] (spIsTable K) := by
  have S : FnScope ["thing", "wanted", "many", "key"] ["thing", "wanted", "many"] (defScope s_is_table) := ⟨rfl, rfl, rfl, by decide +kernel, rfl, by decide +kernel, by decide +kernel⟩
  refine D.F.ok S (fun vs H Q E h => ?_) (fun cdv A outer s H vs Q E hr h => ?_)
  · obtain ⟨x, p, sts, vs, n, good, rfl, _⟩ := h
    rfl
  · obtain ⟨x, p, sts, vs, n, good, rfl, hp, ht, hz, q⟩ := h
    have nd := S.nd
    have hu := hu_of hr
    have G := ok_are_integers (P := P) (w := w) (base := base) I N bN T
    refine ⟨_, pss_cons (ps_if (PW.pt (pw_or (pt_not (pt_val (pe_callB call_isi6 (by rfl) T.m_isinstance (by decide +kernel) (pa_cons (pv 0) (pa_cons (pe_bltn (v := .ty "dict") (by rfl) T.m_dict (by decide +kernel) rfl) pa_nil)))))
        (pw_or1 (pt_cmpR op_ne (pe_callB call_len_dT (by rfl) T.m_len PySem.boot_len (pa_cons (pv 0) pa_nil)) (pe_callB call_len_seq (by rfl) T.m_len PySem.boot_len (pa_cons (pv 1) pa_nil)) (nomark _))))) (pss_one (ps_ret pe_bl)) pss_nil)
      (pss_one (ps_ret (pe_callB (cr_all rfl) (by rfl) T.m_all (by decide +kernel) (pa_cons (pe_lc (own := [("key", 3)]) (g := gName 3) (tt := tYes) rfl nd (pi_list (pv 1)) (blkOk_by (N := ["thing", "wanted", "many", "key"]) (sc := defScope s_is_table) (by decide +kernel)) (fun _ _ _ _ _ => pg_name (i := 3) nd rfl (Or.inl rfl)) (fun _ _ _ _ _ => pts_nil)
        (fun _ _ _ _ _ => pe_and (pe_cmp (pc_din hu (pv 3) (pv 0))) (pe_one (pe_call G hr (by rfl) I.g I.F.kp bI .nil pass0 (pa_cons (pe_dget hu (pv 0) (pv 3) (fun _ _ => rfl)) (pa_cons (pv 2) pa_nil)))))) pa_nil)))), ?_⟩
    rcases q with ⟨d, kvs, rfl, hd, hc, q⟩ | ⟨t, htt, nt, q⟩
    · refine ⟨_, rfl, _, .dct, _, rfl, AnyV.dT hd, by decide, _, rfl, iteF ?_⟩
      refine ⟨_, rfl, d, kvs, rfl, hd, _, rfl, p, vs, rfl, .inl (SqL.of hp), rfl, _, rfl, ?_⟩
      have hl : sts.length = vs.length := Paired.length ht
      by_cases hn : kvs.length = sts.length
      · have e0 : (!decide (V.int ((kvs.length : Nat) : Int) = V.int (vs.length : Int))) = false := by rw [decide_eq_true (by rw [hn, hl])]; rfl
        rw [e0]
        refine iteF ⟨_, rfl, p, rfl, ⟨_, SqL.of hp⟩, fun D hD => ?_⟩
        have sD := same_upd (o := .lst []) hD
        refine lc_it (walk_list (K := K) (a := p) (xs := vs)) (fun i H' => H' D = some (.lst (((sts.take i).map good).map V.bl)) ∧ Same H H') ⟨upd_same, sD⟩ (fun i H' _ ⟨_, sm⟩ => SqL.of (sm _ _ hp)) ?_ ?_
        · rintro i y H0 H' hi ⟨hz', sm⟩ ⟨rfl, hy⟩
          obtain ⟨st, hst, a, rfl, ha⟩ := paired_get ht hy
          have fin : ∀ H2, Same H' H2 → ∃ acc, H2 D = some (.lst acc) ∧ acc.length < sizeLine ∧ (upd H2 D (.lst (acc ++ [V.bl (good st)]))) D = some (.lst (((sts.take (i + 1)).map good).map V.bl)) ∧ Same H (upd H2 D (.lst (acc ++ [V.bl (good st)]))) := fun H2 s2 => by
            refine ⟨_, s2 _ _ hz', small1000 ?_, ?_, fun b o e => ?_⟩
            · rw [List.length_map, List.length_map, List.length_take]
              omega
            · rw [upd_same, List.take_add_one, hst, List.map_append, List.map_append]
              rfl
            · rw [upd_ne (ne_of_none e hD)]
              exact s2 _ _ (sm _ _ e)
          have hd' := sm _ _ hd
          have ha' := sm _ _ ha
          have hg : DGet H' d (.ref a) (valV kvs (kS st)) := DGet.t (k := kS st) hd' (by rw [kS_v]; exact ha')
          refine ⟨rfl, _, rfl, _, rfl, d, _, rfl, hg, ?_⟩
          rcases (hc st (List.mem_of_getElem? hst)).same sm with ⟨e, eb⟩ | ⟨v, e, hv⟩
          · refine ⟨_, rfl, ?_⟩
            rw [e]
            have := fin H' (Same.refl _)
            rw [eb] at this
            exact this
          · refine ⟨_, rfl, ?_⟩
            rw [e]
            rw [e] at hg
            refine ⟨_, rfl, _, rfl, d, v, rfl, hg, _, rfl, v, n, rfl, ?_⟩
            rcases hv with ⟨xs, h1, h2, h3, eb⟩ | ⟨t, h1, n1, n2, eb⟩
            · refine .inl ⟨xs, h1, h2, h3, fun H2 s2 => ?_⟩
              have := fin H2 s2
              rw [eb] at this
              exact this
            · refine .inr ⟨t, h1, n1, n2, fun H2 s2 => ?_⟩
              have := fin H2 s2
              rw [eb] at this
              exact this
        · rintro H' ⟨hz', sm⟩
          rw [← hl, List.take_length] at hz'
          refine ⟨D, _, rfl, SqL.of hz', ?_⟩
          have q' := q H' sm
          rw [decide_eq_true hn, Bool.true_and] at q'
          have ea : ((sts.map good).all id) = sts.all good := by
            rw [List.all_map]
            rfl
          rw [ea]
          exact q'
      · have e0 : (!decide (V.int ((kvs.length : Nat) : Int) = V.int (vs.length : Int))) = true := by
          rw [decide_eq_false (fun z => hn (by have := V.int.inj z; omega))]
          rfl
        rw [e0]
        have q' := q H (Same.refl _)
        rw [decide_eq_false hn] at q'
        exact iteT q'
    · refine ⟨_, rfl, _, t, _, rfl, htt, by decide, _, rfl, ?_⟩
      rw [dim_dct (K := K) (H := H) (x := x) nt]
      exact iteT (q H (Same.refl _))
end
end HG

namespace HG
open PySem PySem.Spec PyProof.Rows L2
/-! ### a dict made by a comprehension, keys of either kind: what is put in is told by DPut -/
section
variable {X : Cx}
/-- dictSet, as DPut tells -/
theorem put_by {pins : List (Addr × Obj)} {σ : L2.St} {H H' : Hp} {s : Shared} {E : Value → Shared → Prop} {D : Addr} {y v : V} {u r : Value} {Q : Unit → Shared → Prop} (hu : X.A.units < cLine) (I : Inv X pins σ H s) (g : DPut H D y v H') (ry : RelV y u) (rv : RelV v r)
    (h : ∀ s', Inv X pins σ H' s' → Q () s') : wpAny (model X.prog X.w) X.A (dictSet D u r) Q E s := by
  rcases g with ⟨kvs, k, e, ey, l, eH⟩ | ⟨kvs, k, b, e, ey, eb, l, eH⟩
  · subst ey eH
    exact d_dictSet I e l ry rv h
  · subst ey eH
    cases (show u = Value.ref b from ry)
    obtain ⟨z, hd, xs, rel, dd⟩ := dt_of I.hok e
    have hx : xs.length < sizeLine := (Paired.length rel) ▸ l
    refine wpAny_dictSet_heap (hsz := Nat.le_of_lt hx) (show (tupleKind (mixKind X.prog X.w)).room X.A from hu) (key_of I.hok eb) dd fun h' ⟨q, es, ep, hq, h2, h3, h4, _, h5⟩ hs => h _ ?_
    have few := length_putK kvs k v
    refine d_write I (by rw [e]; exact True.intro) hs ⟨q, hq⟩ ⟨by omega, hd, _, (rel.put k eb rv).keeps fun c ys ec => ?_, q, es, ep, hq, h2, h3, h4, h5⟩
    rw [upd_ne (ne_of ec e (fun z => nomatch z))]
    exact ec
/-- one turn: the target's store, the tests, key and value, what is put in -/
def tTurn (g : TG) (tt : TT) (tk tv : TE) (D : Addr) (σ0 : L2.St) (vs : List Nat) : V → Hp → (Hp → Prop) → Prop := fun x H Nx => g x σ0 H fun σ2 H2 => wipe σ2 vs = σ0 ∧ tt σ2 H2 fun b H3 =>
  match b with
  | true => tk σ2 H3 fun y H4 => tv σ2 H4 fun z H5 => ∃ H6, DPut H5 D y z H6 ∧ Nx H6
  | false => Nx H3
/-- the whole of it, begun with o0 -/
def tDcP (o0 : HO) (wi : TI) (g : TG) (tt : TT) (tk tv : TE) (vs : List Nat) : TE := fun σ H Q => wi σ H fun J H1 => ∀ D, H1 D = none → ∃ W : Nat → Nat → Hp → Prop, (∃ m, W 0 m (upd H1 D o0)) ∧ ∀ i m H, W i m H →
  (J.stop i H ∧ Q (.ref D) H) ∨ (J.go i H ∧ ∃ Nx : Hp → Prop, (∀ H', Nx H' → ∃ m', m' < m ∧ W (i + 1) m' H') ∧ ∀ x H', J.yld i H x H' → tTurn g tt tk tv D (wipe σ vs) vs x H' Nx)
abbrev HB (X : Cx) (scope : Scope) (f : Shared → Hp → Env → List Addr → Prop) : Prop := ∀ (s : Shared) (H : Hp) (C : Addr) (cl : List (Str × Addr)) (fp : List Addr), f s H (compEnvC scope cl C X.env) fp
theorem pe_dcP {o0 : HO} {kx vx tg iter : Expr} {ifs : List Expr} {scope : Scope} {own : List (Str × Nat)} {pos : Pos} {wi : TI} {g : TG} {tt : TT} {tk tv : TE} (h0 : o0 = .dK [] ∨ o0 = .dT []) (hu : X.A.units < cLine) (hc : X.calm = true) (hN : X.N.Nodup) (hi : PI X tg iter wi) (ok : BlkOk X.N X.env.scope scope own)
    (hg : HB X scope fun s H e fp => PG (X.blk s H scope e fp) tg g) (ht : HB X scope fun s H e fp => PTs (X.blk s H scope e fp) ifs tt)
    (hk : HB X scope fun s H e fp => PE (X.blk s H scope e fp) kx tk) (hv : HB X scope fun s H e fp => PE (X.blk s H scope e fp) vx tv) (hs : ∀ x, foldedSetIterable iter X.env x = pure x := by intro _; rfl) :
    PE X (.DictComp kx vx [⟨tg, iter, ifs, 0⟩] scope pos) (tDcP o0 wi g tt tk tv (own.map (·.2))) := by
  refine ⟨fun pins s σ H Q I h => ?_⟩
  rw [arm_eval_DictComp]
  have free : ∀ y ∈ scope.names, y.2 = .free → ∃ c, X.env.cells.lookup y.1 = some c := fun y hy e => (ok.free y hy e).elim (fun k => I.ok.has _ (.inl k)) (fun k => I.ok.has _ (.inr k))
  refine wpAny_comprehension_free rfl hs (closure_ok free) ok.kind (fun y hy e => by rw [ok.uniq y hy, e])
    (thn (hi.run pins s σ H _ I h) fun xv s1 hx => thn hx fun itv s2 ⟨it, fp, tn, J, H2, e, I2, T, st2, f2, q⟩ => ?_)
  subst e
  refine wpAny_newObj_type (newEnv_comp ?_)
  have nD : H2 s2.heap.objs.size = none := I2.hok.fresh (Nat.le_refl _)
  obtain ⟨W, ⟨m0, w0⟩, turn⟩ := q _ nD
  -- the new dict
  have I3 : Inv X pins σ (upd H2 s2.heap.objs.size o0) ({ s2 with heap := s2.heap.push { cls := .type "dict", data := .dict #[] } } : Shared) := by
    refine I2.laid (t' := s2.toks) (fun b o e => Heap.get?_push_of_some _ e) (Nat.le_refl _) ?_
    rcases h0 with rfl | rfl
    · exact dk_empty s2.heap I2.big
    · exact dt_empty s2.heap I2.big
  generalize hD : s2.heap.objs.size = D at I3 w0 turn ⊢
  generalize hs3 : ({ s2 with heap := s2.heap.push { cls := .type "dict", data := .dict #[] } } : Shared) = s3 at I3
  have e3 : s3.heap = s2.heap.push { cls := .type "dict", data := .dict #[] } := by rw [← hs3]
  have f3 : ∀ b ∈ fp, FpOk X pins (upd H2 D o0) b ∧ b < s3.heap.objs.size := fun b hb => by
    obtain ⟨o, eo, _⟩ := T.obj _ _ st2 b hb
    have lt := Heap.lt_size eo
    refine ⟨⟨?_, (f2 b hb).2⟩, by rw [e3, Heap.size_push]; exact Nat.lt_succ_of_lt lt⟩
    rw [upd_ne (by rw [← hD]; exact Nat.ne_of_lt lt)]
    exact (f2 b hb).1
  have I4 := block_start I3 ok hN f3
  have pg := hg s3 (upd H2 D o0) s3.heap.objs.size (cellsFrom (s3.heap.objs.size + 1) scope.names (cloFrom X.env.cells scope.names [])) fp
  have pt := ht s3 (upd H2 D o0) s3.heap.objs.size (cellsFrom (s3.heap.objs.size + 1) scope.names (cloFrom X.env.cells scope.names [])) fp
  have pk := hk s3 (upd H2 D o0) s3.heap.objs.size (cellsFrom (s3.heap.objs.size + 1) scope.names (cloFrom X.env.cells scope.names [])) fp
  have pv := hv s3 (upd H2 D o0) s3.heap.objs.size (cellsFrom (s3.heap.objs.size + 1) scope.names (cloFrom X.env.cells scope.names [])) fp
  show codeAny _ _ (.compStart (.DictComp kx vx [⟨tg, iter, ifs, 0⟩] scope pos) 0 (.ref it) (.ref D) (compEnvC scope (cellsFrom (s3.heap.objs.size + 1) scope.names (cloFrom X.env.cells scope.names [])) s3.heap.objs.size X.env)) (compPost (model X.prog X.w) X.A X.xe _ _ (.ref D) s3.heap.objs.size) { s3 with heap := pushCells (s3.heap.push { cls := .type "dict", data := .dict #[] }) scope.names }
  generalize hce : compEnvC scope (cellsFrom (s3.heap.objs.size + 1) scope.names (cloFrom X.env.cells scope.names [])) s3.heap.objs.size X.env = ce at I4 pg pt pk pv ⊢
  have cL : ce.locals = s3.heap.objs.size := by subst hce; rfl
  generalize hH3 : upd H2 D o0 = H3 at I3 I4 pg pt pk pv w0 f3
  generalize hs4 : ({ s3 with heap := pushCells (s3.heap.push { cls := .type "dict", data := .dict #[] }) scope.names } : Shared) = s4 at I4 ⊢
  have st4 : tn 0 s4.heap := by
    refine T.keep _ _ _ st2 fun b _ o e => ?_
    rw [← hs4]
    exact pushCells_keeps _ _ _ _ (Heap.get?_push_of_some _ (by rw [e3]; exact Heap.get?_push_of_some _ e))
  -- what holds between the turns
  let B : Nat → Nat → L2.St → Hp → Shared → Prop := fun i m τ H' s' => Inv (X.blk s3 H3 scope ce fp) [] τ H' s' ∧ tn i s'.heap ∧ (∀ b ∈ fp, H' b = none) ∧ W i m H'
  have fps : ∀ {τ H' s'}, Inv (X.blk s3 H3 scope ce fp) [] τ H' s' → (∀ b ∈ fp, H' b = none) → ∀ b ∈ fp, FpOk (X.blk s3 H3 scope ce fp) [] H' b := fun {τ H' s'} I' n' b hb =>
    ⟨n' b hb, (I'.ok.exf b hb).1, I'.ok.exfs b hb, .inl hb, fun x c e => (I'.ok.exf b hb).2 x c e, fun p hp => absurd (show p ∈ ([] : List (Addr × Obj)) ++ [] from hp) (by simp)⟩
  refine (fun loop => codeAny_compStart_dict loop (T.self X.A 0 _ _ _ st4 loop)) ?_
  refine compLoop_anyD (fun m s' => ∃ i H', B i m (wipe σ (own.map (·.2))) H' s') ?_ m0 ⟨0, H3, I4, st4, fun b hb => (f3 b hb).1.1, w0⟩
  rintro m s5 ⟨i, H5, I5, st5, n5, w5⟩
  have F5 := fps I5 n5
  rcases turn i m H5 w5 with ⟨stop, last⟩ | ⟨go, Nx, next, step⟩
  · refine thnF (T.done (X.blk s3 H3 scope ce fp) rfl rfl rfl hc i [] s5 _ H5 (fun _ _ => False) I5 F5 st5 stop) fun r s6 ⟨hr, I6⟩ => ?_
    subst hr
    have I7 : Inv X pins σ H5 s6 := I3.call' (ch := fp) I6.os I6.base I6.hok I6.bare fun b hb => ⟨(f3 b hb).1.2.2.2.1, (f3 b hb).1.2.1, (f3 b hb).1.2.2.2.2.1, (f3 b hb).1.2.2.2.2.2⟩
    have nC : H5 s3.heap.objs.size = none := cL ▸ (show H5 ce.locals = none from I6.free)
    obtain ⟨k, hk6, _⟩ := I6.loc
    have hk6 : s6.heap.Ns s3.heap.objs.size k := cL ▸ (show s6.heap.Ns ce.locals k from hk6)
    refine ⟨k, hk6, fun h'' sb => ?_⟩
    obtain ⟨g0, g1, g2, g3, g4, g5⟩ := I3.fpOk (Nat.le_refl _) nC
    exact ⟨.ref D, H5, I7.turned (t' := s6.toks) (fun b o hb e => (sb.2 b hb).trans e) g0 g1 g3 g4 g5, rfl, last⟩
  · refine thnF (T.item (X.blk s3 H3 scope ce fp) rfl rfl rfl hc i [] s5 _ H5 (fun _ _ => False) I5 F5 st5 go) fun r s6 ⟨u, hr, h6⟩ => ?_
    subst hr
    refine thnF h6 fun _ s7 ⟨x, H7, I7, r7, y7, st7, n7⟩ => ?_
    have P7 := I7.pinned (fps I7 n7) (T.obj _ _ st7)
    refine thnF (pg.run _ s7 _ H7 x u _ P7 r7 (step x H7 y7)) fun _ s8 ⟨σ8, H8, I8, e8, q8⟩ => ?_
    refine thnF (pt.run _ s8 σ8 H8 _ I8 q8) fun b s9 ⟨H9, I9, q9⟩ => ?_
    have fin : ∀ {s' : Shared} {H' : Hp}, Inv (X.blk s3 H3 scope ce fp) ([] ++ pinsAt fp s7.heap) σ8 H' s' → Nx H' → ∃ m', m' < m ∧ ∃ i H', B i m' (wipe σ (own.map (·.2))) H' s' := fun {s' H'} I' nx => by
      obtain ⟨m', lt, w'⟩ := next H' nx
      have same : ∀ b ∈ fp, ∀ o, s7.heap.get? b = some o → s'.heap.get? b = some o ∧ H' b = none := fun b hb o e =>
        let z := I'.pin (b, o) (List.mem_append_right _ (List.mem_append_right _ (mem_pinsAt hb e)))
        ⟨z.1, z.2.1⟩
      refine ⟨m', lt, i + 1, H', (I'.unpinned (pins := [])).weak (by rw [← e8, wipe_length]) (fun j v e => by rw [← e8] at e; exact (wipe_some e).1), T.keep _ _ _ st7 fun b hb o e => (same b hb o e).1, fun b hb => ?_, w'⟩
      obtain ⟨o, e, _⟩ := T.obj _ _ st7 b hb
      exact (same b hb o e).2
    cases b with
    | false => exact fin I9 q9
    | true =>
      refine thnF (pk.run _ s9 σ8 H9 _ I9 q9) fun z s10 ⟨yk, H10, I10, r10, q10⟩ => ?_
      refine thnF (pv.run _ s10 σ8 H10 _ I10 q10) fun z2 s11 ⟨yv, H11, I11, r11, H12, pu, nx⟩ => ?_
      exact put_by (X := X.blk s3 H3 scope ce fp) hu I11 pu r10 r11 fun s12 I12 => fin I12 nx
end
end HG

namespace HG
open PySem PySem.Spec PyProof.Rows L2
open C8 (pss_cut tCut)
/-! ### standings -/
theorem mul1_nd {sts : List (List Str)} {ws : List Str} (h : sts.Nodup) (hw : ws.Nodup) : (mul1 sts ws).Nodup := by
  unfold mul1
  induction sts with
  | nil => exact List.nodup_nil
  | cons a r ih =>
    rw [List.nodup_cons] at h
    rw [List.flatMap_cons, List.nodup_append]
    refine ⟨?_, ih h.2, ?_⟩
    · rw [List.Nodup, List.pairwise_map]
      exact List.Pairwise.imp (fun {x y} hne e => hne (by simpa using e)) hw
    · intro x hx y hy e
      subst e
      obtain ⟨w, _, rfl⟩ := List.mem_map.mp hx
      obtain ⟨z, hz, hy⟩ := List.mem_flatMap.mp hy
      obtain ⟨v, _, e⟩ := List.mem_map.mp hy
      have := (List.append_inj' e rfl).1
      subst this
      exact h.1 hz
theorem stds_nd {S : List Way} (h : ∀ q ∈ S, q.2.Nodup) : (stds S).Nodup := by
  have key : ∀ (S : List Way) (sts : List (List Str)), (∀ q ∈ S, q.2.Nodup) → sts.Nodup → (S.foldl (fun sts q => mul1 sts q.2) sts).Nodup := by
    intro S
    induction S with
    | nil => exact fun sts _ h => h
    | cons q r ih => exact fun sts h hs => ih _ (fun q hq => h q (List.mem_cons_of_mem _ hq)) (mul1_nd hs (h q List.mem_cons_self))
  exact key S _ h (List.nodup_cons.mpr ⟨List.not_mem_nil, List.nodup_nil⟩)
theorem stds_len {S : List Way} (h : ∀ q ∈ S, q.2.length ≤ 4) : (stds S).length ≤ 4 ^ S.length := by
  have key : ∀ (S : List Way) (sts : List (List Str)), (∀ q ∈ S, q.2.length ≤ 4) → (S.foldl (fun sts q => mul1 sts q.2) sts).length ≤ sts.length * 4 ^ S.length := by
    intro S
    induction S with
    | nil => exact fun sts _ => by simp
    | cons q r ih =>
      intro sts h
      refine Nat.le_trans (ih _ fun q hq => h q (List.mem_cons_of_mem _ hq)) ?_
      rw [mul1_len, List.length_cons, Nat.pow_succ, Nat.mul_assoc, Nat.mul_comm q.2.length, Nat.mul_comm (4 ^ r.length) 4, ← Nat.mul_assoc, ← Nat.mul_assoc]
      have h4 := h q List.mem_cons_self
      calc sts.length * 4 ^ r.length * q.2.length ≤ sts.length * 4 ^ r.length * 4 := Nat.mul_le_mul_left _ h4
        _ = sts.length * 4 * 4 ^ r.length := by rw [Nat.mul_assoc, Nat.mul_comm (4 ^ r.length), ← Nat.mul_assoc]
  have := key S [[]] h
  simpa [stds] using this
theorem stds_names {S : List Way} (h : ∀ q ∈ S, ∀ z ∈ q.2, isNm z = true) {st : List Str} (hm : st ∈ stds S) : ∀ z ∈ st, isNm z = true := by
  have key : ∀ (S : List Way) (sts : List (List Str)), (∀ q ∈ S, ∀ z ∈ q.2, isNm z = true) → (∀ st ∈ sts, ∀ z ∈ st, isNm z = true) → ∀ st ∈ S.foldl (fun sts q => mul1 sts q.2) sts, ∀ z ∈ st, isNm z = true := by
    intro S
    induction S with
    | nil => exact fun sts _ h => h
    | cons q r ih =>
      refine fun sts h hs => ih _ (fun q hq => h q (List.mem_cons_of_mem _ hq)) fun st hst z hz => ?_
      obtain ⟨y, hy, hst⟩ := List.mem_flatMap.mp hst
      obtain ⟨w, hw, rfl⟩ := List.mem_map.mp hst
      rcases List.mem_append.mp hz with hz | hz
      · exact hs y hy z hz
      · rw [List.mem_singleton.mp hz]
        exact h q List.mem_cons_self w hw
  exact key S [[]] h (fun st hst z hz => by rw [List.mem_singleton.mp hst] at hz; cases hz) st hm
theorem sh_len (W : List Way) : (sh W).length = W.length := by
  unfold sh
  rw [List.length_map, srt_len, List.length_map]
theorem sh_of {W : List Way} (hN : (W.map (·.1)).Nodup) {q : Way} (h : q ∈ sh W) : ∃ q0 ∈ W, q = (q0.1, srt q0.2) := by
  obtain ⟨k, hk, rfl⟩ := List.mem_map.mp h
  obtain ⟨q0, h0, rfl⟩ := List.mem_map.mp (srt_mem.mp hk)
  exact ⟨q0, h0, by rw [lookW_of hN h0]⟩
structure SOk (S : List Way) : Prop where
  nd : (S.map (·.1)).Nodup
  n1 : 1 ≤ S.length
  n4 : S.length ≤ 4
  nm : ∀ q ∈ S, isNm q.1 = true
  wd : ∀ q ∈ S, q.2.Nodup
  w1 : ∀ q ∈ S, 1 ≤ q.2.length
  w4 : ∀ q ∈ S, q.2.length ≤ 4
  wn : ∀ q ∈ S, ∀ z ∈ q.2, isNm z = true
theorem WOk.sok {W : List Way} (h : WOk W) : SOk (sh W) where
  nd := by
    rw [show (sh W).map (·.1) = srt (W.map (·.1)) by unfold sh; rw [List.map_map]; exact List.map_id _]
    exact srt_nd h.nd
  n1 := by rw [sh_len]; exact h.n1
  n4 := by rw [sh_len]; exact h.n4
  nm := fun q hq => let ⟨q0, h0, e⟩ := sh_of h.nd hq; e ▸ h.nm q0 h0
  wd := fun q hq => let ⟨q0, h0, e⟩ := sh_of h.nd hq; e ▸ srt_nd (h.wd q0 h0)
  w1 := fun q hq => let ⟨q0, h0, e⟩ := sh_of h.nd hq; by rw [e]; show 1 ≤ (srt q0.2).length; rw [srt_len]; exact h.w1 q0 h0
  w4 := fun q hq => let ⟨q0, h0, e⟩ := sh_of h.nd hq; by rw [e]; show (srt q0.2).length ≤ 4; rw [srt_len]; exact h.w4 q0 h0
  wn := fun q hq z hz => let ⟨q0, h0, e⟩ := sh_of h.nd hq; by rw [e] at hz; exact h.wn q0 h0 z (srt_mem.mp hz)
theorem SOk.take {S : List Way} (h : SOk S) (i : Nat) : (stds (S.take i)).length ≤ 256 := by
  refine Nat.le_trans (stds_len fun q hq => h.w4 q (List.mem_of_mem_take hq)) ?_
  have : (S.take i).length ≤ 4 := Nat.le_trans (by rw [List.length_take]; exact Nat.min_le_right _ _) h.n4
  exact Nat.le_trans (Nat.pow_le_pow_right (by decide) this) (by decide)
theorem SOk.few {S : List Way} (h : SOk S) : (stds S).length ≤ 256 := by
  have := h.take S.length
  rwa [List.take_length] at this
/-! ### games -/
/-- a table handed in: rows of integers, as lists or tuples -/
def TabAt (K : PySem.W.Frag) (H : Hp) (d : Addr) (sts : List (List Str)) (n : Nat) (γ : List Str → List Int) : Prop := ∃ kvs, H d = some (.dT kvs) ∧ kvs.length = sts.length ∧ ∀ st ∈ sts, (γ st).length = n ∧ ∃ v, valV kvs (kS st) = some v ∧ SeqV K H v ((γ st).map V.int)
def KvG (K : PySem.W.Frag) (H : Hp) (γ : List Str → List Int) (st : List Str) (kv : List Key × V) : Prop := kv.1 = kS st ∧ ∃ a, kv.2 = .ref a ∧ SqT K H a ((γ st).map V.int)
/-- a game; N: of its own cells that could be changed -/
structure GameAt (K : PySem.W.Frag) (C : Addr) (N : Addr → Prop) (H : Hp) (g : Addr) (S : List Way) (γ : List Str → List Int) (dx w l t : Addr) (vs : List V) (kvs : List (List Key × V)) : Prop where
  hg : H g = some (.ins C dx [("way_lists", .ref w), ("standing_list", .ref l), ("gain_table", .ref t)])
  ng : N g
  hw : ShL N H w S
  nw : N w
  hl : H l = some (.lst vs)
  nl : N l
  hs : TupsAt H (stds S) vs
  ht : H t = some (.dT kvs)
  nt : N t
  hk : Paired (KvG K H γ) (stds S) kvs
theorem KvG.same {K : PySem.W.Frag} {H H' : Hp} {γ : List Str → List Int} {st : List Str} {kv : List Key × V} (h : KvG K H γ st kv) (s : Same H H') : KvG K H' γ st kv := ⟨h.1, let ⟨a, e, q⟩ := h.2; ⟨a, e, same_sqt s q⟩⟩
def SameX (x : Addr) (H H' : Hp) : Prop := ∀ b o, b ≠ x → H b = some o → H' b = some o
end HG

namespace HG
open PySem PySem.Spec PyProof.Rows L2
open C8 (pss_cut tCut)
/-- a statement that is never reached -/
theorem ps_never {X : Cx} {st : Stmt} : PS X st (fun _ _ _ => False) := ⟨fun _ _ _ _ _ _ h => h.elim⟩
theorem pss_never {X : Cx} {st : List Stmt} : PSs X st (fun _ _ _ => False) := ⟨fun _ _ _ _ _ _ h => h.elim⟩
def rTupOf (K : PySem.W.Frag) : List V → Hp → VK → Prop := fun xs H Q => ∃ p ys, xs = [.ref p] ∧ ((SqL K H p ys ∧ ∀ l, H l = none → Q (.ref l) (upd H l (.tup ys))) ∨ (SqT K H p ys ∧ Q (.ref p) H))
theorem call_tup {X : Cx} : CallR X (.type "tuple") (rTupOf X.K) := call_tuple_of
structure GC (K : PySem.W.Frag) (C : Addr) : Prop where
  cl : Cls K C
  nW : NoAttr K C "way_lists"
  nL : NoAttr K C "standing_list"
  nG : NoAttr K C "gain_table"
def spInit (K : PySem.W.Frag) (C : Addr) : Sp := fun args H Q _ => ∃ (x d gd dx : Addr) (W : List Way) (γ : List Str → List Int), args = [.ref x, .ref d, .ref gd] ∧ H x = some (.ins C dx []) ∧ ShAt H d W ∧ WOk W ∧ TabAt K H gd (stds (sh W)) W.length γ ∧
  ∀ H' w l t vs kvs, SameX x H H' → GameAt K C (fun a => H a = none ∨ a = x) H' x (sh W) γ dx w l t vs kvs → Q .non H'
theorem ints_any {K : PySem.W.Frag} {H : Hp} {xs : List Int} : ∀ y ∈ xs.map V.int, ∃ t, AnyV K H y t ∧ (t.isa "int" && !t.isa "bool") = intV y := by
  intro y hy
  obtain ⟨i, _, rfl⟩ := List.mem_map.mp hy
  exact ⟨.int, .int i, rfl⟩
theorem ints_all (xs : List Int) : (xs.map V.int).all intV = true := by
  rw [List.all_eq_true]
  intro y hy
  obtain ⟨i, _, rfl⟩ := List.mem_map.mp hy
  rfl
theorem SameX.same {x : Addr} {H H' H'' : Hp} (h : SameX x H H') (s : Same H' H'') : SameX x H H'' := fun b o hb e => s _ _ (h b o hb e)
theorem SameX.of {x : Addr} {H H' : Hp} (h : Same H H') : SameX x H H' := fun b o _ e => h _ _ e
theorem SameX.upd {x : Addr} {H H' : Hp} {o : HO} (h : SameX x H H') : SameX x H (upd H' x o) := fun b u hb e => by
  rw [upd_ne hb]
  exact h b u hb e
theorem AnyV.ofL {K : PySem.W.Frag} {H : Hp} {a : Addr} {xs : List V} (h : SqL K H a xs) : AnyV K H (.ref a) .lst := by
  rcases h with (h | ⟨o, h⟩) | ⟨o, its, n, h, c, _⟩
  · exact .lst h
  · exact ⟨⟨_, .base (.frz h), six_ty (by decide +kernel)⟩, (fun z => nomatch z), (fun _ z e => nomatch e)⟩
  · exact ⟨⟨_, .kList h c, six_ty (by decide +kernel)⟩, (fun z => nomatch z), (fun _ z e => nomatch e)⟩
theorem AnyV.ofT {K : PySem.W.Frag} {H : Hp} {a : Addr} {xs : List V} (h : SqT K H a xs) : AnyV K H (.ref a) .tup := by
  rcases h with (h | ⟨o, h⟩) | ⟨o, its, n, h, c, _⟩
  · exact .tup h
  · exact ⟨⟨_, .fTuple h, six_ty (by decide +kernel)⟩, (fun z => nomatch z), (fun _ z e => nomatch e)⟩
  · exact ⟨⟨_, .kTuple h c, six_ty (by decide +kernel)⟩, (fun z => nomatch z), (fun _ z e => nomatch e)⟩
def NotIns (o : HO) : Prop := ∀ C dx fs, o ≠ .ins C dx fs
theorem seqL_keep {K : PySem.W.Frag} {H H' : Hp} {a : Addr} {xs : List V} (h : SqL K H a xs) (k : ∀ b o, NotIns o → H b = some o → H' b = some o) : SqL K H' a xs := by
  rcases h with (h | ⟨o, h⟩) | h
  · exact .inl (.inl (k _ _ (by intro _ _ _ z; cases z) h))
  · exact .inl (.inr ⟨o, k _ _ (by intro _ _ _ z; cases z) h⟩)
  · exact .inr h
theorem seqT_keep {K : PySem.W.Frag} {H H' : Hp} {a : Addr} {xs : List V} (h : SqT K H a xs) (k : ∀ b o, NotIns o → H b = some o → H' b = some o) : SqT K H' a xs := by
  rcases h with (h | ⟨o, h⟩) | h
  · exact .inl (.inl (k _ _ (by intro _ _ _ z; cases z) h))
  · exact .inl (.inr ⟨o, k _ _ (by intro _ _ _ z; cases z) h⟩)
  · exact .inr h
theorem SeqV.keep {K : PySem.W.Frag} {H H' : Hp} {v : V} {xs : List V} (h : SeqV K H v xs) (k : ∀ b o, NotIns o → H b = some o → H' b = some o) : SeqV K H' v xs := by
  cases h with
  | lst h _ => exact .lst (seqL_keep h k) (AnyV.ofL (seqL_keep h k))
  | tup h _ => exact .tup (seqT_keep h k) (AnyV.ofT (seqT_keep h k))
section
variable {P : Program} {w : World} {K : PySem.W.Frag} {mg : Str → Option Value} {base : Heap}
structure GD (K : PySem.W.Frag) (mg : Str → Option Value) (fShape fNames fName fSorted fStds fTable fInts fInt fOne fPut : Addr) (dShape dNames dName dSorted dStds dTable dInts dInt dOne dPut : FuncData) : Prop where
  T : KT K mg
  m_sorted : mg "sorted" = none
  shape : Df K mg "is_shape" s_is_shape fShape dShape
  names : Df K mg "are_names" s_are_names fNames dNames
  name : Df K mg "is_name" s_is_name fName dName
  sorted : Df K mg "sorted_ways" s_sorted_ways fSorted dSorted
  stds : Df K mg "standings_of" s_standings_of fStds dStds
  table : Df K mg "is_table" s_is_table fTable dTable
  aInts : Df K mg "are_integers" s_are_integers fInts dInts
  aInt : Df K mg "is_integer" s_is_integer fInt dInt
  one : Df K mg "is_one_of" s_is_one_of fOne dOne
  put : Df K mg "put" s_put fPut dPut
  bShape : Binds K dShape ["thing"] []
  bNames : Binds K dNames ["thing"] []
  bName : Binds K dName ["thing"] []
  bSorted : Binds K dSorted ["ways"] []
  bStds : Binds K dStds ["way_lists"] []
  bTable : Binds K dTable ["thing", "wanted", "many"] []
  bInts : Binds K dInts ["thing", "many"] []
  bInt : Binds K dInt ["thing"] []
  bOne : Binds K dOne ["thing", "tuples"] []
  bPut : Binds K dPut ["items", "at", "item"] []
variable {fShape fNames fName fSorted fStds fTable fInts fInt fOne fPut : Addr} {dShape dNames dName dSorted dStds dTable dInts dInt dOne dPut : FuncData}
theorem ok_init {C f : Addr} {fd : FuncData} (G : GD K mg fShape fNames fName fSorted fStds fTable fInts fInt fOne fPut dShape dNames dName dSorted dStds dTable dInts dInt dOne dPut) (c : GC K C) (F : Fun K "__init__" "Game.__init__" s_Game___init f fd) :
    FnOk P w K mg base CX0 4 f fd ["self", "ways", "gains"] (spInit K C) := by
  have S : FnScope ["self", "ways", "gains", "way_lists", "standings", "standing"] ["self", "ways", "gains"] (defScope s_Game___init) := ⟨rfl, rfl, rfl, by decide +kernel, rfl, by decide +kernel, by decide +kernel⟩
  refine F.ok S (fun vs H Q E h => ?_) (fun cdv A outer s H vs Q E hr h => ?_)
  · obtain ⟨x, d, gd, dx, W, γ, rfl, _⟩ := h
    rfl
  · obtain ⟨x, d, gd, dx, W, γ, rfl, hx, hsh, ok, ⟨tv, hgd, hgl, hgv⟩, q⟩ := h
    have nd := S.nd
    have hu := hu_of hr
    have T := G.T
    refine ⟨_, pss_cons (ps_if (pt_not (pt_val (pe_call (ok_is_shape (P := P) (w := w) (base := base) G.shape G.names G.bNames G.name G.bName T) hr (by rfl) G.shape.g G.shape.F.kp G.bShape .nil pass0 (pa_cons (pv 1) pa_nil)))) pss_never pss_nil)
      (pss_cons (ps_set (i := 3) nd rfl (Or.inl rfl) (pe_call (ok_sorted_ways G.sorted G.m_sorted) (hr.mono (by decide)) (by rfl) G.sorted.g G.sorted.F.kp G.bSorted .nil pass0 (pa_cons (pv 1) pa_nil)))
      (pss_cons (ps_set (i := 4) nd rfl (Or.inl rfl) (pe_call (ok_standings_of G.stds) (hr.mono (by decide)) (by rfl) G.stds.g G.stds.F.kp G.bStds .nil pass0 (pa_cons (pv 3) pa_nil)))
      (pss_cons (ps_if (pt_not (pt_val (pe_call (ok_is_table G.table G.aInts G.bInts G.aInt G.bInt T) hr (by rfl) G.table.g G.table.F.kp G.bTable .nil pass0 (pa_cons (pv 2) (pa_cons (pv 4) (pa_cons (pe_callB call_lenD (by rfl) T.m_len PySem.boot_len (pa_cons (pv 3) pa_nil)) pa_nil)))))) pss_never pss_nil)
      (pss_cons (ps_fld (pv 0) (pv 3) rfl)
      (pss_cons (ps_fld (pv 0) (pv 4) rfl)
      (pss_one (ps_fld (pv 0) (pe_dcP (o0 := .dT []) (own := [("standing", 5)]) (g := gName 5) (tt := tYes) (.inr rfl) (Nat.lt_of_succ_lt hu) rfl nd (pi_list (pv 4)) (blkOk_by (N := ["self", "ways", "gains", "way_lists", "standings", "standing"]) (sc := defScope s_Game___init) (by decide +kernel))
        (fun _ _ _ _ _ => pg_name (i := 5) nd rfl (Or.inl rfl)) (fun _ _ _ _ _ => pts_nil) (fun _ _ _ _ _ => pv 5)
        (fun _ _ _ _ _ => pe_callTy (T := "tuple") (r := rTupOf K) call_tup (by rfl) T.m_tuple (by decide +kernel) (pa_cons (pe_dget hu (pv 2) (pv 5) (fun _ _ => rfl)) pa_nil))) rfl))))))), ?_⟩
    have sok := ok.sok
    refine ⟨_, rfl, d, W, rfl, hsh, ok, fun H1 s1 => ⟨_, rfl, iteF ?_⟩⟩
    refine ⟨_, rfl, d, W, rfl, hsh.same s1, ok.nd, Nat.lt_of_le_of_lt ok.n4 (by decide), fun q hq => Nat.lt_of_le_of_lt (ok.w4 q hq) (by decide), fun H2 p2 s2 n2 hS => ?_⟩
    refine ⟨_, rfl, p2, sh W, _, rfl, hS, fun i _ => sok.take i, sok.w4, sok.n4, fun H3 p3 vs s3 n3 h3 t3 => ?_⟩
    obtain ⟨kw, hkw, pkw⟩ := hS.same s3
    have hlen : kw.length = W.length := by rw [← Paired.length pkw, sh_len]
    have s13 := s1.trans (s2.trans s3)
    refine ⟨_, rfl, _, rfl, _, rfl, p2, kw, rfl, hkw, .ref gd, p3, stds (sh W), vs, _, fun _ => true, rfl, h3, t3, sok.few, .inl ⟨gd, tv, rfl, s13 _ _ hgd, fun st hst => ?_, fun H4 s4 => ?_⟩⟩
    · obtain ⟨hn, v, hv, hq⟩ := hgv st hst
      refine .inr ⟨v, hv, .inl ⟨_, hq.same s13, small1000 (by rw [List.length_map, hn]; have := ok.n4; omega), ints_any, ?_⟩⟩
      rw [ints_all, List.length_map, hn, hlen, decide_eq_true rfl]
      rfl
    have eT : (decide (tv.length = (stds (sh W)).length) && (stds (sh W)).all fun _ => true) = true := by
      rw [decide_eq_true hgl, Bool.true_and, List.all_eq_true]
      exact fun _ _ => rfl
    rw [eT]
    refine ⟨_, rfl, iteF ?_⟩
    have s14 := s13.trans s4
    have hx4 := s14 _ _ hx
    refine ⟨_, rfl, _, rfl, x, C, dx, _, rfl, hx4, c.cl, c.nW, (by show 0 < 1000; decide), ?_⟩
    refine ⟨_, rfl, _, rfl, x, C, dx, _, rfl, upd_same, c.cl, c.nL, (by show 1 < 1000; decide), ?_⟩
    generalize hHA : upd (upd H4 x _) x _ = HA
    have hxA : HA x = some (.ins C dx [("way_lists", .ref p2), ("standing_list", .ref p3)]) := by rw [← hHA]; exact upd_same
    have sA : SameX x H4 HA := by rw [← hHA]; exact (SameX.of (Same.refl _)).upd.upd
    have sX : SameX x H HA := fun b o hb e => sA b o hb (s14 _ _ e)
    have ne : ∀ {b : Addr} {o : HO}, H4 b = some o → (∀ C dx fs, o ≠ .ins C dx fs) → HA b = some o := fun {b o} e hn => sA b o (fun z => by subst z; rw [hx4] at e; exact hn _ _ _ (Option.some.inj e).symm) e
    have hA3 : HA p3 = some (.lst vs) := ne (s4 _ _ h3) (by intro _ _ _ z; cases z)
    have tA : TupsAt HA (stds (sh W)) vs := paired_imp t3 fun _ _ ⟨a, e, h⟩ => ⟨a, e, ne (s4 _ _ h) (by intro _ _ _ z; cases z)⟩
    have hAg : HA gd = some (.dT tv) := ne (s14 _ _ hgd) (by intro _ _ _ z; cases z)
    have qA : ∀ {v : V} {xs : List V}, SeqV K H v xs → SeqV K HA v xs := fun {v xs} h => by
      exact (h.same s14).keep fun b o hn e => ne e hn
    refine ⟨_, rfl, p3, rfl, ⟨_, SqL.of hA3⟩, fun D nD => ?_⟩
    have sD := same_upd (o := .dT []) nD
    refine walk_run (walk_list (K := K) (a := p3) (xs := vs)) (fun i H' => Same HA H' ∧ ∃ kvs, H' D = some (.dT kvs) ∧ Paired (KvG K H' γ) ((stds (sh W)).take i) kvs) ⟨sD, [], upd_same, .nil⟩ (fun i H' _ ⟨sm, _⟩ => SqL.of (sm _ _ hA3)) ?_ ?_
    · rintro i y H0 H' hi ⟨sm, ks, hD, hks⟩ ⟨rfl, hy⟩
      obtain ⟨st, hst, a, rfl, ha⟩ := paired_get tA hy
      obtain ⟨hn, v, hv, hq⟩ := hgv st (List.mem_of_getElem? hst)
      have ha' := sm _ _ ha
      have hv' := (qA hq).same sm
      have hlt : i < (stds (sh W)).length := (List.getElem?_eq_some_iff.mp hst).1
      have hlk : ks.length = i := by
        rw [← Paired.length hks, List.length_take]
        omega
      have hnew : kS st ∉ ks.map (·.1) := by
        have keys : ∀ {l : List (List Str)} {kv : List (List Key × V)}, Paired (KvG K H' γ) l kv → kv.map (·.1) = l.map kS := by
          intro l kv h
          induction h with
          | nil => rfl
          | cons r _ ih => rw [List.map_cons, List.map_cons, ih, r.1]
        rw [keys hks]
        intro z
        obtain ⟨st', hm, e⟩ := List.mem_map.mp z
        have e' : st' = st := by
          have := congrArg (List.map kV) e
          rw [kS_v, kS_v] at this
          exact List.map_inj_right (fun _ _ h => V.str.inj h) |>.mp this
        subst e'
        obtain ⟨j, hj, ej⟩ := List.getElem_of_mem hm
        rw [List.length_take] at hj
        rw [List.getElem_take] at ej
        have e2 : (stds (sh W))[i] = st' := (List.getElem?_eq_some_iff.mp hst).2
        have := (List.getElem_inj (stds_nd sok.wd)).mp (ej.trans e2.symm)
        omega
      have fin : ∀ H2 a2, Same H' H2 → SqT K H2 a2 ((γ st).map V.int) → ∃ H6, DPut H2 D (.ref a) (.ref a2) H6 ∧ Same HA H6 ∧ ∃ kvs, H6 D = some (.dT kvs) ∧ Paired (KvG K H6 γ) ((stds (sh W)).take (i + 1)) kvs := fun H2 a2 s2 h2 => by
        have hD2 := s2 _ _ hD
        refine ⟨_, DPut.t (k := kS st) hD2 (by rw [kS_v]; exact s2 _ _ ha') (small1000 (by have := sok.few; omega)), fun b o e => ?_, _, upd_same, ?_⟩
        · rw [upd_ne (ne_of_none e nD)]
          exact s2 _ _ (sm _ _ e)
        · have up : ∀ {b : Addr} {xs : List V}, SqT K H2 b xs → SqT K (upd H2 D (.dT (putK ks (kS st) (.ref a2)))) b xs := fun {b xs} h => by
            rcases h with (h | ⟨o, h⟩) | h
            · exact .inl (.inl (by rw [upd_ne (ne_of h hD2 (by intro z; cases z))]; exact h))
            · exact .inl (.inr ⟨o, by rw [upd_ne (ne_of h hD2 (by intro z; cases z))]; exact h⟩)
            · exact .inr h
          rw [putK_new hnew, List.take_add_one, hst]
          rw [putK_new hnew] at up
          exact paired_append (paired_imp hks fun _ _ h => ⟨h.1, let ⟨b, e, q⟩ := h.2; ⟨b, e, up (same_sqt s2 q)⟩⟩) (.cons ⟨rfl, a2, rfl, up h2⟩ .nil)
      have hg : DGet H' gd (.ref a) (some v) := by
        rw [← hv]
        exact DGet.t (k := kS st) (sm _ _ hAg) (by rw [kS_v]; exact ha')
      refine ⟨rfl, _, rfl, _, rfl, _, rfl, gd, v, rfl, hg, ?_⟩
      cases hv' with
      | lst h _ => exact ⟨_, _, rfl, .inl ⟨h, fun l nl => fin _ l (same_upd nl) (SqT.of upd_same)⟩⟩
      | tup h _ => exact ⟨_, _, rfl, .inr ⟨h, fin _ _ (Same.refl _) h⟩⟩
    · rintro H' ⟨sm, ks, hD, hks⟩
      rw [← Paired.length tA, List.take_length] at hks
      have hx5 := sm _ _ hxA
      refine ⟨_, rfl, x, C, dx, _, rfl, hx5, c.cl, c.nG, (by show 2 < 1000; decide), ?_⟩
      have fr : ∀ {b : Addr}, H4 b = none → H b = none := fun h => s14.free h
      have frA : ∀ {b : Addr}, HA b = none → H b = none := fun {b} h => by
        cases e : H b with
        | none => rfl
        | some o =>
          by_cases hb : b = x
          · subst hb
            rw [hxA] at h
            cases h
          · rw [sX b o hb e] at h
            cases h
      have nx : ∀ {b : Addr}, H' b = none → b ≠ x := fun h z => by subst z; rw [hx5] at h; cases h
      have keep : ∀ b o, NotIns o → HA b = some o → (upd H' x (.ins C dx [("way_lists", .ref p2), ("standing_list", .ref p3), ("gain_table", .ref D)])) b = some o := fun b o hn e => by
        have e' := sm _ _ e
        rw [upd_ne (fun z => by subst z; rw [hx5] at e'; exact hn _ _ _ (Option.some.inj e').symm)]
        exact e'
      have all : ∀ {b : Addr} {o : HO}, NotIns o → H3 b = some o → (upd H' x (.ins C dx [("way_lists", .ref p2), ("standing_list", .ref p3), ("gain_table", .ref D)])) b = some o := fun hn e => keep _ _ hn (ne (s4 _ _ e) hn)
      refine q _ p2 p3 D vs ks ((sX.same sm).upd) ⟨upd_same, .inr rfl, ⟨kw, all (by intro _ _ _ z; cases z) hkw, ?_⟩, .inl (s1.free n2), all (by intro _ _ _ z; cases z) h3, .inl ((s1.trans s2).free n3), ?_, ?_, .inl (frA nD), ?_⟩
      · exact paired_imp pkw fun _ _ ⟨e, a, ev, n, h⟩ => ⟨e, a, ev, .inl (s1.free n), all (by intro _ _ _ z; cases z) h⟩
      · exact paired_imp t3 fun _ _ ⟨a, e, h⟩ => ⟨a, e, all (by intro _ _ _ z; cases z) h⟩
      · rw [upd_ne (fun z => by subst z; rw [hx5] at hD; cases hD)]
        exact hD
      · exact paired_imp hks fun _ _ h => ⟨h.1, let ⟨b, e, q⟩ := h.2; ⟨b, e, seqT_keep q fun b o hn e => by
          rw [upd_ne (fun z => by subst z; rw [hx5] at e; exact hn _ _ _ (Option.some.inj e).symm)]
          exact e⟩⟩
end
end HG

namespace HG
open PySem PySem.Spec PyProof.Rows L2
/-! ### an instance's own __contains__, __len__ -/
section
variable {prog : Program} {w : World} {A : Around} {E : Value → Shared → Prop} {s : Shared} {K : PySem.W.Frag} {x C f : Addr} {ox : Obj} {od : Option Obj}
theorem contains_fn {y : Value} {Q : Bool → Shared → Prop} (X : K.In s.heap) (I : PySem.W.InstAt s.heap x ox C od) (hs : PySem.W.findIn K (.ref C) "__contains__" = some (some (.ref f))) (hf : PySem.W.typeIn K (.ref f) = some (.type "function"))
    (h : wpAny (model prog w) A (call (.ref f) [.ref x, y]) (fun v s' => ∃ b, v = .bool b ∧ Q b s') E s) : wpAny (model prog w) A (contains (.ref x) y) Q E s := by
  unfold contains
  refine wpAny_holding ?_
  rw [show stdlibNamesSay? (.ref x) y = none from rfl]
  refine wpAny_bind (m := specialOf (.ref x) "__contains__") (wpAny_bind (I.type.here ((PySem.W.looks_findIn X hs).here ?_)))
  show wpAny _ _ (if (some (Value.ref f) == some Value.none) = true then _ else _) _ _ _
  rw [if_neg (by simp)]
  refine wpAny_bind (m := callSpecialUnlessNone? (.ref x) "__contains__" [y] _) (wpAny_bind (wpAny_bind (I.type.here ((PySem.W.looks_findIn X hs).here (wpAny_holding (wpAny_bind ((PySem.W.bind_fn X _ hf).here ?_)))))))
  show wpAny _ _ (if (Value.ref f == Value.none) = true then _ else _) _ _ _
  rw [if_neg (by simp)]
  refine wpAny_bind (wpAny_mono h (fun v s' hv => ?_) fun _ _ z => z)
  obtain ⟨b, rfl, hq⟩ := hv
  exact wpAny_pure (wpAny_pure hq)
end
section
variable {X : Cx} {CX : CXT} {C g : Addr} {fd : FuncData} {ps : List Str} {n : Nat} {sp : Sp} {E : XK}
def rInOwn (C : Addr) (sp : Sp) (E : XK) (neg : Bool) : R2 := fun y x H Q => ∃ a dx fs, x = .ref a ∧ H a = some (.ins C dx fs) ∧ sp [.ref a, y] H (fun v H' => ∃ b, v = .bl b ∧ Q (.bl (neg ^^ b)) H') E
theorem op_inOwn (hs : PySem.W.findIn X.K (.ref C) "__contains__" = some (some (.ref g))) (hf : PySem.W.isFn X.K (.ref g) = true) (F : FnOk X.prog X.w X.K X.mg X.base CX n g fd ps sp) (hr : Room n X.A) (hb : Binds X.K fd ps []) (hx : Passes CX X E) : OpR X (compareOp .In) (rInOwn C sp E false) := by
  intro pins s σ H y x u v Q I ry rx h
  obtain ⟨a, dx, fs, rfl, ha, q⟩ := h
  cases (show v = Value.ref a from rx)
  obtain ⟨mA, O, _⟩ := ins_get I.hok ha
  obtain ⟨od, J, _⟩ := O.look
  show wpAny _ _ (contains (.ref a) u >>= fun b => pure (Value.bool b)) _ _ _
  refine wpAny_bind (contains_fn I.kIn J hs (beq_iff_eq.mp hf) (thn (run_fn (us := [.ref a, u]) (vs := [.ref a, y]) F hr hb .nil hx I (.cons rfl (.cons ry .nil)) q) fun w s' hw => ?_))
  obtain ⟨z, H', I', rz, b, rfl, qz⟩ := hw
  cases (show w = Value.bool b from rz)
  exact ⟨b, rfl, wpAny_pure ⟨.bl b, H', I', rfl, by simpa using qz⟩⟩
theorem op_notInOwn (hs : PySem.W.findIn X.K (.ref C) "__contains__" = some (some (.ref g))) (hf : PySem.W.isFn X.K (.ref g) = true) (F : FnOk X.prog X.w X.K X.mg X.base CX n g fd ps sp) (hr : Room n X.A) (hb : Binds X.K fd ps []) (hx : Passes CX X E) : OpR X (compareOp .NotIn) (rInOwn C sp E true) := by
  intro pins s σ H y x u v Q I ry rx h
  obtain ⟨a, dx, fs, rfl, ha, q⟩ := h
  cases (show v = Value.ref a from rx)
  obtain ⟨mA, O, _⟩ := ins_get I.hok ha
  obtain ⟨od, J, _⟩ := O.look
  show wpAny _ _ (contains (.ref a) u >>= fun b => pure (Value.bool (!b))) _ _ _
  refine wpAny_bind (contains_fn I.kIn J hs (beq_iff_eq.mp hf) (thn (run_fn (us := [.ref a, u]) (vs := [.ref a, y]) F hr hb .nil hx I (.cons rfl (.cons ry .nil)) q) fun w s' hw => ?_))
  obtain ⟨z, H', I', rz, b, rfl, qz⟩ := hw
  cases (show w = Value.bool b from rz)
  exact ⟨b, rfl, wpAny_pure ⟨.bl (!b), H', I', rfl, by simpa using qz⟩⟩
def rLenOwn (C : Addr) (sp : Sp) (E : XK) : List V → Hp → VK → Prop := fun xs H Q => ∃ a dx fs, xs = [.ref a] ∧ H a = some (.ins C dx fs) ∧ sp [.ref a] H (fun v H' => ∃ k : Nat, v = .int (k : Int) ∧ k ≤ sizeLine ∧ Q (.int (k : Int)) H') E
theorem call_lenOwn (hs : PySem.W.findIn X.K (.ref C) "__len__" = some (some (.ref g))) (hf : PySem.W.isFn X.K (.ref g) = true) (F : FnOk X.prog X.w X.K X.mg X.base CX n g fd ps sp) (hr : Room (n + 1) X.A) (hb : Binds X.K fd ps []) (hx : Passes CX X E) : CallR X (.builtin "len") (rLenOwn C sp E) := by
  intro pins s σ H xs us Q I r h
  obtain ⟨a, dx, fs, rfl, ha, q⟩ := h
  rw [Vals.ref1 r]
  obtain ⟨mA, O, _⟩ := ins_get I.hok ha
  obtain ⟨od, J, _⟩ := O.look
  obtain ⟨m, hF⟩ := I.fr
  refine PySem.W.len_K hF I.ok.mod.kin J hs hf (wpAny_call (codeAny_mono (F.run _ X.stack s H ⟨[.ref a], []⟩ [.ref a] [.ref a] _ E hr.in1 I.env0.in1 (hb s [.ref a] I.kIn (by rw [List.append_nil, ← F.len _ _ _ _ q]; rfl)) (.cons rfl .nil) q) fun r s' hq => ?_))
  cases r with
  | error e => exact hx pins σ H s e s' I hq
  | ok fl =>
    cases fl with
    | ret u =>
      obtain ⟨z, H', I', rz, k, rfl, hk, qz⟩ := I.after hq
      obtain ⟨t, rfl⟩ := (show ∃ t, u = Value.int k t from rz)
      have := line63
      exact ⟨⟨by omega, by omega⟩, .int k, H', I'.tok _, ⟨_, rfl⟩, qz⟩
    | next => exact False.elim hq
    | brk => exact False.elim hq
    | cont => exact False.elim hq
end
end HG

namespace HG
open PySem PySem.Spec PyProof.Rows L2
open C8 (pss_cut tCut)
/-! ### a, b = a list or tuple -/
section
variable {X : Cx}
def gSeq (K : PySem.W.Frag) (n : Nat) (t : TGs) : TG := fun v σ H Q => ∃ a xs, v = .ref a ∧ (SqL K H a xs ∨ SqT K H a xs) ∧ xs.length = n ∧ t xs σ H Q
theorem pg_seq {es : List Expr} {k : Nat} {t : TGs} {n : Nat} {pos : Pos} (hc : X.calm = true) (h : PGs X es t)
    (hn : (assignEach es X.env).length = n := by rfl) (hst : (assignEach es X.env).findIdx? (·.1) = none := by rfl) : PG X (.Tuple es k pos) (gSeq X.K n t) := by
  refine ⟨fun pins s σ H v u Q I r hw => ?_⟩
  obtain ⟨a, xs, e1, hq, hl, hw⟩ := hw
  rcases hq with hq | hq
  · subst e1
    cases r
    obtain ⟨its, rv, pl, hz⟩ := I.list hq
    rw [PyProof.Rows.assign_Tuple]
    refine wpAny_bind (wpAny_standAt ?_)
    unfold unpack
    rw [show (assignEach es X.env).length = its.toArray.size by rw [hn, ← hl, rv.length, List.size_toArray], hst]
    refine wpAny_bind (wpAny_holding (PySem.W.kun_itemsOf (I.ok.hd hc) pl.isList fun h' hx => ?_))
    have I1 : Inv X pins σ H { s with heap := h' } := I.kept (t' := s.toks) fun b o e => hx b o (Nat.ne_of_lt (Heap.lt_size e)) e
    exact h.run pins _ σ H xs _ Q I1 (by simpa using rv) hw
  · exact (pg_tup hc h hn hst).run pins s σ H v u Q I r ⟨a, xs, e1, hq, hl, hw⟩
end
/-! ### what a game's methods tell -/
def IsG (K : PySem.W.Frag) (C : Addr) (N : Addr → Prop) (H : Hp) (g : Addr) (S : List Way) (γ : List Str → List Int) : Prop := ∃ dx w l t vs kvs, GameAt K C N H g S γ dx w l t vs kvs
theorem GameAt.same {K : PySem.W.Frag} {C : Addr} {N : Addr → Prop} {H H' : Hp} {g : Addr} {S : List Way} {γ : List Str → List Int} {dx w l t : Addr} {vs : List V} {kvs : List (List Key × V)} (G : GameAt K C N H g S γ dx w l t vs kvs) (s : Same H H') : GameAt K C N H' g S γ dx w l t vs kvs where
  hg := s _ _ G.hg
  ng := G.ng
  hw := G.hw.same s
  nw := G.nw
  hl := s _ _ G.hl
  nl := G.nl
  hs := G.hs.same s
  ht := s _ _ G.ht
  nt := G.nt
  hk := paired_imp G.hk fun _ _ h => h.same s
theorem IsG.same {K : PySem.W.Frag} {C : Addr} {N : Addr → Prop} {H H' : Hp} {g : Addr} {S : List Way} {γ : List Str → List Int} (G : IsG K C N H g S γ) (s : Same H H') : IsG K C N H' g S γ :=
  let ⟨dx, w, l, t, vs, kvs, G⟩ := G
  ⟨dx, w, l, t, vs, kvs, G.same s⟩
def names (S : List Way) : List Str := S.map (·.1)
def hasCh (S : List Way) : V → Bool
  | .str z => isNm z && decide (z ∈ names S)
  | _ => false
theorem hasCh_no {S : List Way} {x : V} (h : nameV x = false) : hasCh S x = false := by
  cases x with
  | str z =>
    show (isNm z && _) = false
    rw [show isNm z = false from h]
    rfl
  | _ => rfl
theorem way_some {N : Addr → Prop} {H : Hp} {S : List Way} {kw : List (Key × V)} (h : Paired (KvL N H) S kw) (z : Str) : (valV kw (Sum.inr z)).isSome = decide (z ∈ names S) := by
  rw [← valV_any]
  have e := keysL h
  rw [Bool.eq_iff_iff, List.any_eq_true, decide_eq_true_iff]
  constructor
  · rintro ⟨x, h1, h2⟩
    have hx : x.1 ∈ kw.map (·.1) := List.mem_map.mpr ⟨x, h1, rfl⟩
    rw [e] at hx
    obtain ⟨y, hy, ey⟩ := List.mem_map.mp hx
    exact Sum.inr.inj (ey.trans (of_decide_eq_true h2)) ▸ hy
  · intro hz
    have hx : Sum.inr z ∈ kw.map (·.1) := by
      rw [e]
      exact List.mem_map.mpr ⟨z, hz, rfl⟩
    obtain ⟨x, h1, h2⟩ := List.mem_map.mp hx
    exact ⟨x, h1, decide_eq_true h2⟩
theorem way_at {N : Addr → Prop} {H : Hp} : ∀ {S : List Way} {kw : List (Key × V)} {q : Way}, Paired (KvL N H) S kw → (S.map (·.1)).Nodup → q ∈ S → ∃ a, valV kw (Sum.inr q.1) = some (.ref a) ∧ N a ∧ H a = some (.lst (q.2.map V.str))
  | _, _, _, .nil, _, h => nomatch h
  | a :: W, kv :: kvs, q, .cons r t, hN, h => by
    rw [List.map_cons, List.nodup_cons] at hN
    obtain ⟨e, b, eb, nb, hb⟩ := r
    rcases List.mem_cons.mp h with rfl | h
    · exact ⟨b, by rw [valV_pos e, eb], nb, hb⟩
    · obtain ⟨v, h1, h2⟩ := way_at t hN.2 h
      refine ⟨v, ?_, h2⟩
      rw [valV_neg (fun e' => ?_)]
      · exact h1
      · have e2 : a.1 = q.1 := Sum.inr.inj (e.symm.trans e')
        exact hN.1 (List.mem_map.mpr ⟨q, h, e2.symm⟩)
theorem gain_at {K : PySem.W.Frag} {H : Hp} {γ : List Str → List Int} : ∀ {sts : List (List Str)} {kvs : List (List Key × V)} {st : List Str}, Paired (KvG K H γ) sts kvs → st ∈ sts → ∃ a, valV kvs (kS st) = some (.ref a) ∧ SqT K H a ((γ st).map V.int)
  | _, _, _, .nil, h => nomatch h
  | x :: r, kv :: kvs, st, .cons q t, h => by
    obtain ⟨e, b, eb, hb⟩ := q
    by_cases hx : x = st
    · subst hx
      exact ⟨b, by rw [valV_pos e, eb], hb⟩
    · have hm : st ∈ r := by
        rcases List.mem_cons.mp h with h | h
        · exact absurd h.symm hx
        · exact h
      obtain ⟨a, h1, h2⟩ := gain_at t hm
      refine ⟨a, ?_, h2⟩
      rw [valV_neg (fun e' => hx ?_)]
      · exact h1
      · have := congrArg (List.map kV) (e.symm.trans e')
        rw [kS_v, kS_v] at this
        exact List.map_inj_right (fun _ _ h => V.str.inj h) |>.mp this
theorem keysG {K : PySem.W.Frag} {H : Hp} {γ : List Str → List Int} {sts : List (List Str)} {kvs : List (List Key × V)} (h : Paired (KvG K H γ) sts kvs) : kvs.map (·.1) = sts.map kS := by
  induction h with
  | nil => rfl
  | cons r _ ih => rw [List.map_cons, List.map_cons, ih, r.1]
def inG (S : List Way) (xs : List V) : Bool := xs.all nameV && decide (xs ∈ (stds S).map fun st => st.map V.str)
theorem oneOf_G {K : PySem.W.Frag} {H : Hp} {γ : List Str → List Int} {S : List Way} {kvs : List (List Key × V)} (h : Paired (KvG K H γ) (stds S) kvs) (xs : List V) : oneOf kvs xs = inG S xs := by
  unfold oneOf inG
  congr 1
  rw [Bool.eq_iff_iff, List.any_eq_true, decide_eq_true_iff, List.mem_map]
  have e := keysG h
  constructor
  · rintro ⟨kv, h1, h2⟩
    have hk : kv.1 ∈ (stds S).map kS := e ▸ List.mem_map.mpr ⟨kv, h1, rfl⟩
    obtain ⟨st, hst, es⟩ := List.mem_map.mp hk
    exact ⟨st, hst, by rw [← kS_v, es]; exact of_decide_eq_true h2⟩
  · rintro ⟨st, hst, es⟩
    have hk : kS st ∈ kvs.map (·.1) := e ▸ List.mem_map.mpr ⟨st, hst, rfl⟩
    obtain ⟨kv, h1, h2⟩ := List.mem_map.mp hk
    exact ⟨kv, h1, decide_eq_true (by rw [h2, kS_v]; exact es)⟩
theorem inG_yes {S : List Way} (ok : SOk S) {st : List Str} (h : st ∈ stds S) : inG S (st.map V.str) = true := by
  unfold inG
  rw [names_all (stds_names ok.wn h), decide_eq_true (List.mem_map.mpr ⟨st, h, rfl⟩)]
  rfl
structure Mt (K : PySem.W.Frag) (C : Addr) (m qual : Str) (st : Stmt) (ps : List Str) (f : Addr) (fd : FuncData) : Prop where
  me : Meth K C m f
  F : Fun K m qual st f fd
  b : Binds K fd ps []
section
variable {P : Program} {w : World} {K : PySem.W.Frag} {mg : Str → Option Value} {base : Heap}
variable {fShape fNames fName fSorted fStds fTable fInts fInt fOne fPut : Addr} {dShape dNames dName dSorted dStds dTable dInts dInt dOne dPut : FuncData}
variable {C : Addr}
def spHasCh (K : PySem.W.Frag) (C : Addr) : Sp := fun args H Q _ => ∃ (g : Addr) (x : V) (t : Tg) (N : Addr → Prop) (S : List Way) (γ : List Str → List Int), args = [.ref g, x] ∧ IsG K C N H g S γ ∧ AnyV K H x t ∧ Q (.bl (hasCh S x)) H
theorem ok_has_chooser {f : Addr} {fd : FuncData} (G : GD K mg fShape fNames fName fSorted fStds fTable fInts fInt fOne fPut dShape dNames dName dSorted dStds dTable dInts dInt dOne dPut) (c : GC K C) (M : Mt K C "has_chooser" "Game.has_chooser" s_Game_has_chooser ["self", "thing"] f fd) :
    FnOk P w K mg base CX0 2 f fd ["self", "thing"] (spHasCh K C) := by
  have S : FnScope ["self", "thing"] ["self", "thing"] (defScope s_Game_has_chooser) := ⟨rfl, rfl, rfl, by decide +kernel, rfl, by decide +kernel, by decide +kernel⟩
  refine M.F.ok S (fun vs H Q E h => ?_) (fun cdv A outer s H vs Q E hr h => ?_)
  · obtain ⟨g, x, t, N, S, γ, rfl, _⟩ := h
    rfl
  · obtain ⟨g, x, t, N, S, γ, rfl, ⟨dx, wa, l, ta, vs, kvs, hG⟩, hx, q⟩ := h
    have hu := hu_of hr
    refine ⟨_, pss_one (ps_ret (pe_and (pe_call (ok_is_name G.name G.T) (hr.mono (by decide)) (by rfl) G.name.g G.name.F.kp G.bName .nil pass0 (pa_cons (pv 1) pa_nil)) (pe_one (pe_cmp (pc_din hu (pv 1) (pe_fld (pv 0) rfl)))))), ?_⟩
    refine ⟨_, rfl, x, t, rfl, hx, _, rfl, ?_⟩
    cases e : nameV x with
    | false =>
      rw [hasCh_no e] at q
      exact q
    | true =>
      obtain ⟨z, rfl⟩ : ∃ z, x = .str z := by
        cases x <;> first | exact ⟨_, rfl⟩ | exact absurd e Bool.false_ne_true
      obtain ⟨kw, hkw, pkw⟩ := hG.hw
      refine ⟨_, rfl, _, rfl, g, C, dx, _, _, rfl, hG.hg, c.cl, c.nW, rfl, wa, _, rfl, DGet.k (k := Sum.inr z) hkw, ?_⟩
      rw [way_some pkw z]
      rw [show hasCh S (.str z) = decide (z ∈ names S) by show (isNm z && _) = _; rw [show isNm z = true from e]; rfl] at q
      exact q
end
end HG

namespace HG
open PySem PySem.Spec PyProof.Rows L2
open C8 (pss_cut tCut)
theorem str_beq (a b : Str) : (eqV (.str a) (.str b)) = decide (a = b) := by
  show (a == b) = _
  by_cases h : a = b
  · rw [decide_eq_true h, h]
    exact beq_self_eq_true _
  · rw [decide_eq_false h]
    exact beq_eq_false_iff_ne.mpr h
theorem flat_strs (xs : List Str) : (xs.map V.str).all flatV = true := by
  rw [List.all_eq_true]
  intro y hy
  obtain ⟨z, _, rfl⟩ := List.mem_map.mp hy
  rfl
theorem inV_strs (z : Str) (xs : List Str) : inV (.str z) (xs.map V.str) = decide (z ∈ xs) := by
  unfold inV
  rw [Bool.eq_iff_iff, List.any_eq_true, decide_eq_true_iff]
  constructor
  · rintro ⟨y, hy, e⟩
    obtain ⟨u, hu, rfl⟩ := List.mem_map.mp hy
    rw [str_beq] at e
    exact of_decide_eq_true e ▸ hu
  · intro h
    exact ⟨.str z, List.mem_map.mpr ⟨z, h, rfl⟩, by rw [str_beq]; exact decide_eq_true rfl⟩
section
variable {P : Program} {w : World} {K : PySem.W.Frag} {mg : Str → Option Value} {base : Heap}
variable {fShape fNames fName fSorted fStds fTable fInts fInt fOne fPut : Addr} {dShape dNames dName dSorted dStds dTable dInts dInt dOne dPut : FuncData}
variable {C : Addr}
abbrev MtHas (K : PySem.W.Frag) (C f : Addr) (fd : FuncData) := Mt K C "has_chooser" "Game.has_chooser" s_Game_has_chooser ["self", "thing"] f fd
abbrev MtCheck (K : PySem.W.Frag) (C f : Addr) (fd : FuncData) := Mt K C "check_chooser" "Game.check_chooser" s_Game_check_chooser ["self", "chooser"] f fd
abbrev MtSeat (K : PySem.W.Frag) (C f : Addr) (fd : FuncData) := Mt K C "seat" "Game.seat" s_Game_seat ["self", "chooser"] f fd
abbrev MtIn (K : PySem.W.Frag) (C f : Addr) (fd : FuncData) := Mt K C "__contains__" "Game.__contains__" s_Game___contains ["self", "x"] f fd
abbrev MtLen (K : PySem.W.Frag) (C f : Addr) (fd : FuncData) := Mt K C "__len__" "Game.__len__" s_Game___len ["self"] f fd
abbrev MtStand (K : PySem.W.Frag) (C f : Addr) (fd : FuncData) := Mt K C "check_standing" "Game.check_standing" s_Game_check_standing ["self", "standing"] f fd
def spCheck (K : PySem.W.Frag) (C : Addr) : Sp := fun args H Q _ => ∃ (g : Addr) (z : Str) (N : Addr → Prop) (S : List Way) (γ : List Str → List Int), args = [.ref g, .str z] ∧ IsG K C N H g S γ ∧ isNm z = true ∧ z ∈ names S ∧ Q .non H
def spSeat (K : PySem.W.Frag) (C : Addr) : Sp := fun args H Q _ => ∃ (g : Addr) (z : Str) (i : Nat) (N : Addr → Prop) (S : List Way) (γ : List Str → List Int), args = [.ref g, .str z] ∧ IsG K C N H g S γ ∧ (names S).Nodup ∧ (names S)[i]? = some z ∧ ∀ H', Same H H' → Q (.int (i : Int)) H'
def spIn (K : PySem.W.Frag) (C : Addr) : Sp := fun args H Q _ => ∃ (g : Addr) (x : V) (N : Addr → Prop) (S : List Way) (γ : List Str → List Int), args = [.ref g, x] ∧ IsG K C N H g S γ ∧
  ((∃ a xs, x = .ref a ∧ H a = some (.tup xs) ∧ xs.length ≤ 10000 ∧ (∀ y ∈ xs, ∃ t, AnyV K H y t) ∧ ∀ H', Same H H' → Q (.bl (inG S xs)) H') ∨ (∃ t, AnyV K H x t ∧ t ≠ .tup ∧ ∀ H', Same H H' → Q (.bl false) H'))
def spLen (K : PySem.W.Frag) (C : Addr) : Sp := fun args H Q _ => ∃ (g : Addr) (N : Addr → Prop) (S : List Way) (γ : List Str → List Int), args = [.ref g] ∧ IsG K C N H g S γ ∧ Q (.int ((stds S).length : Int)) H
def spStand (K : PySem.W.Frag) (C : Addr) : Sp := fun args H Q _ => ∃ (g a : Addr) (st : List Str) (N : Addr → Prop) (S : List Way) (γ : List Str → List Int), args = [.ref g, .ref a] ∧ IsG K C N H g S γ ∧ SOk S ∧ H a = some (.tup (st.map V.str)) ∧ st ∈ stds S ∧ ∀ H', Same H H' → Q .non H'
theorem ok_check_chooser {f fH : Addr} {fd fdH : FuncData} (G : GD K mg fShape fNames fName fSorted fStds fTable fInts fInt fOne fPut dShape dNames dName dSorted dStds dTable dInts dInt dOne dPut) (c : GC K C) (M : MtCheck K C f fd) (MH : MtHas K C fH fdH) :
    FnOk P w K mg base CX0 3 f fd ["self", "chooser"] (spCheck K C) := by
  have S : FnScope ["self", "chooser"] ["self", "chooser"] (defScope s_Game_check_chooser) := ⟨rfl, rfl, rfl, by decide +kernel, rfl, by decide +kernel, by decide +kernel⟩
  refine M.F.ok S (fun vs H Q E h => ?_) (fun cdv A outer s H vs Q E hr h => ?_)
  · obtain ⟨g, z, N, S, γ, rfl, _⟩ := h
    rfl
  · obtain ⟨g, z, N, S, γ, rfl, hg, hn, hz, q⟩ := h
    refine ⟨_, pss_one (ps_if (pt_not (pt_val (pe_meth (pv 0) c.cl MH.me (ok_has_chooser G c MH) hr MH.b .nil pass0 (pa_cons (pv 1) pa_nil)))) pss_never pss_nil), ?_⟩
    obtain ⟨dx, wa, l, ta, vs, kvs, hG⟩ := id hg
    refine ⟨_, rfl, g, dx, _, rfl, hG.hg, rfl, _, rfl, g, .str z, .str, N, S, γ, rfl, hg, nm_any hn, ?_⟩
    rw [show hasCh S (.str z) = true by show (isNm z && decide (z ∈ names S)) = true; rw [hn, decide_eq_true hz]; rfl]
    exact ⟨_, rfl, iteF q⟩
theorem ok_seat {f : Addr} {fd : FuncData} (T : KT K mg) (c : GC K C) (M : MtSeat K C f fd) : FnOk P w K mg base CX0 1 f fd ["self", "chooser"] (spSeat K C) := by
  have S : FnScope ["self", "chooser"] ["self", "chooser"] (defScope s_Game_seat) := ⟨rfl, rfl, rfl, by decide +kernel, rfl, by decide +kernel, by decide +kernel⟩
  refine M.F.ok S (fun vs H Q E h => ?_) (fun cdv A outer s H vs Q E hr h => ?_)
  · obtain ⟨g, z, i, N, S, γ, rfl, _⟩ := h
    rfl
  · obtain ⟨g, z, i, N, S, γ, rfl, ⟨dx, wa, l, ta, vs, kvs, hG⟩, hnd, hi, q⟩ := h
    refine ⟨_, pss_one (ps_ret (pe_bm PySem.F.plainAttrs_list PySem.F.slot_list_index PySem.F.type_list_index mt_index (pe_callTy (call_listD rfl) (by rfl) T.m_list (by decide +kernel) (pa_cons (pe_fld (pv 0) rfl) pa_nil)) (pa_cons (pv 1) pa_nil))), ?_⟩
    obtain ⟨kw, hkw, pkw⟩ := hG.hw
    refine ⟨_, rfl, g, C, dx, _, _, rfl, hG.hg, c.cl, c.nW, rfl, wa, kw, rfl, .inl hkw, fun p np => ?_⟩
    have e : (kw.map fun kv => kV kv.1) = (names S).map V.str := paired_keys (paired_imp pkw fun _ _ q => q.at)
    rw [e]
    have s1 := same_upd (o := .lst ((names S).map V.str)) np
    refine ⟨.inl ⟨rfl, _, SqL.of upd_same⟩, _, rfl, p, _, .str z, i, .str z, rfl, rfl, SqL.of upd_same, rfl, flat_strs _, by rw [List.getElem?_map, hi]; rfl, by rw [str_beq]; exact decide_eq_true rfl, fun m z' hm hz' => ?_, q _ s1⟩
    rw [List.getElem?_map] at hz'
    obtain ⟨u, hu, rfl⟩ := Option.map_eq_some_iff.mp hz'
    rw [str_beq]
    refine decide_eq_false fun e => ?_
    subst e
    obtain ⟨h1, e1⟩ := List.getElem?_eq_some_iff.mp hu
    obtain ⟨h2, e2⟩ := List.getElem?_eq_some_iff.mp hi
    have := (List.getElem_inj hnd).mp (e1.trans e2.symm)
    omega
theorem ok_in {f : Addr} {fd : FuncData} (G : GD K mg fShape fNames fName fSorted fStds fTable fInts fInt fOne fPut dShape dNames dName dSorted dStds dTable dInts dInt dOne dPut) (c : GC K C) (M : MtIn K C f fd) : FnOk P w K mg base CX0 3 f fd ["self", "x"] (spIn K C) := by
  have S : FnScope ["self", "x"] ["self", "x"] (defScope s_Game___contains) := ⟨rfl, rfl, rfl, by decide +kernel, rfl, by decide +kernel, by decide +kernel⟩
  refine M.F.ok S (fun vs H Q E h => ?_) (fun cdv A outer s H vs Q E hr h => ?_)
  · obtain ⟨g, x, N, S, γ, rfl, _⟩ := h
    rfl
  · obtain ⟨g, x, N, S, γ, rfl, ⟨dx, wa, l, ta, vs, kvs, hG⟩, q⟩ := h
    refine ⟨_, pss_one (ps_ret (pe_call (ok_is_one_of G.one G.name G.bName G.T) hr (by rfl) G.one.g G.one.F.kp G.bOne .nil pass0 (pa_cons (pv 1) (pa_cons (pe_fld (pv 0) rfl) pa_nil)))), ?_⟩
    refine ⟨_, rfl, _, rfl, g, C, dx, _, _, rfl, hG.hg, c.cl, c.nG, rfl, x, ta, kvs, rfl, hG.ht, ?_⟩
    rcases q with ⟨a, xs, rfl, ha, hz, hany, q⟩ | ⟨t, ht, nt, q⟩
    · rw [← oneOf_G hG.hk] at q
      exact .inl ⟨a, xs, rfl, ha, hz, hany, q⟩
    · exact .inr ⟨t, ht, nt, q H (Same.refl _)⟩
theorem ok_len {f : Addr} {fd : FuncData} (T : KT K mg) (c : GC K C) (M : MtLen K C f fd) : FnOk P w K mg base CX0 1 f fd ["self"] (spLen K C) := by
  have S : FnScope ["self"] ["self"] (defScope s_Game___len) := ⟨rfl, rfl, rfl, by decide +kernel, rfl, by decide +kernel, by decide +kernel⟩
  refine M.F.ok S (fun vs H Q E h => ?_) (fun cdv A outer s H vs Q E hr h => ?_)
  · obtain ⟨g, N, S, γ, rfl, _⟩ := h
    rfl
  · obtain ⟨g, N, S, γ, rfl, ⟨dx, wa, l, ta, vs, kvs, hG⟩, q⟩ := h
    refine ⟨_, pss_one (ps_ret (pe_callB call_len_seq (by rfl) T.m_len PySem.boot_len (pa_cons (pe_fld (pv 0) rfl) pa_nil))), ?_⟩
    rw [show (stds S).length = vs.length from Paired.length hG.hs] at q
    exact ⟨_, rfl, g, C, dx, _, _, rfl, hG.hg, c.cl, c.nL, rfl, l, vs, rfl, .inl (SqL.of hG.hl), q⟩
theorem ok_check_standing {f fI : Addr} {fd fdI : FuncData} (G : GD K mg fShape fNames fName fSorted fStds fTable fInts fInt fOne fPut dShape dNames dName dSorted dStds dTable dInts dInt dOne dPut) (c : GC K C) (M : MtStand K C f fd) (MI : MtIn K C fI fdI) :
    FnOk P w K mg base CX0 4 f fd ["self", "standing"] (spStand K C) := by
  have S : FnScope ["self", "standing"] ["self", "standing"] (defScope s_Game_check_standing) := ⟨rfl, rfl, rfl, by decide +kernel, rfl, by decide +kernel, by decide +kernel⟩
  refine M.F.ok S (fun vs H Q E h => ?_) (fun cdv A outer s H vs Q E hr h => ?_)
  · obtain ⟨g, a, st, N, S, γ, rfl, _⟩ := h
    rfl
  · obtain ⟨g, a, st, N, S, γ, rfl, hg, ok, ha, hst, q⟩ := h
    refine ⟨_, pss_one (ps_if (pt_cmpR (op_notInOwn MI.me.at_ MI.me.fn (ok_in G c MI) hr MI.b pass0) (pv 1) (pv 0) (by rfl)) pss_never pss_nil), ?_⟩
    obtain ⟨dx, wa, l, ta, vs, kvs, hG⟩ := id hg
    refine ⟨_, rfl, _, rfl, g, dx, _, rfl, hG.hg, g, .ref a, N, S, γ, rfl, hg, .inl ⟨a, _, rfl, ha, ?_, ?_, fun H' s' => ?_⟩⟩
    · rw [List.length_map, stds_mem hst]
      have := ok.n4
      omega
    · exact names_any (stds_names ok.wn hst)
    · rw [inG_yes ok hst]
      exact ⟨true, rfl, _, rfl, iteF (q _ s')⟩
end
end HG

namespace HG
open PySem PySem.Spec PyProof.Rows L2
open C8 (pss_cut tCut)
/-! ### standings, put -/
theorem stds_at {S : List Way} {st : List Str} (h : st ∈ stds S) : ∀ {i : Nat} {q : Way} {z : Str}, S[i]? = some q → st[i]? = some z → z ∈ q.2 := by
  have key : ∀ (S : List Way) (T : List Way) (sts : List (List Str)), (∀ st ∈ sts, st.length = T.length ∧ ∀ (i : Nat) (q : Way) (z : Str), T[i]? = some q → st[i]? = some z → z ∈ q.2) →
      ∀ st ∈ S.foldl (fun sts q => mul1 sts q.2) sts, ∀ (i : Nat) (q : Way) (z : Str), (T ++ S)[i]? = some q → st[i]? = some z → z ∈ q.2 := by
    intro S
    induction S with
    | nil => exact fun T sts h st hst => by rw [List.append_nil]; exact (h st hst).2
    | cons a r ih =>
      intro T sts h st hst
      have := ih (T ++ [a]) (mul1 sts a.2) (fun y hy => by
        obtain ⟨x, hx, hy⟩ := List.mem_flatMap.mp hy
        obtain ⟨w, hw, rfl⟩ := List.mem_map.mp hy
        obtain ⟨hl, hx⟩ := h x hx
        refine ⟨by rw [List.length_append, List.length_append, hl]; rfl, fun i q z hq hz => ?_⟩
        by_cases hi : i < T.length
        · rw [List.getElem?_append_left hi] at hq
          rw [List.getElem?_append_left (by omega)] at hz
          exact hx i q z hq hz
        · rw [List.getElem?_append_right (by omega)] at hq
          rw [List.getElem?_append_right (by omega)] at hz
          have e1 : i - T.length = 0 := by
            have := (List.getElem?_eq_some_iff.mp hq).1
            simp at this
            omega
          rw [e1] at hq
          rw [hl, e1] at hz
          simp at hq hz
          rw [← hq, ← hz]
          exact hw) st hst
      rwa [List.append_assoc] at this
  intro i q z hq hz
  have := key S [] [[]] (fun st hst => by rw [List.mem_singleton.mp hst]; exact ⟨rfl, fun i q z hq _ => by simp at hq⟩) st h i q z
  exact this (by simpa using hq) hz
theorem stds_of {S : List Way} {st : List Str} (hl : st.length = S.length) (h : ∀ (i : Nat) (q : Way) (z : Str), S[i]? = some q → st[i]? = some z → z ∈ q.2) : st ∈ stds S := by
  have key : ∀ (S : List Way) (sts : List (List Str)) (p st : List Str), p ∈ sts → st.length = S.length → (∀ (i : Nat) (q : Way) (z : Str), S[i]? = some q → st[i]? = some z → z ∈ q.2) → p ++ st ∈ S.foldl (fun sts q => mul1 sts q.2) sts := by
    intro S
    induction S with
    | nil =>
      intro sts p st hp hl _
      rw [List.length_eq_zero_iff.mp hl, List.append_nil]
      exact hp
    | cons a r ih =>
      intro sts p st hp hl h
      cases st with
      | nil => cases hl
      | cons x st =>
        have := ih (mul1 sts a.2) (p ++ [x]) st (List.mem_flatMap.mpr ⟨p, hp, List.mem_map.mpr ⟨x, h 0 a x rfl rfl, rfl⟩⟩) (by simpa using hl) (fun i q z hq hz => h (i + 1) q z (by simpa using hq) (by simpa using hz))
        rwa [List.append_assoc] at this
  exact key S [[]] [] st (List.mem_singleton.mpr rfl) hl h
theorem stds_set {S : List Way} {st : List Str} {i : Nat} {q : Way} {v : Str} (h : st ∈ stds S) (hq : S[i]? = some q) (hv : v ∈ q.2) : st.set i v ∈ stds S := by
  refine stds_of (by rw [List.length_set]; exact stds_mem h) fun j q' z hq' hz => ?_
  by_cases hj : i = j
  · subst hj
    rw [hq] at hq'
    cases hq'
    have hi : i < st.length := by
      rw [stds_mem h]
      exact (List.getElem?_eq_some_iff.mp hq).1
    rw [List.getElem?_set_self hi] at hz
    cases hz
    exact hv
  · rw [List.getElem?_set_ne hj] at hz
    exact stds_at h hq' hz
section
variable {P : Program} {w : World} {K : PySem.W.Frag} {mg : Str → Option Value} {base : Heap}
variable {fShape fNames fName fSorted fStds fTable fInts fInt fOne fPut : Addr} {dShape dNames dName dSorted dStds dTable dInts dInt dOne dPut : FuncData}
variable {C : Addr}
def spChoosers (K : PySem.W.Frag) (C : Addr) : Sp := fun args H Q _ => ∃ (g : Addr) (N : Addr → Prop) (S : List Way) (γ : List Str → List Int), args = [.ref g] ∧ IsG K C N H g S γ ∧ ∀ p, H p = none → Q (.ref p) (upd H p (.lst ((names S).map V.str)))
def spWays (K : PySem.W.Frag) (C : Addr) : Sp := fun args H Q _ => ∃ (g : Addr) (q : Way) (N : Addr → Prop) (S : List Way) (γ : List Str → List Int), args = [.ref g, .str q.1] ∧ IsG K C N H g S γ ∧ SOk S ∧ q ∈ S ∧ ∀ p, H p = none → Q (.ref p) (upd H p (.lst (q.2.map V.str)))
def spShape (K : PySem.W.Frag) (C : Addr) : Sp := fun args H Q _ => ∃ (g : Addr) (N : Addr → Prop) (S : List Way) (γ : List Str → List Int), args = [.ref g] ∧ IsG K C N H g S γ ∧ SOk S ∧ ∀ H' p, Same H H' → H p = none → ShL (fun a => H a = none) H' p (sh S) → Q (.ref p) H'
def spStandings (K : PySem.W.Frag) (C : Addr) : Sp := fun args H Q _ => ∃ (g : Addr) (N : Addr → Prop) (S : List Way) (γ : List Str → List Int), args = [.ref g] ∧ IsG K C N H g S γ ∧ ∀ p vs, H p = none → TupsAt H (stds S) vs → Q (.ref p) (upd H p (.lst vs))
def spGains (K : PySem.W.Frag) (C : Addr) : Sp := fun args H Q _ => ∃ (g a : Addr) (st : List Str) (N : Addr → Prop) (S : List Way) (γ : List Str → List Int), args = [.ref g, .ref a] ∧ IsG K C N H g S γ ∧ SOk S ∧ H a = some (.tup (st.map V.str)) ∧ st ∈ stds S ∧ ∀ H' b, Same H H' → SqT K H' b ((γ st).map V.int) → Q (.ref b) H'
def spGain (K : PySem.W.Frag) (C : Addr) : Sp := fun args H Q _ => ∃ (g a : Addr) (z : Str) (i : Nat) (n : Int) (st : List Str) (N : Addr → Prop) (S : List Way) (γ : List Str → List Int), args = [.ref g, .str z, .ref a] ∧ IsG K C N H g S γ ∧ SOk S ∧ H a = some (.tup (st.map V.str)) ∧ st ∈ stds S ∧
  (names S)[i]? = some z ∧ (γ st)[i]? = some n ∧ ∀ H', Same H H' → Q (.int n) H'
abbrev MtG (K : PySem.W.Frag) (C : Addr) (m : Str) (st : Stmt) (ps : List Str) (f : Addr) (fd : FuncData) := Mt K C m (Str.ofString "Game." ++ m) st ps f fd
theorem names_nm {S : List Way} (ok : SOk S) {z : Str} (h : z ∈ names S) : isNm z = true := by
  obtain ⟨q, hq, rfl⟩ := List.mem_map.mp h
  exact ok.nm q hq
theorem ok_choosers {f : Addr} {fd : FuncData} (T : KT K mg) (c : GC K C) (M : Mt K C "choosers" "Game.choosers" s_Game_choosers ["self"] f fd) : FnOk P w K mg base CX0 1 f fd ["self"] (spChoosers K C) := by
  have S : FnScope ["self"] ["self"] (defScope s_Game_choosers) := ⟨rfl, rfl, rfl, by decide +kernel, rfl, by decide +kernel, by decide +kernel⟩
  refine M.F.ok S (fun vs H Q E h => ?_) (fun cdv A outer s H vs Q E hr h => ?_)
  · obtain ⟨g, N, S, γ, rfl, _⟩ := h
    rfl
  · obtain ⟨g, N, S, γ, rfl, ⟨dx, wa, l, ta, vs, kvs, hG⟩, q⟩ := h
    refine ⟨_, pss_one (ps_ret (pe_callTy (call_listD rfl) (by rfl) T.m_list (by decide +kernel) (pa_cons (pe_fld (pv 0) rfl) pa_nil))), ?_⟩
    obtain ⟨kw, hkw, pkw⟩ := hG.hw
    refine ⟨_, rfl, g, C, dx, _, _, rfl, hG.hg, c.cl, c.nW, rfl, wa, kw, rfl, .inl hkw, fun p np => ?_⟩
    rw [show (kw.map fun kv => kV kv.1) = (names S).map V.str from paired_keys (paired_imp pkw fun _ _ q => q.at)]
    exact q p np
theorem ok_ways {f fK fH : Addr} {fd fdK fdH : FuncData} (G : GD K mg fShape fNames fName fSorted fStds fTable fInts fInt fOne fPut dShape dNames dName dSorted dStds dTable dInts dInt dOne dPut) (c : GC K C) (M : Mt K C "ways" "Game.ways" s_Game_ways ["self", "chooser"] f fd) (MK : MtCheck K C fK fdK) (MH : MtHas K C fH fdH) :
    FnOk P w K mg base CX0 4 f fd ["self", "chooser"] (spWays K C) := by
  have S : FnScope ["self", "chooser"] ["self", "chooser"] (defScope s_Game_ways) := ⟨rfl, rfl, rfl, by decide +kernel, rfl, by decide +kernel, by decide +kernel⟩
  refine M.F.ok S (fun vs H Q E h => ?_) (fun cdv A outer s H vs Q E hr h => ?_)
  · obtain ⟨g, q, N, S, γ, rfl, _⟩ := h
    rfl
  · obtain ⟨g, q, N, S, γ, rfl, hg, ok, hq, qq⟩ := h
    have hu := hu_of hr
    refine ⟨_, pss_cons (ps_expr (pe_meth (pv 0) c.cl MK.me (ok_check_chooser G c MK MH) hr MK.b .nil pass0 (pa_cons (pv 1) pa_nil)))
      (pss_one (ps_ret (pe_callTy call_list_of (by rfl) G.T.m_list (by decide +kernel) (pa_cons (pe_dget hu (pe_fld (pv 0) rfl) (pv 1) (fun _ _ => rfl)) pa_nil)))), ?_⟩
    obtain ⟨dx, wa, l, ta, vs, kvs, hG⟩ := id hg
    obtain ⟨kw, hkw, pkw⟩ := hG.hw
    obtain ⟨a, ha, na, hl⟩ := way_at pkw ok.nd hq
    refine ⟨_, rfl, g, dx, _, rfl, hG.hg, rfl, _, rfl, g, q.1, N, S, γ, rfl, hg, ok.nm q hq, List.mem_map.mpr ⟨q, hq, rfl⟩, ?_⟩
    refine ⟨_, rfl, g, C, dx, _, _, rfl, hG.hg, c.cl, c.nW, rfl, _, rfl, wa, _, rfl, (by rw [← ha]; exact DGet.k (k := Sum.inr q.1) hkw), a, _, rfl, .inl (SqL.of hl), qq⟩
theorem ok_shape {f : Addr} {fd : FuncData} (G : GD K mg fShape fNames fName fSorted fStds fTable fInts fInt fOne fPut dShape dNames dName dSorted dStds dTable dInts dInt dOne dPut) (c : GC K C) (M : Mt K C "shape" "Game.shape" s_Game_shape ["self"] f fd) : FnOk P w K mg base CX0 2 f fd ["self"] (spShape K C) := by
  have S : FnScope ["self"] ["self"] (defScope s_Game_shape) := ⟨rfl, rfl, rfl, by decide +kernel, rfl, by decide +kernel, by decide +kernel⟩
  refine M.F.ok S (fun vs H Q E h => ?_) (fun cdv A outer s H vs Q E hr h => ?_)
  · obtain ⟨g, N, S, γ, rfl, _⟩ := h
    rfl
  · obtain ⟨g, N, S, γ, rfl, ⟨dx, wa, l, ta, vs, kvs, hG⟩, ok, q⟩ := h
    refine ⟨_, pss_one (ps_ret (pe_call (ok_sorted_ways G.sorted G.m_sorted) hr (by rfl) G.sorted.g G.sorted.F.kp G.bSorted .nil pass0 (pa_cons (pe_fld (pv 0) rfl) pa_nil))), ?_⟩
    exact ⟨_, rfl, g, C, dx, _, _, rfl, hG.hg, c.cl, c.nW, rfl, wa, S, rfl, hG.hw.at, ok.nd, Nat.lt_of_le_of_lt ok.n4 (by decide), fun x hx => Nat.lt_of_le_of_lt (ok.w4 x hx) (by decide), q⟩
theorem ok_standings {f : Addr} {fd : FuncData} (T : KT K mg) (c : GC K C) (M : Mt K C "standings" "Game.standings" s_Game_standings ["self"] f fd) : FnOk P w K mg base CX0 1 f fd ["self"] (spStandings K C) := by
  have S : FnScope ["self"] ["self"] (defScope s_Game_standings) := ⟨rfl, rfl, rfl, by decide +kernel, rfl, by decide +kernel, by decide +kernel⟩
  refine M.F.ok S (fun vs H Q E h => ?_) (fun cdv A outer s H vs Q E hr h => ?_)
  · obtain ⟨g, N, S, γ, rfl, _⟩ := h
    rfl
  · obtain ⟨g, N, S, γ, rfl, ⟨dx, wa, l, ta, vs, kvs, hG⟩, q⟩ := h
    refine ⟨_, pss_one (ps_ret (pe_callTy call_list_of (by rfl) T.m_list (by decide +kernel) (pa_cons (pe_fld (pv 0) rfl) pa_nil))), ?_⟩
    exact ⟨_, rfl, g, C, dx, _, _, rfl, hG.hg, c.cl, c.nL, rfl, l, vs, rfl, .inl (SqL.of hG.hl), fun p np => q p vs np hG.hs⟩
theorem ok_gains {f fS fI : Addr} {fd fdS fdI : FuncData} (G : GD K mg fShape fNames fName fSorted fStds fTable fInts fInt fOne fPut dShape dNames dName dSorted dStds dTable dInts dInt dOne dPut) (c : GC K C) (M : Mt K C "gains" "Game.gains" s_Game_gains ["self", "standing"] f fd) (MS : MtStand K C fS fdS) (MI : MtIn K C fI fdI) :
    FnOk P w K mg base CX0 5 f fd ["self", "standing"] (spGains K C) := by
  have S : FnScope ["self", "standing"] ["self", "standing"] (defScope s_Game_gains) := ⟨rfl, rfl, rfl, by decide +kernel, rfl, by decide +kernel, by decide +kernel⟩
  refine M.F.ok S (fun vs H Q E h => ?_) (fun cdv A outer s H vs Q E hr h => ?_)
  · obtain ⟨g, a, st, N, S, γ, rfl, _⟩ := h
    rfl
  · obtain ⟨g, a, st, N, S, γ, rfl, hg, ok, ha, hst, q⟩ := h
    have hu := hu_of hr
    refine ⟨_, pss_cons (ps_expr (pe_meth (pv 0) c.cl MS.me (ok_check_standing G c MS MI) hr MS.b .nil pass0 (pa_cons (pv 1) pa_nil)))
      (pss_one (ps_ret (pe_dget hu (pe_fld (pv 0) rfl) (pv 1) (fun _ _ => rfl)))), ?_⟩
    obtain ⟨dx, wa, l, ta, vs, kvs, hG⟩ := id hg
    refine ⟨_, rfl, g, dx, _, rfl, hG.hg, rfl, _, rfl, g, a, st, N, S, γ, rfl, hg, ok, ha, hst, fun H1 s1 => ?_⟩
    have hG1 := hG.same s1
    obtain ⟨b, hb, hq⟩ := gain_at hG1.hk hst
    exact ⟨_, rfl, g, C, dx, _, _, rfl, hG1.hg, c.cl, c.nG, rfl, _, rfl, ta, _, rfl, (by rw [← hb]; exact DGet.t (k := kS st) hG1.ht (by rw [kS_v]; exact s1 _ _ ha)), q H1 b s1 hq⟩
theorem ok_gain {f fS fI fK fH fT : Addr} {fd fdS fdI fdK fdH fdT : FuncData} (G : GD K mg fShape fNames fName fSorted fStds fTable fInts fInt fOne fPut dShape dNames dName dSorted dStds dTable dInts dInt dOne dPut) (c : GC K C) (M : Mt K C "gain" "Game.gain" s_Game_gain ["self", "chooser", "standing"] f fd) (MS : MtStand K C fS fdS) (MI : MtIn K C fI fdI)
    (MK : MtCheck K C fK fdK) (MH : MtHas K C fH fdH) (MT : MtSeat K C fT fdT) : FnOk P w K mg base CX0 5 f fd ["self", "chooser", "standing"] (spGain K C) := by
  have S : FnScope ["self", "chooser", "standing"] ["self", "chooser", "standing"] (defScope s_Game_gain) := ⟨rfl, rfl, rfl, by decide +kernel, rfl, by decide +kernel, by decide +kernel⟩
  refine M.F.ok S (fun vs H Q E h => ?_) (fun cdv A outer s H vs Q E hr h => ?_)
  · obtain ⟨g, a, z, i, n, st, N, S, γ, rfl, _⟩ := h
    rfl
  · obtain ⟨g, a, z, i, n, st, N, S, γ, rfl, hg, ok, ha, hst, hi, hn, q⟩ := h
    have hu := hu_of hr
    refine ⟨_, pss_cons (ps_expr (pe_meth (pv 0) c.cl MK.me (ok_check_chooser G c MK MH) (hr.mono (by decide)) MK.b .nil pass0 (pa_cons (pv 1) pa_nil)))
      (pss_cons (ps_expr (pe_meth (pv 0) c.cl MS.me (ok_check_standing G c MS MI) hr MS.b .nil pass0 (pa_cons (pv 2) pa_nil)))
      (pss_one (ps_ret (pe_ix ix_tup (pe_dget hu (pe_fld (pv 0) rfl) (pv 2) (fun _ _ => rfl)) (pe_meth (pv 0) c.cl MT.me (ok_seat G.T c MT) (hr.mono (by decide)) MT.b .nil pass0 (pa_cons (pv 1) pa_nil)) (fun _ _ => rfl))))), ?_⟩
    obtain ⟨dx, wa, l, ta, vs, kvs, hG⟩ := id hg
    have hz : z ∈ names S := List.mem_of_getElem? hi
    refine ⟨_, rfl, g, dx, _, rfl, hG.hg, rfl, _, rfl, g, z, N, S, γ, rfl, hg, names_nm ok hz, hz, ?_⟩
    refine ⟨_, rfl, g, dx, _, rfl, hG.hg, rfl, _, rfl, g, a, st, N, S, γ, rfl, hg, ok, ha, hst, fun H1 s1 => ?_⟩
    have hG1 := hG.same s1
    obtain ⟨b, hb, hq⟩ := gain_at hG1.hk hst
    refine ⟨_, rfl, g, C, dx, _, _, rfl, hG1.hg, c.cl, c.nG, rfl, _, rfl, ta, _, rfl, (by rw [← hb]; exact DGet.t (k := kS st) hG1.ht (by rw [kS_v]; exact s1 _ _ ha)), ?_⟩
    refine ⟨_, rfl, g, dx, _, rfl, hG1.hg, rfl, _, rfl, g, z, i, N, S, γ, rfl, hg.same s1, ok.nd, hi, fun H2 s2 => ?_⟩
    exact ⟨b, _, _, _, rfl, rfl, same_sqt s2 hq, atI_nat (by rw [List.getElem?_map, hn]; rfl), q H2 (s1.trans s2)⟩
end
end HG

namespace HG
open PySem PySem.Spec PyProof.Rows L2
open C8 (pss_cut tCut)
def spIsChange (K : PySem.W.Frag) : Sp := fun args H Q _ => ∃ x, args = [x] ∧
  ((∃ xs, SeqV K H x xs ∧ (1 ≤ xs.length → xs.length ≤ 4 → ∀ y ∈ xs, ∃ t, AnyV K H y t) ∧ ∀ H', Same H H' → Q (.bl (namesV xs && decide (xs.length = 2))) H') ∨
   (∃ t, AnyV K H x t ∧ t ≠ .lst ∧ t ≠ .tup ∧ ∀ H', Same H H' → Q (.bl false) H'))
section
variable {P : Program} {w : World} {K : PySem.W.Frag} {mg : Str → Option Value} {base : Heap}
variable {fShape fNames fName fSorted fStds fTable fInts fInt fOne fPut : Addr} {dShape dNames dName dSorted dStds dTable dInts dInt dOne dPut : FuncData}
variable {C : Addr}
theorem ok_is_change {f fA fN : Addr} {fd fdA fdN : FuncData} (D : Df K mg "is_change" s_is_change f fd) (A : Df K mg "are_names" s_are_names fA fdA) (bA : Binds K fdA ["thing"] []) (N : Df K mg "is_name" s_is_name fN fdN) (bN : Binds K fdN ["thing"] []) (T : KT K mg) : FnOk P w K mg base CX0 3 f fd ["thing"] (spIsChange K) := by
  have S : FnScope ["thing"] ["thing"] (defScope s_is_change) := ⟨rfl, rfl, rfl, by decide +kernel, rfl, by decide +kernel, by decide +kernel⟩
  refine D.F.ok S (fun vs H Q E h => ?_) (fun cdv Ar outer s H vs Q E hr h => ?_)
  · obtain ⟨x, rfl, _⟩ := h
    rfl
  · obtain ⟨x, rfl, q⟩ := h
    refine ⟨_, pss_one (ps_ret (pe_and (pe_call (ok_are_names A N bN T) hr (by rfl) A.g A.F.kp bA .nil pass0 (pa_cons (pv 0) pa_nil)) (pe_one (pe_cmpR op_eq (pe_callB call_len_seq (by rfl) T.m_len PySem.boot_len (pa_cons (pv 0) pa_nil)) pe_int (nomark _))))), ?_⟩
    rcases q with ⟨xs, hx, ha, q⟩ | ⟨t, ht, n1, n2, q⟩
    · refine ⟨_, rfl, x, rfl, .inl ⟨xs, hx, ha, fun H1 s1 => ?_⟩⟩
      obtain ⟨p, rfl, hl⟩ := (hx.same s1).len
      refine ⟨_, rfl, ?_⟩
      have q1 := q H1 s1
      cases e : namesV xs with
      | false =>
        rw [e] at q1
        exact q1
      | true =>
        rw [e, Bool.true_and] at q1
        refine ⟨_, rfl, p, xs, rfl, hl, rfl, ?_⟩
        rw [show decide (V.int (xs.length : Int) = V.int 2) = decide (xs.length = 2) by
          rw [Bool.eq_iff_iff, decide_eq_true_iff, decide_eq_true_iff]
          exact ⟨fun h => by have := V.int.inj h; omega, fun h => by rw [h]; rfl⟩]
        exact q1
    · refine ⟨_, rfl, x, rfl, .inr ⟨t, ht, n1, n2, fun H1 s1 => ?_⟩⟩
      exact ⟨_, rfl, q H1 s1⟩
/-- can_do of two names, the first a chooser -/
def spCanDo (K : PySem.W.Frag) (C : Addr) : Sp := fun args H Q _ => ∃ (g a : Addr) (x : V) (c v : Str) (i : Nat) (q : Way) (z : Str) (st : List Str) (N : Addr → Prop) (S : List Way) (γ : List Str → List Int), args = [.ref g, .ref a, x] ∧ IsG K C N H g S γ ∧ SOk S ∧ SeqV K H x [.str c, .str v] ∧ isNm v = true ∧
  S[i]? = some q ∧ q.1 = c ∧ H a = some (.tup (st.map V.str)) ∧ st[i]? = some z ∧ ∀ H', Same H H' → Q (.bl (decide (v ∈ q.2) && !decide (v = z))) H'
abbrev MtCan (K : PySem.W.Frag) (C f : Addr) (fd : FuncData) := Mt K C "can_do" "Game.can_do" s_Game_can_do ["self", "standing", "thing"] f fd
structure GDC (K : PySem.W.Frag) (mg : Str → Option Value) (fCh : Addr) (dCh : FuncData) : Prop where
  ch : Df K mg "is_change" s_is_change fCh dCh
  b : Binds K dCh ["thing"] []
theorem rIx_of {K : PySem.W.Frag} {H : Hp} {p : Addr} {xs : List V} {j : Nat} {v : V} {Q : VK} (h : SqL K H p xs ∨ SqT K H p xs) (e : xs[j]? = some v) (q : Q v H) : rIx K (.ref p) (.int (j : Int)) H Q := by
  rcases h with h | h
  · exact .inl ⟨p, xs, _, v, rfl, rfl, h, atI_nat e, q⟩
  · exact .inr (.inl ⟨p, xs, _, v, rfl, rfl, h, atI_nat e, q⟩)
theorem seq2 {K : PySem.W.Frag} {H : Hp} {x : V} {y z : V} (h : SeqV K H x [y, z]) : ∃ p, x = .ref p ∧ (SqL K H p [y, z] ∨ SqT K H p [y, z]) := h.len
theorem ok_can_do {fCh : Addr} {dCh : FuncData} {f fH fT : Addr} {fd fdH fdT : FuncData} (G : GD K mg fShape fNames fName fSorted fStds fTable fInts fInt fOne fPut dShape dNames dName dSorted dStds dTable dInts dInt dOne dPut) (GH : GDC K mg fCh dCh) (c : GC K C) (M : MtCan K C f fd) (MH : MtHas K C fH fdH) (MT : MtSeat K C fT fdT) :
    FnOk P w K mg base CX0 4 f fd ["self", "standing", "thing"] (spCanDo K C) := by
  have S : FnScope ["self", "standing", "thing", "chooser", "way"] ["self", "standing", "thing"] (defScope s_Game_can_do) := ⟨rfl, rfl, rfl, by decide +kernel, rfl, by decide +kernel, by decide +kernel⟩
  have nd := S.nd
  refine M.F.ok S (fun vs H Q E h => ?_) (fun cdv A outer s H vs Q E hr h => ?_)
  · obtain ⟨g, a, x, ch, v, i, q, z, st, N, S, γ, rfl, _⟩ := h
    rfl
  · obtain ⟨g, a, x, ch, v, i, q, z, st, N, S, γ, rfl, hg, ok, hx, hv, hq, rfl, ha, hz, qq⟩ := h
    have hu := hu_of hr
    refine ⟨_, pss_cons (ps_if (PW.pt (pw_or (pt_not (pt_val (pe_call (ok_is_change GH.ch G.names G.bNames G.name G.bName G.T) hr (by rfl) GH.ch.g GH.ch.F.kp GH.b .nil pass0 (pa_cons (pv 2) pa_nil))))
        (pw_or1 (pt_not (pt_val (pe_meth (pv 0) c.cl MH.me (ok_has_chooser G c MH) (hr.mono (by decide)) MH.b .nil pass0 (pa_cons (pe_ix ix_seq (pv 2) pe_int (fun _ _ => rfl)) pa_nil))))))) (pss_one (ps_ret pe_bl)) pss_nil)
      (pss_cons (ps_asg (pv 2) (pg_seq rfl (pgs_cons (pg_name (i := 3) nd rfl (Or.inl rfl)) (pgs_cons (pg_name (i := 4) nd rfl (Or.inl rfl)) pgs_nil))))
      (pss_one (ps_ret (pe_and (pe_cmpR op_in_seq (pv 4) (pe_dget hu (pe_fld (pv 0) rfl) (pv 3) (fun _ _ => rfl)) (by rfl))
        (pe_one (pe_cmpR op_ne (pv 4) (pe_ix ix_tup (pv 1) (pe_meth (pv 0) c.cl MT.me (ok_seat G.T c MT) (hr.mono (by decide)) MT.b .nil pass0 (pa_cons (pv 3) pa_nil)) (fun _ _ => rfl)) (nomark _))))))), ?_⟩
    have hqm : q ∈ S := List.mem_of_getElem? hq
    have hn : ∀ y ∈ ([q.1, v] : List Str), isNm y = true := fun y hy => by
      rcases List.mem_cons.mp hy with rfl | hy
      · exact ok.nm q hqm
      · rw [List.mem_singleton.mp hy]
        exact hv
    refine ⟨_, rfl, x, rfl, .inl ⟨[.str q.1, .str v], hx, fun _ _ => names_any (xs := [q.1, v]) hn, fun H1 s1 => ?_⟩⟩
    rw [show (namesV [.str q.1, .str v] && decide (([V.str q.1, V.str v] : List V).length = 2)) = true by
      rw [show namesV [.str q.1, .str v] = true from namesV_yes (xs := [q.1, v]) hn (by show 1 ≤ 2; decide) (by show 2 ≤ 4; decide)]
      rfl]
    refine ⟨_, rfl, iteF ?_⟩
    have hg1 := hg.same s1
    obtain ⟨dx, wa, l, ta, vs, kvs, hG⟩ := id hg1
    obtain ⟨p, rfl, hp⟩ := seq2 (hx.same s1)
    have hin : hasCh S (.str q.1) = true := by
      show (isNm q.1 && decide (q.1 ∈ names S)) = true
      have hm : q.1 ∈ names S := List.mem_map.mpr ⟨q, hqm, rfl⟩
      rw [ok.nm q hqm, decide_eq_true hm]
      rfl
    refine ⟨_, rfl, g, dx, _, rfl, hG.hg, rfl, _, rfl, rIx_of (j := 0) (v := .str q.1) hp rfl ⟨g, .str q.1, .str, N, S, γ, rfl, hg1, nm_any (ok.nm q hqm), ?_⟩⟩
    rw [hin]
    refine ⟨_, rfl, iteF ?_⟩
    refine ⟨_, rfl, p, _, rfl, hp, rfl, _, _, rfl, _, _, rfl, rfl, ?_⟩
    obtain ⟨kw, hkw, pkw⟩ := hG.hw
    obtain ⟨b, hb, _, hl⟩ := way_at pkw ok.nd hqm
    have q1 := qq
    refine ⟨_, rfl, _, rfl, g, C, dx, _, _, rfl, hG.hg, c.cl, c.nW, rfl, _, rfl, wa, _, rfl, (by rw [← hb]; exact DGet.k (k := Sum.inr q.1) hkw), b, _, rfl, .inl (SqL.of hl), rfl, flat_strs _, _, rfl, ?_⟩
    rw [if_neg Bool.false_ne_true, inV_strs]
    cases e : decide (v ∈ q.2) with
    | false =>
      rw [e] at q1
      exact q1 H1 s1
    | true =>
      rw [e, Bool.true_and] at q1
      refine ⟨_, rfl, _, rfl, _, rfl, g, dx, _, rfl, hG.hg, rfl, _, rfl, g, q.1, i, N, S, γ, rfl, hg1, ok.nd, (by unfold names; rw [List.getElem?_map, hq]; rfl), fun H2 s2 => ?_⟩
      refine ⟨a, _, _, _, rfl, rfl, SqT.of (s2 _ _ (s1 _ _ ha)), atI_nat (v := .str z) (by rw [List.getElem?_map, hz]; rfl), rfl, ?_⟩
      rw [show decide (V.str v = V.str z) = decide (v = z) by
        rw [Bool.eq_iff_iff, decide_eq_true_iff, decide_eq_true_iff]
        exact ⟨fun h => V.str.inj h, fun h => by rw [h]⟩]
      exact q1 H2 (s1.trans s2)
end
end HG

namespace HG
open PySem PySem.Spec PyProof.Rows L2
open C8 (pss_cut tCut)
section
variable {P : Program} {w : World} {K : PySem.W.Frag} {mg : Str → Option Value} {base : Heap}
variable {fShape fNames fName fSorted fStds fTable fInts fInt fOne fPut : Addr} {dShape dNames dName dSorted dStds dTable dInts dInt dOne dPut : FuncData}
variable {C fCh : Addr} {dCh : FuncData}
/-- a change that can be done -/
structure Doable (K : PySem.W.Frag) (C : Addr) (H : Hp) (g a : Addr) (x : V) (v : Str) (i : Nat) (q : Way) (z : Str) (st : List Str) (N : Addr → Prop) (S : List Way) (γ : List Str → List Int) : Prop where
  hg : IsG K C N H g S γ
  ok : SOk S
  hx : SeqV K H x [.str q.1, .str v]
  hq : S[i]? = some q
  hv : v ∈ q.2
  ha : H a = some (.tup (st.map V.str))
  hst : st ∈ stds S
  hz : st[i]? = some z
  ne : v ≠ z
theorem Doable.same {K : PySem.W.Frag} {C : Addr} {H H' : Hp} {g a : Addr} {x : V} {v : Str} {i : Nat} {q : Way} {z : Str} {st : List Str} {N : Addr → Prop} {S : List Way} {γ : List Str → List Int} (D : Doable K C H g a x v i q z st N S γ) (s : Same H H') : Doable K C H' g a x v i q z st N S γ :=
  ⟨D.hg.same s, D.ok, D.hx.same s, D.hq, D.hv, s _ _ D.ha, D.hst, D.hz, D.ne⟩
def spGoal (K : PySem.W.Frag) (C : Addr) : Sp := fun args H Q _ => ∃ (g a : Addr) (x : V) (v : Str) (i : Nat) (q : Way) (z : Str) (st : List Str) (N : Addr → Prop) (S : List Way) (γ : List Str → List Int), args = [.ref g, .ref a, x] ∧ Doable K C H g a x v i q z st N S γ ∧
  ∀ H' p, Same H H' → H' p = some (.tup ((st.set i v).map V.str)) → Q (.ref p) H'
def spOwn (K : PySem.W.Frag) (C : Addr) : Sp := fun args H Q _ => ∃ (g a : Addr) (x : V) (v : Str) (i : Nat) (q : Way) (z : Str) (st : List Str) (N : Addr → Prop) (S : List Way) (γ : List Str → List Int) (m n : Int), args = [.ref g, .ref a, x] ∧ Doable K C H g a x v i q z st N S γ ∧
  (γ (st.set i v))[i]? = some m ∧ (γ st)[i]? = some n ∧ ∀ H', Same H H' → Q (.int (m - n)) H'
abbrev MtGoal (K : PySem.W.Frag) (C f : Addr) (fd : FuncData) := Mt K C "goal" "Game.goal" s_Game_goal ["self", "standing", "change"] f fd
theorem ok_goal {f fS fI fC fH fT : Addr} {fd fdS fdI fdC fdH fdT : FuncData} (G : GD K mg fShape fNames fName fSorted fStds fTable fInts fInt fOne fPut dShape dNames dName dSorted dStds dTable dInts dInt dOne dPut) (GH : GDC K mg fCh dCh) (c : GC K C) (M : MtGoal K C f fd) (MS : MtStand K C fS fdS) (MI : MtIn K C fI fdI)
    (MC : MtCan K C fC fdC) (MH : MtHas K C fH fdH) (MT : MtSeat K C fT fdT) : FnOk P w K mg base CX0 5 f fd ["self", "standing", "change"] (spGoal K C) := by
  have S : FnScope ["self", "standing", "change"] ["self", "standing", "change"] (defScope s_Game_goal) := ⟨rfl, rfl, rfl, by decide +kernel, rfl, by decide +kernel, by decide +kernel⟩
  refine M.F.ok S (fun vs H Q E h => ?_) (fun cdv A outer s H vs Q E hr h => ?_)
  · obtain ⟨g, a, x, v, i, q, z, st, N, S, γ, rfl, _⟩ := h
    rfl
  · obtain ⟨g, a, x, v, i, q, z, st, N, S, γ, rfl, D, qq⟩ := h
    refine ⟨_, pss_cons (ps_expr (pe_meth (pv 0) c.cl MS.me (ok_check_standing G c MS MI) hr MS.b .nil pass0 (pa_cons (pv 1) pa_nil)))
      (pss_cons (ps_if (pt_not (pt_val (pe_meth (pv 0) c.cl MC.me (ok_can_do G GH c MC MH MT) hr MC.b .nil pass0 (pa_cons (pv 1) (pa_cons (pv 2) pa_nil))))) pss_never pss_nil)
      (pss_one (ps_ret (pe_call (ok_put G.put) (hr.mono (by decide)) (by rfl) G.put.g G.put.F.kp G.bPut .nil pass0 (pa_cons (pv 1) (pa_cons (pe_meth (pv 0) c.cl MT.me (ok_seat G.T c MT) (hr.mono (by decide)) MT.b .nil pass0 (pa_cons (pe_ix ix_seq (pv 2) pe_int (fun _ _ => rfl)) pa_nil)) (pa_cons (pe_ix ix_seq (pv 2) pe_int (fun _ _ => rfl)) pa_nil))))))), ?_⟩
    obtain ⟨dx, wa, l, ta, vs, kvs, hG⟩ := id D.hg
    refine ⟨_, rfl, g, dx, _, rfl, hG.hg, rfl, _, rfl, g, a, st, N, S, γ, rfl, D.hg, D.ok, D.ha, D.hst, fun H1 s1 => ?_⟩
    have D1 := D.same s1
    refine ⟨_, rfl, g, dx, _, rfl, (hG.same s1).hg, rfl, _, rfl, _, rfl, g, a, x, q.1, v, i, q, z, st, N, S, γ, rfl, D1.hg, D.ok, D1.hx, D.ok.wn q (List.mem_of_getElem? D.hq) v D.hv, D.hq, rfl, D1.ha, D.hz, fun H2 s2 => ?_⟩
    have D2 := D1.same s2
    have hG2 := hG.same (s1.trans s2)
    rw [show (decide (v ∈ q.2) && !decide (v = z)) = true by rw [decide_eq_true D.hv, decide_eq_false D.ne]; rfl]
    refine ⟨_, rfl, iteF ?_⟩
    obtain ⟨p, rfl, hp⟩ := seq2 D2.hx
    refine ⟨_, rfl, _, rfl, g, dx, _, rfl, hG2.hg, rfl, _, rfl, rIx_of (j := 0) (v := .str q.1) hp rfl ⟨g, q.1, i, N, S, γ, rfl, D2.hg, D.ok.nd, (by unfold names; rw [List.getElem?_map, D.hq]; rfl), fun H3 s3 => ?_⟩⟩
    have D3 := D2.same s3
    refine ⟨_, rfl, rIx_of (j := 1) (v := .str v) (hp.imp s3.seq (same_sqt s3)) rfl ⟨a, i, .str v, st.map V.str, rfl, D3.ha, ?_, ?_, fun H4 p4 s4 h4 => ?_⟩⟩
    · rw [List.length_map]
      exact (List.getElem?_eq_some_iff.mp D.hz).1
    · rw [List.length_map, stds_mem D.hst]
      have := D.ok.n4
      omega
    · refine qq H4 p4 (s1.trans (s2.trans (s3.trans s4))) ?_
      rw [h4, List.map_set]
theorem ok_own {f fG fS fI fC fH fT : Addr} {fd fdG fdS fdI fdC fdH fdT : FuncData} (G : GD K mg fShape fNames fName fSorted fStds fTable fInts fInt fOne fPut dShape dNames dName dSorted dStds dTable dInts dInt dOne dPut) (GH : GDC K mg fCh dCh) (c : GC K C) (M : Mt K C "own" "Game.own" s_Game_own ["self", "standing", "change"] f fd) (MG : MtGoal K C fG fdG) (MS : MtStand K C fS fdS) (MI : MtIn K C fI fdI)
    (MC : MtCan K C fC fdC) (MH : MtHas K C fH fdH) (MT : MtSeat K C fT fdT) : FnOk P w K mg base CX0 6 f fd ["self", "standing", "change"] (spOwn K C) := by
  have S : FnScope ["self", "standing", "change", "behind", "at"] ["self", "standing", "change"] (defScope s_Game_own) := ⟨rfl, rfl, rfl, by decide +kernel, rfl, by decide +kernel, by decide +kernel⟩
  have nd := S.nd
  refine M.F.ok S (fun vs H Q E h => ?_) (fun cdv A outer s H vs Q E hr h => ?_)
  · obtain ⟨g, a, x, v, i, q, z, st, N, S, γ, m, n, rfl, _⟩ := h
    rfl
  · obtain ⟨g, a, x, v, i, q, z, st, N, S, γ, m, n, rfl, D, hm, hn, qq⟩ := h
    have hu := hu_of hr
    refine ⟨_, pss_cons (ps_set (i := 3) nd rfl (Or.inl rfl) (pe_meth (pv 0) c.cl MG.me (ok_goal G GH c MG MS MI MC MH MT) hr MG.b .nil pass0 (pa_cons (pv 1) (pa_cons (pv 2) pa_nil))))
      (pss_cons (ps_set (i := 4) nd rfl (Or.inl rfl) (pe_meth (pv 0) c.cl MT.me (ok_seat G.T c MT) (hr.mono (by decide)) MT.b .nil pass0 (pa_cons (pe_ix ix_seq (pv 2) pe_int (fun _ _ => rfl)) pa_nil)))
      (pss_one (ps_ret (pe_op op_sub (pe_ix ix_tup (pe_dget hu (pe_fld (pv 0) rfl) (pv 3) (fun _ _ => rfl)) (pv 4) (fun _ _ => rfl)) (pe_ix ix_tup (pe_dget hu (pe_fld (pv 0) rfl) (pv 1) (fun _ _ => rfl)) (pv 4) (fun _ _ => rfl)))))), ?_⟩
    obtain ⟨dx, wa, l, ta, vs, kvs, hG⟩ := id D.hg
    refine ⟨_, rfl, g, dx, _, rfl, hG.hg, rfl, _, rfl, _, rfl, g, a, x, v, i, q, z, st, N, S, γ, rfl, D, fun H1 p1 s1 h1 => ?_⟩
    have D1 := D.same s1
    obtain ⟨p, rfl, hp⟩ := seq2 D1.hx
    refine ⟨_, rfl, g, dx, _, rfl, (hG.same s1).hg, rfl, _, rfl, rIx_of (j := 0) (v := .str q.1) hp rfl ⟨g, q.1, i, N, S, γ, rfl, D1.hg, D.ok.nd, (by unfold names; rw [List.getElem?_map, D.hq]; rfl), fun H2 s2 => ?_⟩⟩
    have hG2 := hG.same (s1.trans s2)
    have hset := stds_set D.hst D.hq D.hv
    obtain ⟨b, hb, hbq⟩ := gain_at hG2.hk hset
    obtain ⟨d, hd, hdq⟩ := gain_at hG2.hk D.hst
    refine ⟨_, rfl, g, C, dx, _, _, rfl, hG2.hg, c.cl, c.nG, rfl, _, rfl, ta, _, rfl, (by rw [← hb]; exact DGet.t (k := kS (st.set i v)) hG2.ht (by rw [kS_v]; exact s2 _ _ h1)), _, rfl, b, _, _, .int m, rfl, rfl, hbq, atI_nat (by rw [List.getElem?_map, hm]; rfl), ?_⟩
    refine ⟨_, rfl, g, C, dx, _, _, rfl, hG2.hg, c.cl, c.nG, rfl, _, rfl, ta, _, rfl, (by rw [← hd]; exact DGet.t (k := kS st) hG2.ht (by rw [kS_v]; exact s2 _ _ D1.ha)), _, rfl, d, _, _, .int n, rfl, rfl, hdq, atI_nat (by rw [List.getElem?_map, hn]; rfl), ?_⟩
    exact ⟨m, n, rfl, rfl, qq H2 (s1.trans s2)⟩
end
end HG

namespace HG
open PySem PySem.Spec PyProof.Rows L2
open C8 (pss_cut tCut)
/-! ### changes -/
abbrev Ch := Str × Str
def ChAt (H : Hp) (c : Ch) (v : V) : Prop := ∃ a, v = .ref a ∧ H a = some (.tup [.str c.1, .str c.2])
def chs (S : List Way) : List Ch := S.flatMap fun q => q.2.map fun v => (q.1, v)
def mayDo (S : List Way) (st : List Str) (c : Ch) : Bool := !decide (c ∈ (names S).zip st)
def due (S : List Way) (st : List Str) : List Ch := (chs S).filter (mayDo S st)
theorem ChAt.same {H H' : Hp} {c : Ch} {v : V} (h : ChAt H c v) (s : Same H H') : ChAt H' c v := let ⟨a, e, h⟩ := h; ⟨a, e, s _ _ h⟩
theorem chs_more {S : List Way} {i : Nat} {q : Way} (h : S[i]? = some q) : chs (S.take (i + 1)) = chs (S.take i) ++ q.2.map fun v => (q.1, v) := by
  unfold chs
  rw [List.take_add_one, h, List.flatMap_append]
  simp
theorem chs_len {S : List Way} (h : ∀ q ∈ S, q.2.length ≤ 4) : (chs S).length ≤ S.length * 4 := by
  unfold chs
  induction S with
  | nil => simp
  | cons a r ih =>
    rw [List.flatMap_cons, List.length_append, List.length_map, List.length_cons, Nat.succ_mul]
    have := ih fun q hq => h q (List.mem_cons_of_mem _ hq)
    have := h a List.mem_cons_self
    omega
theorem mem_chs {S : List Way} {c : Ch} : c ∈ chs S ↔ ∃ q ∈ S, q.1 = c.1 ∧ c.2 ∈ q.2 := by
  unfold chs
  rw [List.mem_flatMap]
  constructor
  · rintro ⟨q, hq, hc⟩
    obtain ⟨v, hv, rfl⟩ := List.mem_map.mp hc
    exact ⟨q, hq, rfl, hv⟩
  · rintro ⟨q, hq, e, hc⟩
    exact ⟨q, hq, List.mem_map.mpr ⟨c.2, hc, by rw [e]⟩⟩
theorem mayDo_at {S : List Way} {st : List Str} {i : Nat} {q : Way} {z v : Str} (nd : (names S).Nodup) (hq : S[i]? = some q) (hz : st[i]? = some z) : mayDo S st (q.1, v) = !decide (v = z) := by
  unfold mayDo
  congr 1
  rw [Bool.eq_iff_iff, decide_eq_true_iff, decide_eq_true_iff]
  have hn : (names S)[i]? = some q.1 := by
    unfold names
    rw [List.getElem?_map, hq]
    rfl
  constructor
  · intro h
    obtain ⟨j, hj⟩ := List.mem_iff_getElem?.mp h
    rw [List.getElem?_zip_eq_some] at hj
    obtain ⟨h1, e1⟩ := List.getElem?_eq_some_iff.mp hn
    obtain ⟨h2, e2⟩ := List.getElem?_eq_some_iff.mp hj.1
    have : i = j := (List.getElem_inj nd).mp (e1.trans e2.symm)
    subst this
    exact Option.some.inj (hj.2.symm.trans hz)
  · rintro rfl
    exact List.mem_iff_getElem?.mpr ⟨i, List.getElem?_zip_eq_some.mpr ⟨hn, hz⟩⟩
section
variable {P : Program} {w : World} {K : PySem.W.Frag} {mg : Str → Option Value} {base : Heap}
variable {fShape fNames fName fSorted fStds fTable fInts fInt fOne fPut : Addr} {dShape dNames dName dSorted dStds dTable dInts dInt dOne dPut : FuncData}
variable {C fCh : Addr} {dCh : FuncData}
def spChanges (K : PySem.W.Frag) (C : Addr) : Sp := fun args H Q _ => ∃ (g a : Addr) (st : List Str) (N : Addr → Prop) (S : List Way) (γ : List Str → List Int), args = [.ref g, .ref a] ∧ IsG K C N H g S γ ∧ SOk S ∧ H a = some (.tup (st.map V.str)) ∧ st ∈ stds S ∧
  ∀ H' p es, Same H H' → H p = none → H' p = some (.lst es) → Paired (ChAt H') (due S st) es → Q (.ref p) H'
theorem ok_changes {f fS fI fC fH fT : Addr} {fd fdS fdI fdC fdH fdT : FuncData} (G : GD K mg fShape fNames fName fSorted fStds fTable fInts fInt fOne fPut dShape dNames dName dSorted dStds dTable dInts dInt dOne dPut) (GH : GDC K mg fCh dCh) (c : GC K C) (M : Mt K C "changes" "Game.changes" s_Game_changes ["self", "standing"] f fd) (MS : MtStand K C fS fdS) (MI : MtIn K C fI fdI)
    (MC : MtCan K C fC fdC) (MH : MtHas K C fH fdH) (MT : MtSeat K C fT fdT) : FnOk P w K mg base CX0 5 f fd ["self", "standing"] (spChanges K C) := by
  have S : FnScope ["self", "standing", "every", "chooser", "way", "change"] ["self", "standing"] (defScope s_Game_changes) := ⟨rfl, rfl, rfl, by decide +kernel, rfl, by decide +kernel, by decide +kernel⟩
  have nd := S.nd
  refine M.F.ok S (fun vs H Q E h => ?_) (fun cdv A outer s H vs Q E hr h => ?_)
  · obtain ⟨g, a, st, N, S, γ, rfl, _⟩ := h
    rfl
  · obtain ⟨g, a, st, N, S, γ, rfl, hg, ok, ha, hst, q⟩ := h
    have hu := hu_of hr
    refine ⟨_, pss_cons (ps_expr (pe_meth (pv 0) c.cl MS.me (ok_check_standing G c MS MI) hr MS.b .nil pass0 (pa_cons (pv 1) pa_nil)))
      (pss_cons (ps_lock (ps_setLc2 (i := 2) (own := [("chooser", 3), ("way", 4)]) (vs1 := [4]) (g := gName 3) (g1 := gName 4) (tt := tYes) (tt1 := tYes) (wi1 := iList K (tDGet (tFld K (tVar 0) "way_lists") (tVar 3))) rfl nd rfl rfl (sw_true rfl rfl rfl (by decide +kernel)) (pi_keys (pe_fld (pv 0) rfl))
          (blkOk_by (N := ["self", "standing", "every", "chooser", "way", "change"]) (sc := defScope s_Game_changes) (by decide +kernel)) (by decide)
          (fun _ _ _ _ _ => pg_name (i := 3) nd rfl (Or.inl rfl)) (fun _ _ _ _ _ => pts_nil) (fun _ _ _ _ _ => pi_list (pe_dget hu (pe_fld (pv 0) rfl) (pv 3) (fun _ _ => rfl))) (fun _ _ _ _ _ => pg_name (i := 4) nd rfl (Or.inl rfl)) (fun _ _ _ _ _ => pts_nil)
          (fun _ _ _ _ _ => pe_tup (pa_cons (pv 3) (pa_cons (pv 4) pa_nil)))))
      (pss_one (ps_ret (pe_lc (own := [("change", 5)]) (g := gName 5) rfl nd (pi_list (pv 2)) (blkOk_by (N := ["self", "standing", "every", "chooser", "way", "change"]) (sc := defScope s_Game_changes) (by decide +kernel)) (fun _ _ _ _ _ => pg_name (i := 5) nd rfl (Or.inl rfl))
        (fun _ _ _ _ _ => pts_one (pt_val (pe_meth (pv 0) c.cl MC.me (ok_can_do G GH c MC MH MT) hr MC.b .nil pass0 (pa_cons (pv 1) (pa_cons (pv 5) pa_nil))))) (fun _ _ _ _ _ => pv 5))))), ?_⟩
    obtain ⟨dx, wa, l, ta, vs, kvs, hG⟩ := id hg
    refine ⟨_, rfl, g, dx, _, rfl, hG.hg, rfl, _, rfl, g, a, st, N, S, γ, rfl, hg, ok, ha, hst, fun H1 s1 => ?_⟩
    have hG1 := hG.same s1
    obtain ⟨kw, hkw, pkw⟩ := hG1.hw
    have hlen : S.length = kw.length := Paired.length pkw
    refine ⟨wa, .dK kw, hkw, trivial, fun od => ?_⟩
    generalize hHL : upd H1 wa (.frz od (.dK kw)) = HL
    have hLw : HL wa = some (.frz od (.dK kw)) := by rw [← hHL]; exact upd_same
    have hLo : ∀ {b : Addr} {o : HO}, H1 b = some o → (∀ k, o ≠ .dK k) → HL b = some o := fun {b o} e hn => by
      rw [← hHL, upd_ne (fun z => by subst z; rw [hkw] at e; exact hn _ (Option.some.inj e).symm)]
      exact e
    have hLg : HL g = some (.ins C dx [("way_lists", .ref wa), ("standing_list", .ref l), ("gain_table", .ref ta)]) := hLo hG1.hg (by intro _ z; cases z)
    refine ⟨_, rfl, g, C, dx, _, _, rfl, hLg, c.cl, c.nW, rfl, wa, od, rfl, .inl ⟨kw, hLw, fun D nD => ?_⟩⟩
    have sD := same_upd (o := .lst []) nD
    refine walk_run walk_keys (fun i H3 => ∃ ws, H3 D = some (.lst ws) ∧ Paired (ChAt H3) (chs (S.take i)) ws ∧ Same HL H3) ⟨[], upd_same, .nil, sD⟩ (fun i H3 _ ⟨_, _, _, s3⟩ => s3 _ _ hLw) ?_ ?_
    · rintro i x H2 H3 hi ⟨ws, hD, hws, s3⟩ ⟨rfl, k, v0, hk, rfl⟩
      obtain ⟨qw, hqw, ek, b, eb, nb, hb⟩ := paired_get pkw hk
      cases ek
      cases eb
      have hqm : qw ∈ S := List.mem_of_getElem? hqw
      obtain ⟨b', hb', _, hl'⟩ := way_at pkw ok.nd hqm
      have hb3 := s3 _ _ (hLo hl' (by intro _ z; cases z))
      refine ⟨rfl, _, rfl, g, C, dx, _, _, rfl, s3 _ _ hLg, c.cl, c.nW, rfl, _, rfl, wa, _, rfl, (by rw [← hb']; exact .inl ⟨kw, Sum.inr qw.1, .inr ⟨od, s3 _ _ hLw⟩, rfl, rfl⟩), b', rfl, ⟨_, SqL.of hb3⟩, walk_run (walk_list (K := K) (a := b') (xs := qw.2.map V.str)) (fun k H4 => ∃ ws, H4 D = some (.lst ws) ∧ Paired (ChAt H4) (chs (S.take i) ++ (qw.2.take k).map fun v => (qw.1, v)) ws ∧ Same HL H4) ⟨ws, hD, by simpa using hws, s3⟩ (fun k H4 _ ⟨_, _, _, s4⟩ => SqL.of (s4 _ _ (hLo hl' (by intro _ z; cases z)))) ?_ ?_⟩
      · rintro k x H4 H4' hk4 ⟨ws4, hD4, ht4, s4⟩ ⟨rfl, hx4⟩
        rw [List.length_map] at hk4
        have ex : x = .str (qw.2[k]) := by
          rw [List.getElem?_map, List.getElem?_eq_getElem hk4] at hx4
          exact (Option.some.inj hx4).symm
        subst ex
        refine ⟨rfl, _, rfl, _, rfl, (by show 2 ≤ sizeLine; decide), fun p5 n5 => ?_⟩
        have s5 := same_upd (o := .tup [V.str qw.1, V.str (qw.2[k])]) n5
        have hD5 := s5 _ _ hD4
        have hbound : ws4.length < 1000 := by
          rw [← Paired.length ht4, List.length_append, List.length_map, List.length_take]
          have h1 := chs_len (S := S.take i) fun q hq => ok.w4 q (List.mem_of_mem_take hq)
          have h2 := ok.w4 qw hqm
          have h3 := ok.n4
          rw [List.length_take] at h1
          omega
        refine ⟨ws4, hD5, small1000 (Nat.le_of_lt hbound), _, upd_same, ?_, fun b o e => ?_⟩
        · rw [List.take_add_one, List.getElem?_eq_getElem hk4, List.map_append, ← List.append_assoc]
          have up : ∀ (c : Ch) (v : V), ChAt (upd H4' p5 (.tup [V.str qw.1, V.str (qw.2[k])])) c v → ChAt (upd (upd H4' p5 (.tup [V.str qw.1, V.str (qw.2[k])])) D (.lst (ws4 ++ [.ref p5]))) c v := fun c v ⟨a, e, h⟩ => ⟨a, e, by
            rw [upd_ne (ne_of h hD5 (by intro z; cases z))]
            exact h⟩
          exact paired_append (paired_imp ht4 fun c v h => up c v (h.same s5)) (.cons (up _ _ ⟨p5, rfl, upd_same⟩) .nil)
        · rw [upd_ne (ne_of_none e nD)]
          exact s5 _ _ (s4 _ _ e)
      · rintro H4 ⟨ws4, hD4, ht4, s4⟩
        rw [List.length_map, List.take_length] at ht4
        exact ⟨ws4, hD4, by rw [chs_more hqw]; exact ht4, s4⟩
    · rintro H3 ⟨ws, hD, hws, s3⟩
      rw [← hlen, List.take_length] at hws
      have h3w := s3 _ _ hLw
      refine ⟨h3w, ?_⟩
      have s5 : Same H1 (upd H3 wa (.dK kw)) := by
        rw [← hHL] at s3
        exact unlock hkw s3
      have keep : ∀ {b : Addr} {o : HO}, H3 b = some o → (∀ od k, o ≠ .frz od k) → (upd H3 wa (.dK kw)) b = some o := fun {b o} e hn => by
        rw [upd_ne (fun z => by subst z; rw [h3w] at e; exact hn _ _ (Option.some.inj e).symm)]
        exact e
      have nD' : H1 D = none := by
        rw [← hHL] at nD
        have hne : D ≠ wa := fun z => by subst z; rw [upd_same] at nD; cases nD
        rwa [upd_ne hne] at nD
      generalize hH5 : upd H3 wa (.dK kw) = H5 at s5 keep
      have hD5 : H5 D = some (.lst ws) := keep hD (by intro _ _ z; cases z)
      have hws5 : Paired (ChAt H5) (chs S) ws := paired_imp hws fun _ _ ⟨a, e, h⟩ => ⟨a, e, keep h (by intro _ _ z; cases z)⟩
      have hcl : (chs S).length = ws.length := Paired.length hws5
      refine ⟨_, rfl, D, rfl, ⟨_, SqL.of hD5⟩, fun E nE => ?_⟩
      have sE := same_upd (o := .lst []) nE
      refine lc_it (walk_list (K := K) (a := D) (xs := ws)) (fun i H6 => ∃ es, H6 E = some (.lst es) ∧ Paired (ChAt H6) (((chs S).take i).filter (mayDo S st)) es ∧ Same H5 H6) ⟨[], upd_same, .nil, sE⟩ (fun i H6 _ ⟨_, _, _, s6⟩ => SqL.of (s6 _ _ hD5)) ?_ ?_
      · rintro i x H6 H7 hi ⟨es, hE, hes, s6⟩ ⟨rfl, hx⟩
        obtain ⟨ch, hch, b, rfl, hb⟩ := paired_get hws5 hx
        obtain ⟨qw, hqm, e1, hv⟩ := mem_chs.mp (List.mem_of_getElem? hch)
        obtain ⟨j, hj⟩ := List.mem_iff_getElem?.mp hqm
        have hjl : j < st.length := by
          rw [stds_mem hst]
          exact (List.getElem?_eq_some_iff.mp hj).1
        have hz : st[j]? = some st[j] := List.getElem?_eq_getElem hjl
        have s16 := s1.trans (s5.trans s6)
        have hb7 := s6 _ _ hb
        refine ⟨rfl, _, rfl, g, dx, _, rfl, (hG.same s16).hg, rfl, _, rfl, _, rfl, g, a, .ref b, ch.1, ch.2, j, qw, _, st, N, S, γ, rfl, hg.same s16, ok, .tup (SqT.of hb7) (AnyV.tup hb7), ok.wn qw hqm _ hv, hj, e1, s16 _ _ ha, hz, fun H8 s8 => ⟨_, rfl, ?_⟩⟩
        have em : (decide (ch.2 ∈ qw.2) && !decide (ch.2 = st[j])) = mayDo S st ch := by
          rw [decide_eq_true hv, Bool.true_and, ← mayDo_at ok.nd hj hz, e1]
        rw [em]
        have hE8 := s8 _ _ hE
        have hes8 := paired_imp hes fun c v (h : ChAt H7 c v) => h.same s8
        cases e : mayDo S st ch with
        | false =>
          refine iteF ⟨es, hE8, ?_, s6.trans s8⟩
          rw [List.take_add_one, hch, List.filter_append]
          rw [show List.filter (mayDo S st) (some ch).toList = [] by show List.filter _ [ch] = []; rw [List.filter_cons, e]; rfl, List.append_nil]
          exact hes8
        | true =>
          have hlen8 : es.length ≤ ws.length := by
            rw [← Paired.length hes8, ← hcl]
            exact Nat.le_trans (List.length_filter_le _ _) (by rw [List.length_take]; exact Nat.min_le_right _ _)
          have hw16 : ws.length ≤ 16 := by
            rw [← hcl]
            have h1 := chs_len ok.w4
            have h3 := ok.n4
            omega
          refine iteT ⟨_, rfl, es, hE8, small1000 (by omega), _, upd_same, ?_, fun b o e => ?_⟩
          · rw [List.take_add_one, hch, List.filter_append]
            rw [show List.filter (mayDo S st) (some ch).toList = [ch] by show List.filter _ [ch] = [ch]; rw [List.filter_cons, e]; rfl]
            have up : ∀ (c : Ch) (v : V), ChAt H8 c v → ChAt (upd H8 E (.lst (es ++ [.ref b]))) c v := fun c v ⟨a, e, h⟩ => ⟨a, e, by
              rw [upd_ne (ne_of h hE8 (by intro z; cases z))]
              exact h⟩
            exact paired_append (paired_imp hes8 up) (.cons (up _ _ ⟨b, rfl, s8 _ _ hb7⟩) .nil)
          · rw [upd_ne (ne_of_none e nE)]
            exact s8 _ _ (s6 _ _ e)
      · rintro H6 ⟨es, hE, hes, s6⟩
        rw [← hcl, List.take_length] at hes
        refine q H6 E es (s1.trans (s5.trans s6)) ?_ hE hes
        exact (s1.trans s5).free nE
end
end HG

namespace HG
open PySem PySem.Spec PyProof.Rows L2
/-! ### list(o), o's own __iter__ tells a list's iterator, o has a __len__ of its own -/
section
variable {X : Cx} {pins : List (Addr × Obj)} {σ : L2.St} {H : Hp} {s : Shared} {it l q a : Addr} {i : Nat} {xs : List V} {A A1 : Around}
theorem pynext_item {v : V} {Q : Option Value → Shared → Prop} {E : Value → Shared → Prop} (I : Inv X pins σ H s) (ei : H it = some (ItO l it i)) (el : SqL X.K H l xs) (hv : xs[i]? = some v)
    (h : ∀ u s', RelV v u → Inv X pins σ (upd H it (ItO l it (i + 1))) s' → Q (some u) s') : wpAny (model X.prog X.w) A (pyNext (.ref it)) Q E s := by
  obtain ⟨its, rv, pl, hz⟩ := I.list el
  have hx := itO_get I ei
  have hT : s.TypeIs (.ref it) "list_iterator" := ⟨_, hx, rfl⟩
  have mu : Mut (H it) := by rw [ei]; exact True.intro
  obtain ⟨w', hw, rw'⟩ := rv.get hv
  unfold pyNext
  refine wpAny_bind (wpAny_attempt (wpAny_callSpecial?_slot (name := Str.ofString "__next__") hT slot_listiter_next (wpAny_call_entry slot_listiter_next hT entry_listiter_next ?_ (args_listiter_next _))))
  refine wpAny_mono (GNX.next_item (E := fun _ _ => False) (Q := fun v s2 => Q (some v) s2) hx pl.isList (by rw [List.getElem?_toArray]; exact hw) fun h' e' sb => h w' { s with heap := h' } rw' (I.write (x := it) (e := it) (t' := s.toks) mu (.inl rfl) (fun b o nb z => (sb.2 b nb).trans z) ⟨_, e'⟩ (itO_ok e'))) (fun fin s' hq => ?_) fun _ _ z => z.elim
  obtain ⟨v, e, hq⟩ := hq
  exact ⟨v, e, wpAny_pure hq⟩
theorem pynext_end {Q : Option Value → Shared → Prop} {E : Value → Shared → Prop} (hh : A.handled = none) (I : Inv X pins σ H s) (ei : H it = some (ItO l it i)) (el : SqL X.K H l xs) (hn : xs[i]? = none)
    (h : ∀ s', Inv X pins σ (upd H it (ItE it i)) s' → Q none s') : wpAny (model X.prog X.w) A (pyNext (.ref it)) Q E s := by
  obtain ⟨its, rv, pl, hz⟩ := I.list el
  have hx := itO_get I ei
  have hT : s.TypeIs (.ref it) "list_iterator" := ⟨_, hx, rfl⟩
  have mu : Mut (H it) := by rw [ei]; exact True.intro
  unfold pyNext
  refine wpAny_bind (wpAny_attempt (wpAny_callSpecial?_slot (name := Str.ofString "__next__") hT slot_listiter_next (wpAny_call_entry slot_listiter_next hT entry_listiter_next ?_ (args_listiter_next _))))
  refine wpAny_mono (GNX.next_end (A := A) (Q := fun _ _ => False) hh hx pl.isList (by rw [List.getElem?_toArray]; exact rv.none_of hn) fun h1 h' e vs e1 sb k ne he hv => ?_) (fun fin s' hq => ?_) fun _ _ z => z
  · refine wpAny_bind (wpAny_isInstance (T := "StopIteration") (b := true) ⟨_, he, rfl⟩ isSubtype_stop (wpAny_pure (h { s with heap := h' } ?_)))
    have I2 : Inv X pins σ (upd H it (ItE it i)) { s with heap := h1 } := I.write (x := it) (e := it) (t' := s.toks) mu (.inl rfl) (fun b o nb z => (sb.2 b nb).trans z) ⟨_, e1⟩ (itE_ok e1)
    exact I2.kept (t' := s.toks) k
  · obtain ⟨v, e, hq⟩ := hq
    exact hq.elim
theorem loop_it {Rs : Result → Shared → Prop} (hh : A1.in1.handled = none) : ∀ (m i : Nat) (acc : List V) (H : Hp) (s : Shared), Inv X pins σ H s → m + i = xs.length → H it = some (ItO l it i) → H l = some (.lst xs) → l ≠ q → H q = some (.lst acc) → acc.length + m < sizeLine →
    (∀ H' s', Inv X pins σ H' s' → H' q = some (.lst (acc ++ xs.drop i)) → (∀ b o, b ≠ q → b ≠ it → H b = some o → H' b = some o) → Rs (.ok (.ret .none)) s') →
    codeAny (model X.prog X.w) A1 (.builtin "list.extend.loop" ⟨[.ref q, .ref it, .none], []⟩) Rs s := by
  intro m
  induction m with
  | zero =>
    intro i acc H s I hm hi hl hlq hq hz fin
    refine codeAny_builtin PySem.F.entry_extend_loop ?_
    rw [Around.under_plainId PySem.F.plain_extend_loop _]
    show wpAny _ A1.in1 (pyNext (.ref it) >>= _) _ _ s
    have hqi : q ≠ it := ne_of hq hi (fun z => by cases z)
    refine wpAny_bind (pynext_end hh I hi (SqL.of hl) (by rw [List.getElem?_eq_none]; omega) fun s' I' => ?_)
    refine wpAny_pure (fin _ s' I' ?_ fun b o h1 h2 e => by rw [upd_ne h2]; exact e)
    rw [upd_ne hqi, List.drop_eq_nil_of_le (by omega), List.append_nil]
    exact hq
  | succ m ih =>
    intro i acc H s I hm hi hl hlq hq hz fin
    refine codeAny_builtin PySem.F.entry_extend_loop ?_
    rw [Around.under_plainId PySem.F.plain_extend_loop _]
    show wpAny _ A1.in1 (pyNext (.ref it) >>= _) _ _ s
    have hqi : q ≠ it := ne_of hq hi (fun z => by cases z)
    have hli : l ≠ it := ne_of hl hi (fun z => by cases z)
    have hlt : i < xs.length := by omega
    refine wpAny_bind (pynext_item I hi (SqL.of hl) (List.getElem?_eq_getElem hlt) fun u s' ru I' => ?_)
    show wpAny _ A1.in1 (updateSeq q (·.push u) >>= _) _ _ _
    have hq' : (upd H it (ItO l it (i + 1))) q = some (.lst acc) := by rw [upd_ne hqi]; exact hq
    obtain ⟨z, its, k, r2, hle, e⟩ := I'.lstM hq'
    refine wpAny_bind (wpAny_updateSeq e rfl (wpAny_pure ⟨plainId_quiet PySem.F.plain_extend_loop _, ?_⟩) (by rw [List.size_toArray]; omega) (by show (its.toArray.push u).size ≤ sizeLine + 1; rw [Array.size_push, List.size_toArray]; omega))
    refine ih (i + 1) (acc ++ [xs[i]]) _ _ (I'.lset (its' := its ++ [u]) (t' := s'.toks) hq' e (by simp) (r2.append (.cons ru .nil)) (by rw [List.length_append, List.length_singleton]; omega)) (by omega) ?_ ?_ hlq upd_same (by rw [List.length_append, List.length_singleton]; omega) fun H' s2 I2 h2 hk => fin H' s2 I2 ?_ fun b o h1 h3 e => hk b o h1 h3 ?_
    · rw [upd_ne (fun z => hqi z.symm), upd_same]
    · rw [upd_ne hlq, upd_ne hli]
      exact hl
    · rw [h2, List.append_assoc, List.drop_eq_getElem_cons hlt]
      rfl
    · rw [upd_ne h1, upd_ne h3]
      exact e
end
section
variable {X : Cx} {C fI fL : Addr} {fdI fdL : FuncData} {psI psL : List Str} {n : Nat} {spI spL : Sp} {EI EL : XK}
def rListOwn (C : Addr) (spI spL : Sp) (EI EL : XK) : List V → Hp → VK → Prop := fun vs H Q => ∃ a dx fs, vs = [.ref a] ∧ H a = some (.ins C dx fs) ∧ ∀ q, H q = none → spI [.ref a] (upd H q (.lst [])) (fun v H1 => ∃ it l zs dx' fs', v = .ref it ∧ H1 it = some (ItO l it 0) ∧ H1 l = some (.lst zs) ∧ zs.length ≤ 1000 ∧
  H1 q = some (.lst []) ∧ l ≠ q ∧ H1 a = some (.ins C dx' fs') ∧ spL [.ref a] H1 (fun w H2 => H2 = H1 ∧ ∃ k : Nat, w = .int (k : Int) ∧ k ≤ 1000) EL ∧ ∀ H3, H3 q = some (.lst zs) → (∀ b o, b ≠ q → b ≠ it → H1 b = some o → H3 b = some o) → Q (.ref q) H3) EI
theorem hint_own {pins : List (Addr × Obj)} {σ : L2.St} {H : Hp} {s : Shared} {a dx : Addr} {fs : List (Str × V)} {A : Around} {Q : Bool → Shared → Prop} {E : Value → Shared → Prop} (sb : Sub X n A.in1) (hl : PySem.W.findIn X.K (.ref C) "__len__" = some (some (.ref fL))) (hlF : PySem.W.isFn X.K (.ref fL) = true)
    (FL : FnOk X.prog X.w X.K X.mg X.base CX0 n fL fdL psL spL) (bL : Binds X.K fdL psL []) (I : Inv X pins σ H s) (ha : H a = some (.ins C dx fs)) (hsp : spL [.ref a] H (fun w H2 => H2 = H ∧ ∃ k : Nat, w = .int (k : Int) ∧ k ≤ 1000) EL)
    (h : ∀ b s', Inv X pins σ H s' → Q b s') : wpAny (model X.prog X.w) A (Builtin.List.listLengthHint (.ref a)) Q E s := by
  obtain ⟨mA, J, _⟩ := ins_get I.hok ha
  obtain ⟨od, J, _⟩ := J.look
  obtain ⟨m0, hF⟩ := I.fr
  unfold Builtin.List.listLengthHint
  refine wpAny_bind (wpAny_bind (J.type.here ((PySem.W.looks_findIn I.kIn hl).here ?_)))
  refine PySem.W.KFB.if_not rfl ?_
  refine PySem.W.KFB.if_so rfl ?_
  refine wpAny_bind (wpAny_rule ?_)
  refine wpAny_bind (wpAny_attempt ?_)
  have e0 : Env0 X.prog X.w X.K X.mg X.base A.in1 X.stack s H := by
    have e := I.env0
    exact ⟨by rw [sb.fr]; exact e.frames, e.mod, e.bs, e.bsz, e.funs, e.frf, e.hok, e.bare⟩
  have hln := FL.len _ _ _ _ hsp
  refine PySem.W.len_K hF I.ok.mod.kin J hl hlF (wpAny_call (codeAny_mono (FL.run A.in1 X.stack s H ⟨[.ref a], []⟩ [.ref a] [.ref a] _ EL sb.room e0 (by
    have := bL s [.ref a] I.kIn (by simpa using hln)
    simpa using this) (.cons rfl .nil) hsp) fun r s' hq => ?_))
  cases r with
  | error e => exact False.elim hq
  | ok fl =>
    cases fl with
    | next => exact False.elim hq
    | brk => exact False.elim hq
    | cont => exact False.elim hq
    | ret u =>
      obtain ⟨z, H', I', rz, rfl, k, rfl, hk⟩ := I.after hq
      obtain ⟨t, rfl⟩ := (show ∃ t, u = Value.int k t from rz)
      have := line63
      have h1000 : 1000 ≤ sizeLine := by rw [sizeLine_eq]; decide
      refine ⟨⟨by omega, by omega⟩, ?_⟩
      refine wpAny_bind (wpAny_pure ?_)
      refine PySem.W.KFB.if_not (by unfold Builtin.List.listTooLong; rw [Int.toNat_natCast]; exact decide_eq_false (by omega)) ?_
      exact wpAny_pure (h _ _ (I'.tok _))
def AfterIter (C : Addr) (spL : Sp) (EL : XK) (a q : Addr) (R : Hp → Prop) : VK := fun v H1 => ∃ it l zs dx' fs', v = .ref it ∧ H1 it = some (ItO l it 0) ∧ H1 l = some (.lst zs) ∧ zs.length ≤ 1000 ∧
  H1 q = some (.lst []) ∧ l ≠ q ∧ H1 a = some (.ins C dx' fs') ∧ spL [.ref a] H1 (fun w H2 => H2 = H1 ∧ ∃ k : Nat, w = .int (k : Int) ∧ k ≤ 1000) EL ∧ ∀ H3, H3 q = some (.lst zs) → (∀ b o, b ≠ q → b ≠ it → H1 b = some o → H3 b = some o) → R H3
theorem extend_own {pins : List (Addr × Obj)} {σ : L2.St} {H : Hp} {s : Shared} {a q dx : Addr} {fs : List (Str × V)} {A1 : Around} {R : Hp → Prop} {Rs : Result → Shared → Prop} (sb : Sub X (n + 1) A1.in1) (hh : A1.in1.handled = none)
    (hi : PySem.W.findIn X.K (.ref C) "__iter__" = some (some (.ref fI))) (hiF : PySem.W.isFn X.K (.ref fI) = true) (hl : PySem.W.findIn X.K (.ref C) "__len__" = some (some (.ref fL))) (hlF : PySem.W.isFn X.K (.ref fL) = true)
    (FI : FnOk X.prog X.w X.K X.mg X.base CX0 n fI fdI psI spI) (bI : Binds X.K fdI psI []) (FL : FnOk X.prog X.w X.K X.mg X.base CX0 n fL fdL psL spL) (bL : Binds X.K fdL psL [])
    (I : Inv X pins σ H s) (ha : H a = some (.ins C dx fs)) (hq : H q = some (.lst [])) (hsp : spI [.ref a] H (AfterIter C spL EL a q R) EI) (hdone : ∀ H' s', Inv X pins σ H' s' → R H' → Rs (.ok (.ret .none)) s') :
    wpAny (model X.prog X.w) A1.in1 (Builtin.List.listExtendWith (.ref q) (.ref a) .none)
      (fun fin s' => match fin with | .done f => Rs (.ok f) s' | .again c' => c'.quiet = true ∧ codeAny (model X.prog X.w) A1 c' Rs s') (fun e s' => Rs (.error e) s') s := by
  have hne : q ≠ a := ne_of hq ha (fun z => nomatch z)
  obtain ⟨mA, J, _⟩ := ins_get I.hok ha
  obtain ⟨od, J, _⟩ := J.look
  obtain ⟨m0, hF⟩ := I.fr
  unfold Builtin.List.listExtendWith
  refine wpAny_bind (J.type.here ?_)
  have h1 : Builtin.List.listSameRef (.ref q) (.ref a) = false := by simp [Builtin.List.listSameRef, hne]
  have h2 : (Value.ref C == Value.type "list") = false := rfl
  have h3 : (Value.ref C == Value.type "tuple") = false := rfl
  simp only [h1, h2, h3, Bool.or_false, Bool.false_eq_true, if_false]
  refine wpAny_bind (PySem.W.owit_iter hF I.ok.mod.kin J hi hiF ?_)
  have e0 : Env0 X.prog X.w X.K X.mg X.base A1.in1 X.stack s H := by
    have e := I.env0
    exact ⟨by rw [sb.fr]; exact e.frames, e.mod, e.bs, e.bsz, e.funs, e.frf, e.hok, e.bare⟩
  have hln := FI.len _ _ _ _ hsp
  refine wpAny_call (codeAny_mono (FI.run A1.in1 X.stack s H ⟨[.ref a], []⟩ [.ref a] [.ref a] _ EI (sb.mono (Nat.le_succ n)).room e0 (by
    have := bI s [.ref a] I.kIn (by simpa using hln)
    simpa using this) (.cons rfl .nil) hsp) fun r s' hr => ?_)
  cases r with
  | error e => exact False.elim hr
  | ok fl =>
    cases fl with
    | next => exact False.elim hr
    | brk => exact False.elim hr
    | cont => exact False.elim hr
    | ret u =>
      obtain ⟨v, H1, I1, rv, it, l, zs, dx', fs', rfl, hit, hl1, hz, hq1, hlq, ha1, hlen, fin⟩ := I.after hr
      cases (show u = Value.ref it from rv)
      have hT : s'.TypeIs (.ref it) "list_iterator" := ⟨_, itO_get I1 hit, rfl⟩
      show wpAny _ _ _ _ _ _
      refine wpAny_specialOf (name := Str.ofString "__next__") hT slot_listiter_next.lookup ?_
      refine wpAny_bind (wpAny_holding (hint_own (sb.in1) hl hlF FL bL I1 ha1 hlen fun room s2 I2 => ?_))
      have last : ∀ (s3 : Shared), Inv X pins σ H1 s3 → codeAny (model X.prog X.w) A1 (.builtin "list.extend.loop" ⟨[.ref q, .ref it, .none], []⟩) Rs s3 := fun s3 I3 =>
        loop_it hh zs.length 0 [] H1 s3 I3 (Nat.add_zero _) hit hl1 hlq hq1 (Nat.lt_of_le_of_lt (by rw [List.length_nil, Nat.zero_add]; exact hz) (by rw [sizeLine_eq]; decide)) fun H' s4 I4 h4 hk => hdone H' s4 I4 (fin H' (by simpa using h4) hk)
      obtain ⟨z, its, k, r3, hl3, e3⟩ := I2.lstM hq1
      cases r3
      refine wpAny_ite_split (fun _ => ?_) (fun _ => wpAny_pure ⟨plainId_quiet PySem.F.plain_extend_loop _, last _ I2⟩)
      refine wpAny_bind (wpAny_rule ?_)
      refine wpAny_bind ?_
      show wpAny _ _ (updateSeq q (·.push .none) >>= fun _ => updateSeq q (·.pop)) _ _ _
      refine wpAny_bind (wpAny_updateSeq e3 rfl ?_)
      have I3 := I2.lset (f := (·.push Value.none)) (its' := [Value.none]) (ys := [.non]) (t' := s2.toks) hq1 e3 (by simp) (.cons rfl .nil) (by rw [List.length_singleton, sizeLine_eq]; decide)
      obtain ⟨z4, its4, k4, r4, hl4, e4⟩ := I3.lstM upd_same
      obtain ⟨u4, rfl, ru4⟩ := r4.one
      refine wpAny_updateSeq e4 rfl ?_ (by show 1 ≤ sizeLine; rw [sizeLine_eq]; decide) (by show 0 ≤ sizeLine + 1; exact Nat.zero_le _)
      refine wpAny_pure ⟨plainId_quiet PySem.F.plain_extend_loop _, last _ ?_⟩
      have I4 := I3.lset (f := (·.pop)) (its := [u4]) (its' := []) (ys := []) (t' := s2.toks) upd_same e4 (by rfl) .nil (Nat.zero_le _)
      rw [upd_upd] at I4
      have hH : upd H1 q (.lst []) = H1 := by
        funext b
        by_cases hb : b = q
        · rw [hb, upd_same, hq1]
        · rw [upd_ne hb]
      rw [hH] at I4
      exact I4
theorem call_listGame (hi : PySem.W.findIn X.K (.ref C) "__iter__" = some (some (.ref fI))) (hiF : PySem.W.isFn X.K (.ref fI) = true) (hl : PySem.W.findIn X.K (.ref C) "__len__" = some (some (.ref fL))) (hlF : PySem.W.isFn X.K (.ref fL) = true)
    (FI : FnOk X.prog X.w X.K X.mg X.base CX0 n fI fdI psI spI) (bI : Binds X.K fdI psI []) (FL : FnOk X.prog X.w X.K X.mg X.base CX0 n fL fdL psL spL) (bL : Binds X.K fdL psL []) (hc : X.calm = true) (hr : Room (n + 3) X.A) : CallR X (.type "list") (rListOwn C spI spL EI EL) := by
  intro pins s σ H xs us Q I rv h
  obtain ⟨a, dx, fs, rfl, ha, hq⟩ := h
  obtain ⟨u, rfl, ru⟩ := rv.one
  cases ru
  have sb : Sub X (n + 1) X.A.in1.in1 := Sub.in1 (Sub.in1 (⟨hr, rfl⟩ : Sub X (n + 3) X.A))
  refine callType_codes (Q₁ := fun obj s₁ => obj = .ref s.heap.objs.size ∧ s₁ = { s with heap := s.heap.push { cls := .type "list", data := .seq #[] } }) PySem.F.called_list (PySem.F.typeCall_list_1 _) PySem.F.entry_list_init
    (code_list_new _ ⟨rfl, rfl⟩) fun obj s₁ h₁ => ?_
  obtain ⟨rfl, rfl⟩ := h₁
  have hS : (s.heap.push { cls := .type "list", data := .seq #[] }).get? s.heap.objs.size = some { cls := .type "list", data := .seq #[] } := Heap.get?_push_size _ rfl
  refine ⟨⟨_, hS, rfl⟩, PySem.F.args_list_init_2 _ _, ?_⟩
  have fr : H s.heap.objs.size = none := I.hok.fresh (Nat.le_refl _)
  have I1 : Inv X pins σ (upd H s.heap.objs.size (.lst [])) { s with heap := s.heap.push { cls := .type "list", data := .seq #[] } } := I.lnew (its := []) (t' := s.toks) .nil (Nat.zero_le _)
  show wpAny _ _ (do let old ← Builtin.List.listItems (.ref s.heap.objs.size); Builtin.List.listUpdate (.ref s.heap.objs.size) (fun _ => #[]); letGo old.toList.reverse; Builtin.List.listExtendWith (.ref s.heap.objs.size) (.ref a) .none) _ _ _
  refine wpAny_bind ?_
  unfold Builtin.List.listItems
  refine wpAny_bind (wpAny_seqItems hS rfl (wpAny_pure ?_))
  show wpAny _ _ (updateSeq s.heap.objs.size (fun _ => #[]) >>= fun _ => letGo (#[] : Array Value).toList.reverse >>= fun _ => Builtin.List.listExtendWith (.ref s.heap.objs.size) (.ref a) .none) _ _ _
  refine wpAny_bind (wpAny_updateSeq hS rfl ?_)
  have I2 := I1.lset (f := fun _ => #[]) (its := []) (its' := []) (ys := []) (t' := s.toks) upd_same hS rfl .nil (Nat.zero_le _)
  rw [upd_upd] at I2
  refine wpAny_bind (wpAny_letGo ?_)
  have ha2 : upd H s.heap.objs.size (.lst []) a = some (.ins C dx fs) := by rw [upd_ne (ne_of_none ha fr)]; exact ha
  exact extend_own (A1 := X.A.in1) (R := fun H' => Q (.ref s.heap.objs.size) H') (Rs := wants (fun r s₂ => r = .none ∧ EP X pins σ Q (.ref s.heap.objs.size) s₂) X.xe) sb (I.ok.hd hc) hi hiF hl hlF FI bI FL bL I2 ha2 upd_same (hq _ fr)
    (fun H' s' I' hR => ⟨rfl, .ref s.heap.objs.size, H', I', rfl, hR⟩)
end
end HG

namespace HG
open PySem PySem.Spec PyProof.Rows L2
open C8 (pss_cut tCut)
theorem stds_ne {S : List Way} (ok : SOk S) : 1 ≤ (stds S).length := by
  have key : ∀ (S : List Way) (sts : List (List Str)), (∀ q ∈ S, 1 ≤ q.2.length) → 1 ≤ sts.length → 1 ≤ (S.foldl (fun sts q => mul1 sts q.2) sts).length := by
    intro S
    induction S with
    | nil => exact fun sts _ h => h
    | cons q r ih =>
      refine fun sts h hs => ih _ (fun q hq => h q (List.mem_cons_of_mem _ hq)) ?_
      rw [mul1_len]
      exact Nat.mul_pos hs (h q List.mem_cons_self)
  exact key S [[]] ok.w1 (Nat.le_refl _)
section
variable {P : Program} {w : World} {K : PySem.W.Frag} {mg : Str → Option Value} {base : Heap}
variable {C : Addr}
def spIter (K : PySem.W.Frag) (C : Addr) : Sp := fun args H Q _ => ∃ (g : Addr) (N : Addr → Prop) (S : List Way) (γ : List Str → List Int), args = [.ref g] ∧ IsG K C N H g S γ ∧ ∀ it l vs, H it = none → H l = some (.lst vs) → N l → TupsAt H (stds S) vs → Q (.ref it) (upd H it (ItO l it 0))
abbrev MtIter (K : PySem.W.Frag) (C f : Addr) (fd : FuncData) := Mt K C "__iter__" "Game.__iter__" s_Game___iter ["self"] f fd
theorem ok_iter {f : Addr} {fd : FuncData} (mi : mg "iter" = none) (c : GC K C) (M : MtIter K C f fd) : FnOk P w K mg base CX0 1 f fd ["self"] (spIter K C) := by
  have S : FnScope ["self"] ["self"] (defScope s_Game___iter) := ⟨rfl, rfl, rfl, by decide +kernel, rfl, by decide +kernel, by decide +kernel⟩
  refine M.F.ok S (fun vs H Q E h => ?_) (fun cdv A outer s H vs Q E hr h => ?_)
  · obtain ⟨g, N, S, γ, rfl, _⟩ := h
    rfl
  · obtain ⟨g, N, S, γ, rfl, ⟨dx, wa, l, ta, vs, kvs, hG⟩, q⟩ := h
    refine ⟨_, pss_one (ps_ret (pe_callB call_iterL (by rfl) mi (by decide +kernel) (pa_cons (pe_fld (pv 0) rfl) pa_nil))), ?_⟩
    exact ⟨_, rfl, g, C, dx, _, _, rfl, hG.hg, c.cl, c.nL, rfl, l, vs, rfl, SqL.of hG.hl, fun it nit => q it l vs nit hG.hl hG.nl hG.hs⟩
section
variable {X : Cx} {fI fL : Addr} {dI dL : FuncData}
/-- list(game) -/
def rListG (K : PySem.W.Frag) (C : Addr) : List V → Hp → VK → Prop := fun xs H Q => ∃ g N S γ, xs = [V.ref g] ∧ IsG K C N H g S γ ∧ SOk S ∧ ∀ H' p vs, Same H H' → H p = none → H' p = some (.lst vs) → TupsAt H' (stds S) vs → Q (.ref p) H'
theorem call_listG (T : KT X.K X.mg) (mi : X.mg "iter" = none) (c : GC X.K C) (MI : MtIter X.K C fI dI) (ML : MtLen X.K C fL dL) (hc : X.calm = true) (hr : Room 4 X.A) : CallR X (.type "list") (rListG X.K C) := by
  intro pins s σ H xs us Q I rv h
  obtain ⟨g, N, S, γ, rfl, hg, ok, q⟩ := h
  obtain ⟨dx, wa, l, ta, vs, kvs, hG⟩ := id hg
  refine call_listGame (n := 1) (EI := E0) (EL := E0) MI.me.at_ MI.me.fn ML.me.at_ ML.me.fn (ok_iter mi c MI) MI.b (ok_len T c ML) ML.b hc hr pins s σ H _ us Q I rv ⟨g, dx, _, rfl, hG.hg, fun p np => ?_⟩
  have sp := same_upd (o := .lst []) np
  have hgp := hg.same sp
  refine ⟨g, N, S, γ, rfl, hgp, fun it l' vs' nit hl nl hs => ?_⟩
  have sit := same_upd (o := ItO l' it 0) nit
  have hlp : l' ≠ p := fun z => by
    subst z
    rw [upd_same] at hl
    cases hl
    have h1 : (stds S).length = 0 := Paired.length hs
    have h2 := stds_ne ok
    omega
  refine ⟨it, l', vs', dx, _, rfl, upd_same, sit _ _ hl, ?_, sit _ _ upd_same, hlp, sit _ _ (sp _ _ hG.hg), ⟨g, N, S, γ, rfl, hgp.same sit, rfl, (stds S).length, rfl, ?_⟩, fun H3 h3 hk => ?_⟩
  · rw [← show (stds S).length = vs'.length from Paired.length hs]
    have := ok.few
    omega
  · have := ok.few
    omega
  · have hpi : p ≠ it := fun z => by
      subst z
      rw [upd_same] at nit
      cases nit
    refine q H3 p vs' (fun b o e => ?_) np h3 ?_
    · have hbp : b ≠ p := ne_of_none e np
      have e1 := sp _ _ e
      exact hk b o hbp (ne_of_none e1 nit) (sit _ _ e1)
    · refine paired_imp hs fun _ _ ⟨a, e, h⟩ => ⟨a, e, ?_⟩
      exact hk a _ (ne_of h upd_same (by intro z; cases z)) (ne_of_none h nit) (sit _ _ h)
end
end
end HG

namespace HG
open PySem PySem.Spec PyProof.Rows L2
open C8 (pss_cut tCut)
abbrev sBag : Stmt := s_law_bag
abbrev sTake : Stmt := s_law_take
abbrev sOne : Stmt := s_law_one

/-! ### the bag of the law: [0, seed, place, cells] -/
def But (b : Addr) (H H' : Hp) : Prop := ∀ q o, H q = some o → q ≠ b → H' q = some o
theorem But.of {b : Addr} {H H' : Hp} (h : Same H H') : But b H H' := fun q o e _ => h q o e
theorem But.trans {b : Addr} {H H1 H2 : Hp} (h : But b H H1) (h' : But b H1 H2) : But b H H2 := fun q o e n => h' q o (h q o e n) n
theorem But.upd {b : Addr} {H H' : Hp} {o : HO} (h : But b H H') : But b H (upd H' b o) := fun q u e n => by
  rw [upd_ne n]
  exact h q u e n
structure Bag (H : Hp) (b k : Addr) (ns : List Int) (a c n : Int) : Prop where
  at_ : H b = some (.lst [.int a, .int c, .int n, .ref k])
  cells : H k = some (.lst (ns.map V.int))
  n0 : 0 ≤ n
  c0 : 0 ≤ c
  c1 : c < 2147483647
theorem Bag.ne {H : Hp} {b k : Addr} {ns : List Int} {a c n : Int} (B : Bag H b k ns a c n) : k ≠ b := by
  refine ne_of B.cells B.at_ fun z => ?_
  have z1 : ns.map V.int = [.int a, .int c, .int n, .ref k] := by
    have := congrArg (fun o => match o with | HO.lst xs => xs | _ => []) z
    exact this
  have z2 := congrArg (fun l : List V => l[3]?) z1
  rw [List.getElem?_map] at z2
  cases e : ns[3]? with
  | none =>
    rw [e] at z2
    cases z2
  | some y =>
    rw [e] at z2
    cases z2
theorem Bag.same {H H' : Hp} {b k : Addr} {ns : List Int} {a c n : Int} (B : Bag H b k ns a c n) (s : Same H H') : Bag H' b k ns a c n := ⟨s _ _ B.at_, s _ _ B.cells, B.n0, B.c0, B.c1⟩
/-- the bag is written anew -/
theorem Bag.put {H : Hp} {b k : Addr} {ns : List Int} {a c n a' c' n' : Int} (B : Bag H b k ns a c n) (hn : 0 ≤ n') (hc : 0 ≤ c') (hc' : c' < 2147483647) : Bag (upd H b (.lst [.int a', .int c', .int n', .ref k])) b k ns a' c' n' :=
  ⟨upd_same, by rw [upd_ne B.ne]; exact B.cells, hn, hc, hc'⟩
def ABag (H : Hp) (b k : Addr) (ns : List Int) : Prop := ∃ a c n, Bag H b k ns a c n
theorem ABag.same {H H' : Hp} {b k : Addr} {ns : List Int} (B : ABag H b k ns) (s : Same H H') : ABag H' b k ns := let ⟨a, c, n, B⟩ := B; ⟨a, c, n, B.same s⟩

def spBag (K : PySem.W.Frag) : Sp := fun vs H Q _ => ∃ (a : Addr) (ns : List Int), vs = [.ref a] ∧ SqL K H a (ns.map V.int) ∧ ns.length ≤ 1000 ∧
  ∀ H' b k ns', Same H H' → ABag H' b k ns' → H b = none → H k = none → Q (.ref b) H'
def spTake : Sp := fun vs H Q _ => ∃ (b k : Addr) (ns : List Int) (m : Int), vs = [.ref b, .int m] ∧ ABag H b k ns ∧ 0 < m ∧ m < 1073741824 ∧
  ∀ H' d, But b H H' → ABag H' b k ns → 0 ≤ d → d < m → Q (.int d) H'
def spOne (K : PySem.W.Frag) : Sp := fun vs H Q _ => ∃ (b k p : Addr) (ns : List Int) (xs : List V), vs = [.ref b, .ref p] ∧ ABag H b k ns ∧ SqL K H p xs ∧ p ≠ b ∧ xs ≠ [] ∧ xs.length < 1000 ∧
  ∀ H' x, But b H H' → ABag H' b k ns → x ∈ xs → Q x H'

theorem scBag : FnScope ["_law_script", "_law_cell"] ["_law_script"] (defScope sBag) := ⟨rfl, rfl, rfl, by decide +kernel, rfl, by decide +kernel, by decide +kernel⟩
theorem scTake : FnScope ["_law_bag_here", "_law_many", "_law_cell", "_law_mixed_here", "_law_drawn", "_law_early", "_law_second"] ["_law_bag_here", "_law_many"] (defScope sTake) := ⟨rfl, rfl, rfl, by decide +kernel, rfl, by decide +kernel, by decide +kernel⟩
theorem scOne : FnScope ["_law_bag_here", "_law_some"] ["_law_bag_here", "_law_some"] (defScope sOne) := ⟨rfl, rfl, rfl, by decide +kernel, rfl, by decide +kernel, by decide +kernel⟩
section
variable {P : Program} {w : World} {K : PySem.W.Frag} {mg : Str → Option Value} {base : Heap}
theorem but_seq {K : PySem.W.Frag} {b a : Addr} {H H' : Hp} {xs : List V} (e : But b H H') (h : SqL K H a xs) (n : a ≠ b) : SqL K H' a xs := by
  rcases h with (h | ⟨o, h⟩) | h
  · exact .inl (.inl (e _ _ h n))
  · exact .inl (.inr ⟨o, e _ _ h n⟩)
  · exact .inr h
theorem ok_take {f : Addr} {fd : FuncData} (F : Fun K "_law_take" "_law_take" sTake f fd) (ml : mg "len" = none) (mi : mg "int" = none) : FnOk P w K mg base CX0 1 f fd ["_law_bag_here", "_law_many"] spTake := by
  refine F.ok scTake (fun vs H Q E h => ?_) (fun cdv A outer s H vs Q E hr h => ?_)
  · obtain ⟨b, k, ns, m, rfl, _⟩ := h
    rfl
  · obtain ⟨b, k, ns, m, rfl, B0, hm0, hm1, q⟩ := h
    obtain ⟨a, c, n, B⟩ := B0
    have nd := scTake.nd
    refine ⟨_, pss_cut (ps_if (pt_cmpR op_eq (pe_ix ix_list (pv 0) pe_int (fun _ _ => rfl)) pe_int (nomark _))
        (pss_cons (ps_set (i := 2) nd rfl (Or.inl rfl) pe_int)
        (pss_cut (ps_if (pt_cmpR op_lt (pe_ix ix_list (pv 0) pe_int (fun _ _ => rfl)) (pe_callB call_len_seq (by rfl) ml PySem.boot_len (pa_cons (pe_ix ix_list (pv 0) pe_int (fun _ _ => rfl)) pa_nil)) (nomark _))
          (pss_one (ps_set (i := 2) nd rfl (Or.inl rfl) (pe_ix ix_list (pe_ix ix_list (pv 0) pe_int (fun _ _ => rfl)) (pe_ix ix_list (pv 0) pe_int (fun _ _ => rfl)) (fun _ _ => rfl)))) pss_nil)
        (pss_cons (ps_augS (pv 0) pe_int get_list pe_int ip_add set_list)
        (pss_cut (ps_if (pt_cmpR op_ge (pv 2) pe_int (nomark _)) (pss_one (ps_asg (pv 2) (pg_sub (pv 0) pe_int set_list))) pss_nil)
        (pss_cons (ps_set (i := 3) nd rfl (Or.inl rfl) (pe_op op_add (pe_op op_add (pe_op op_mul (pe_ix ix_list (pv 0) pe_int (fun _ _ => rfl)) pe_int) (pe_op op_mod (pe_callTy call_int1 (by rfl) mi (by decide +kernel) (pa_cons (pv 2) pa_nil)) pe_int)) (pe_op op_mul pe_int (pe_ix ix_list (pv 0) pe_int (fun _ _ => rfl)))))
        (pss_one (ps_asg (pe_op op_mod (pe_callTy call_int1 (by rfl) mi (by decide +kernel) (pa_cons (pv 3) pa_nil)) pe_int) (pg_sub (pv 0) pe_int set_list))))))))
        pss_nil)
      (pss_cons (ps_if (pt_cmpR op_gt (pe_ix ix_list (pv 0) pe_int (fun _ _ => rfl)) pe_int (nomark _))
        (pss_cons (ps_set (i := 4) nd rfl (Or.inl rfl) (pe_op op_mod (pe_callTy call_int1 (by rfl) mi (by decide +kernel) (pa_cons (pe_ix ix_list (pv 0) pe_int (fun _ _ => rfl)) pa_nil)) (pv 1)))
        (pss_cons (ps_asg (pe_op op_fdiv (pe_callTy call_int1 (by rfl) mi (by decide +kernel) (pa_cons (pe_ix ix_list (pv 0) pe_int (fun _ _ => rfl)) pa_nil)) (pv 1)) (pg_sub (pv 0) pe_int set_list))
        (pss_one (ps_ret (pv 4))))) pss_nil)
      (pss_cons (ps_set (i := 5) nd rfl (Or.inl rfl) (pe_op op_mod (pe_callTy call_int1 (by rfl) mi (by decide +kernel) (pa_cons (pe_op op_mul (pe_op op_add (pe_ix ix_list (pv 0) pe_int (fun _ _ => rfl)) pe_int) pe_int) pa_nil)) pe_int))
      (pss_cons (ps_set (i := 6) nd rfl (Or.inl rfl) (pe_op op_mod (pe_callTy call_int1 (by rfl) mi (by decide +kernel) (pa_cons (pe_op op_mul (pe_op op_mod (pe_callTy call_int1 (by rfl) mi (by decide +kernel) (pa_cons (pe_op op_mul (pv 5) (pv 5)) pa_nil)) pe_int) pe_int) pa_nil)) pe_int))
      (pss_one (ps_ret (pe_op op_mod (pe_callTy call_int1 (by rfl) mi (by decide +kernel) (pa_cons (pe_op op_fdiv (pv 6) pe_int) pa_nil)) (pv 1))))))), ?_⟩
    -- behind the first if
    refine ⟨fun σ' H' => ∃ c2 mx a' c' n', σ' = [some (.ref b), some (.int m), c2, mx, none, none, none] ∧ But b H H' ∧ Bag H' b k ns a' c' n', ?_, ?_⟩
    · refine ⟨_, rfl, b, _, _, _, rfl, rfl, SqL.of B.at_, at_of (j := 0) rfl rfl, rfl, _, rfl, ite2 (fun _ => ?_) (fun _ => ?_)⟩
      · refine ⟨fun σ' H' => ∃ z : Int, σ' = [some (.ref b), some (.int m), some (.int z), none, none, none, none] ∧ H' = H, ?_, ?_⟩
        · refine ⟨_, rfl, b, _, _, _, rfl, rfl, SqL.of B.at_, at_of (j := 2) rfl rfl, _, rfl, b, _, _, _, rfl, rfl, SqL.of B.at_, at_of (j := 3) rfl rfl, k, _, rfl, .inl (SqL.of B.cells), _, _, rfl, rfl, _, rfl, ite2 (fun hlt => ?_) (fun _ => ⟨0, rfl, rfl⟩)⟩
          have hlt' := of_decide_eq_true hlt
          rw [List.length_map] at hlt'
          have n0 := B.n0
          have hj : n.toNat < ns.length := by omega
          refine ⟨_, rfl, b, _, _, _, rfl, rfl, SqL.of B.at_, at_of (j := 3) rfl rfl, _, rfl, b, _, _, _, rfl, rfl, SqL.of B.at_, at_of (j := 2) rfl rfl, k, _, _, .int ns[n.toNat], rfl, rfl, SqL.of B.cells, at_of (j := n.toNat) (by omega) (by rw [List.getElem?_map, List.getElem?_eq_getElem hj]; rfl), ns[n.toNat], rfl, rfl⟩
        · rintro σ' H' ⟨z, rfl, rfl⟩
          -- bag[2] += 1
          refine ⟨_, rfl, b, _, _, _, rfl, rfl, SqL.of B.at_, by decide, at_of (j := 2) rfl rfl, _, _, rfl, rfl, b, _, _, 2, rfl, rfl, B.at_, rfl, ?_⟩
          have n0 := B.n0
          have B2 : Bag (upd H' b (.lst [.int a, .int c, .int (n + 1), .ref k])) b k ns a c (n + 1) := B.put (by omega) B.c0 B.c1
          have k2 : But b H' (upd H' b (.lst [.int a, .int c, .int (n + 1), .ref k])) := But.upd (But.of (Same.refl _))
          -- if cell >= ..: bag[0] = cell
          refine ⟨fun σ' H2 => ∃ a2, σ' = [some (.ref b), some (.int m), some (.int z), none, none, none, none] ∧ But b H' H2 ∧ Bag H2 b k ns a2 c (n + 1), ?_, ?_⟩
          · refine ⟨_, rfl, _, _, rfl, rfl, _, rfl, ite2 (fun _ => ?_) (fun _ => ⟨a, rfl, k2, B2⟩)⟩
            refine ⟨_, rfl, _, rfl, b, _, _, 0, rfl, rfl, B2.at_, rfl, z, rfl, But.upd k2, B2.put B2.n0 B2.c0 B2.c1⟩
          · rintro σ' H2 ⟨a2, rfl, k3, B3⟩
            have c0 := B3.c0
            have c1 := B3.c1
            refine ⟨_, rfl, b, _, _, _, rfl, rfl, SqL.of B3.at_, at_of (j := 1) rfl rfl, _, _, rfl, rfl, .inr ⟨by decide, by decide⟩, _, rfl, .inl ⟨_, rfl, _, _, rfl, rfl, (by show (0 : Int) < 2147483647; decide), _, _, rfl, rfl, _, rfl, b, _, _, _, rfl, rfl, SqL.of B3.at_, at_of (j := 2) rfl rfl, _, _, rfl, rfl, .inl ⟨by decide, by decide⟩, _, _, rfl, rfl, ?_⟩⟩
            refine ⟨_, rfl, .inl ⟨_, rfl, _, _, rfl, rfl, (by show (0 : Int) < 2147483647; decide), _, rfl, b, _, _, 1, rfl, rfl, B3.at_, rfl, ?_⟩⟩
            exact ⟨_, _, a2, _, _, rfl, But.upd k3, B3.put B3.n0 (Int.emod_nonneg _ (by decide)) (Int.emod_lt_of_pos _ (by decide))⟩
      · exact ⟨none, none, a, c, n, rfl, But.of (Same.refl _), B⟩
    · rintro σ' H' ⟨c2, mx, a', c', n', rfl, kb, B'⟩
      have c0 := B'.c0
      have c1 := B'.c1
      have n0 := B'.n0
      refine ⟨_, rfl, b, _, _, _, rfl, rfl, SqL.of B'.at_, at_of (j := 0) rfl rfl, _, _, rfl, rfl, _, rfl, ite2 (fun _ => ?_) (fun _ => ?_)⟩
      · refine ⟨_, rfl, b, _, _, _, rfl, rfl, SqL.of B'.at_, at_of (j := 0) rfl rfl, .inl ⟨_, rfl, _, rfl, _, _, rfl, rfl, hm0, ?_⟩⟩
        refine ⟨_, rfl, b, _, _, _, rfl, rfl, SqL.of B'.at_, at_of (j := 0) rfl rfl, .inl ⟨_, rfl, _, rfl, _, _, rfl, rfl, ⟨hm0, hm1⟩, _, rfl, b, _, _, 0, rfl, rfl, B'.at_, rfl, ?_⟩⟩
        refine ⟨_, rfl, q _ _ (But.upd kb) ⟨_, _, _, B'.put n0 c0 c1⟩ (Int.emod_nonneg _ (by omega)) (Int.emod_lt_of_pos _ hm0)⟩
      · refine ⟨_, rfl, b, _, _, _, rfl, rfl, SqL.of B'.at_, at_of (j := 1) rfl rfl, _, _, rfl, rfl, _, _, rfl, rfl, .inr ⟨by decide, by decide⟩, .inl ⟨_, rfl, _, _, rfl, rfl, (by show (0 : Int) < 1000000007; decide), ?_⟩⟩
        have e0 : 0 ≤ ((c' + 1) * 39373) % 1000000007 := Int.emod_nonneg _ (by decide)
        have e1 : ((c' + 1) * 39373) % 1000000007 < 1000000007 := Int.emod_lt_of_pos _ (by decide)
        refine ⟨_, rfl, _, rfl, _, _, rfl, rfl, .inl ⟨by omega, by omega⟩, .inl ⟨_, rfl, _, _, rfl, rfl, (by show (0 : Int) < 998244353; decide), _, _, rfl, rfl, .inr ⟨by decide, by decide⟩, .inl ⟨_, rfl, _, _, rfl, rfl, (by show (0 : Int) < 998244353; decide), ?_⟩⟩⟩
        refine ⟨_, rfl, _, _, rfl, rfl, ⟨by decide, by decide⟩, .inl ⟨_, rfl, _, rfl, _, _, rfl, rfl, hm0, ?_⟩⟩
        exact q _ _ kb ⟨_, _, _, B'⟩ (Int.emod_nonneg _ (by omega)) (Int.emod_lt_of_pos _ hm0)
theorem ok_one {f ft : Addr} {fd fdt : FuncData} (F : Fun K "_law_one" "_law_one" sOne f fd) (FT : Fun K "_law_take" "_law_take" sTake ft fdt) (bT : Binds K fdt ["_law_bag_here", "_law_many"] []) (gT : mg "_law_take" = some (.ref ft))
    (ml : mg "len" = none) (mi : mg "int" = none) : FnOk P w K mg base CX0 2 f fd ["_law_bag_here", "_law_some"] (spOne K) := by
  refine F.ok scOne (fun vs H Q E h => ?_) (fun cdv A outer s H vs Q E hr h => ?_)
  · obtain ⟨b, k, p, ns, xs, rfl, _⟩ := h
    rfl
  · obtain ⟨b, k, p, ns, xs, rfl, B, hs, hpb, h0, hl, q⟩ := h
    refine ⟨_, pss_one (ps_ret (pe_ix ix_list (pv 1) (pe_call (ok_take FT ml mi) hr (by rfl) gT FT.kp bT .nil pass0 (pa_cons (pv 0) (pa_cons (pe_callB call_len_seq (by rfl) ml PySem.boot_len (pa_cons (pv 1) pa_nil)) pa_nil))) (fun _ _ => rfl))), ?_⟩
    have hlen : 0 < xs.length := List.length_pos_iff.mpr h0
    refine ⟨_, rfl, _, rfl, _, rfl, p, xs, rfl, .inl hs, b, k, ns, _, rfl, B, (by omega), (by omega), fun H' d kb B' d0 d1 => ?_⟩
    have hj : d.toNat < xs.length := by omega
    exact ⟨p, xs, d, xs[d.toNat], rfl, rfl, but_seq kb hs hpb, at_of (j := d.toNat) (by omega) (List.getElem?_eq_getElem hj), q _ _ kb B' (List.getElem_mem hj)⟩
theorem cut63 (xs : List V) : (cutV xs none (some 63)).length ≤ xs.length := cutV_length xs _ _
theorem cut_ints (ns : List Int) (lo hi : Option Int) : ∃ ms : List Int, cutV (ns.map V.int) lo hi = ms.map V.int ∧ ms.length ≤ ns.length := by
  unfold cutV
  refine ⟨(ns.drop _).take _, by rw [← List.map_drop, ← List.map_take], ?_⟩
  rw [List.length_take, List.length_drop]
  omega
theorem ok_bag {f : Addr} {fd : FuncData} (F : Fun K "_law_bag" "_law_bag" sBag f fd) (ma : mg "abs" = none) : FnOk P w K mg base CX0 1 f fd ["_law_script"] (spBag K) := by
  refine F.ok scBag (fun vs H Q E h => ?_) (fun cdv A outer s H vs Q E hr h => ?_)
  · obtain ⟨a, ns, rfl, _⟩ := h
    rfl
  · obtain ⟨a, ns, rfl, hS, hl, q⟩ := h
    have nd := scBag.nd
    refine ⟨_, pss_one (ps_ret (pe_lst (pa_cons pe_int (pa_cons pe_int (pa_cons pe_int (pa_cons
      (pe_lc (own := [("_law_cell", 1)]) (g := gName 1) (tt := tYes) rfl nd (pi_list (pe_slice sl_list (pv 0) po_none (po_some pe_int))) (blkOk_by (N := ["_law_script", "_law_cell"]) (sc := defScope sBag) (by decide +kernel)) (fun _ _ _ _ _ => pg_name (i := 1) nd rfl (Or.inl rfl)) (fun _ _ _ _ _ => pts_nil)
        (fun _ _ _ _ _ => pe_callB call_abs (by rfl) ma (by decide +kernel) (pa_cons (pv 1) pa_nil))) pa_nil)))))), ?_⟩
    obtain ⟨ms, em, hml⟩ := cut_ints ns none (some 63)
    refine ⟨_, rfl, 63, rfl, a, _, rfl, hS, fun p hp => ?_⟩
    rw [em]
    refine ⟨p, rfl, ⟨_, SqL.of upd_same⟩, fun D hD => ?_⟩
    refine lc_list (K := K) (a := p) (xs := ms.map V.int) (fun i H' => ∃ zs : List Int, H' D = some (.lst (zs.map V.int)) ∧ zs.length = i ∧ (∀ r o, (upd H p (.lst (ms.map V.int))) r = some o → H' r = some o)) ⟨[], upd_same, rfl, same_upd hD⟩
      (fun i H' _ ⟨zs, _, _, sm⟩ => SqL.of (sm _ _ upd_same)) ?_ ?_
    · rintro i x H' hi ⟨zs, hz, hzl, sm⟩
      obtain ⟨y, rfl⟩ : ∃ y, x = V.int y := by
        rw [List.getElem?_map] at hi
        cases e : ms[i]? with
        | none =>
          rw [e] at hi
          cases hi
        | some z =>
          rw [e] at hi
          exact ⟨z, (Option.some.inj hi).symm⟩
      have hil : i < ms.length := by
        have := (List.getElem?_eq_some_iff.mp hi).1
        rwa [List.length_map] at this
      refine ⟨rfl, _, rfl, y, rfl, _, hz, small1000 (by rw [List.length_map]; omega), zs ++ [if y < 0 then -y else y], by rw [upd_same, List.map_append]; rfl, by rw [List.length_append, hzl]; rfl, fun r o e => ?_⟩
      rw [upd_ne (ne_of_none e hD)]
      exact sm _ _ e
    · rintro H' ⟨zs, hz, hzl, sm⟩
      refine ⟨(by show 4 ≤ sizeLine; decide), fun b hb => ?_⟩
      have sH : Same H H' := fun r o e => sm r o (same_upd hp r o e)
      have nDb : D ≠ b := ne_of_none hz hb
      refine q _ b D zs (sH.trans (same_upd hb)) ⟨0, 1234567891, 0, upd_same, by rw [upd_ne nDb]; exact hz, by decide, by decide, by decide⟩ (sH.free hb) (Same.free (same_upd hp) hD)
end
end HG

namespace HG
open PySem PySem.Spec PyProof.Rows L2
open C8 (pss_cut tCut)
/-- the bag's functions, as the text has them -/
structure BT (K : PySem.W.Frag) (mg : Str → Option Value) (fT fO : Addr) (dT dO : FuncData) : Prop where
  ml : mg "len" = none
  mi : mg "int" = none
  T : Fun K "_law_take" "_law_take" sTake fT dT
  bT : Binds K dT ["_law_bag_here", "_law_many"] []
  gT : mg "_law_take" = some (.ref fT)
  O : Fun K "_law_one" "_law_one" sOne fO dO
  bO : Binds K dO ["_law_bag_here", "_law_some"] []
  gO : mg "_law_one" = some (.ref fO)
def spMixed (K : PySem.W.Frag) : Sp := fun args H Q _ => ∃ (b k p : Addr) (ns : List Int) (xs : List V), args = [.ref b, .ref p] ∧ ABag H b k ns ∧ SqL K H p xs ∧ p ≠ b ∧ xs.length ≤ 256 ∧
  ∀ H' q ys, But b H H' → ABag H' b k ns → H q = none → H' q = some (.lst ys) → ys.Perm xs → Q (.ref q) H'
theorem abag_ne {H : Hp} {b k : Addr} {ns : List Int} (B : ABag H b k ns) : ∃ xs, H b = some (.lst xs) := let ⟨_, _, _, B⟩ := B; ⟨_, B.at_⟩
theorem abag_upd {H : Hp} {b k : Addr} {ns : List Int} {q : Addr} {o : HO} (B : ABag H b k ns) (h1 : q ≠ b) (h2 : q ≠ k) : ABag (upd H q o) b k ns := by
  obtain ⟨a, c, n, B⟩ := B
  exact ⟨a, c, n, by rw [upd_ne h1.symm]; exact B.at_, by rw [upd_ne h2.symm]; exact B.cells, B.n0, B.c0, B.c1⟩
theorem abag_k {H : Hp} {b k : Addr} {ns : List Int} (B : ABag H b k ns) : H k = some (.lst (ns.map V.int)) := let ⟨_, _, _, B⟩ := B; B.cells
section
variable {P : Program} {w : World} {K : PySem.W.Frag} {mg : Str → Option Value} {base : Heap}
variable {fT fO : Addr} {dT dO : FuncData}
theorem ok_mixed {f : Addr} {fd : FuncData} (B : BT K mg fT fO dT dO) (F : Fun K "_law_mixed" "_law_mixed" s_law_mixed f fd) : FnOk P w K mg base CX0 2 f fd ["_law_bag_here", "_law_things"] (spMixed K) := by
  have S : FnScope ["_law_bag_here", "_law_things", "_law_found", "_law_thing"] ["_law_bag_here", "_law_things"] (defScope s_law_mixed) := ⟨rfl, rfl, rfl, by decide +kernel, rfl, by decide +kernel, by decide +kernel⟩
  have nd := S.nd
  refine F.ok S (fun vs H Q E h => ?_) (fun cdv A outer s H vs Q E hr h => ?_)
  · obtain ⟨b, k, p, ns, xs, rfl, _⟩ := h
    rfl
  · obtain ⟨b, k, p, ns, xs, rfl, B0, hs, hpb, hz, q⟩ := h
    refine ⟨_, pss_cons (ps_set (i := 2) nd rfl (Or.inl rfl) (pe_lst pa_nil))
      (pss_cons (ps_for PassesOwn.never rfl (pi_list (pv 1)) (pg_name (i := 3) nd rfl (Or.inl rfl))
        (pss_one (ps_expr (pe_bm PySem.F.plainAttrs_list PySem.F.slot_list_insert PySem.F.type_list_insert mt_insert (pv 2) (pa_cons (pe_call (ok_take B.T B.ml B.mi) (hr.mono (by decide)) (by rfl) B.gT B.T.kp B.bT .nil pass0 (pa_cons (pv 0) (pa_cons (pe_op op_add (pe_callB call_len_seq (by rfl) B.ml PySem.boot_len (pa_cons (pv 2) pa_nil)) pe_int) pa_nil))) (pa_cons (pv 3) pa_nil))))))
      (pss_one (ps_ret (pv 2)))), ?_⟩
    refine ⟨(by show 0 ≤ sizeLine; decide), fun q0 n0 => ?_⟩
    have s0 := same_upd (o := .lst []) n0
    have hqb : q0 ≠ b := fun z => by
      obtain ⟨xs, e⟩ := abag_ne B0
      rw [z, e] at n0
      cases n0
    have hqk : q0 ≠ k := fun z => by rw [z, abag_k B0] at n0; cases n0
    have hqp : p ≠ q0 ∨ True := .inr trivial
    refine ⟨_, rfl, p, rfl, ⟨_, s0.seq hs⟩, for_it (walk_list (K := K) (a := p) (xs := xs)) (fun i σ H' => ∃ ys v3, σ = [some (.ref b), some (.ref p), some (.ref q0), v3] ∧ But b H H' ∧ ABag H' b k ns ∧ H' q0 = some (.lst ys) ∧ ys.Perm (xs.take i)) ⟨[], none, rfl, But.of s0, B0.same s0, upd_same, by simp⟩ (fun i σ H' _ ⟨_, _, _, kb, _, _, _⟩ => but_seq kb hs hpb) ?_ ?_⟩
    · rintro i x σ H1 H2 hi ⟨ys, v3, rfl, kb, B1, hq, hp⟩ ⟨rfl, hx⟩
      have hyl : ys.length ≤ 256 := by
        rw [hp.length_eq, List.length_take]
        omega
      refine ⟨_, rfl, .inl ⟨rfl, _, SqL.of hq⟩, _, rfl, _, rfl, q0, ys, rfl, .inl (SqL.of hq), _, _, rfl, rfl, b, k, ns, _, rfl, B1, by omega, by omega, fun H3 d kb3 B3 d0 d1 => ?_⟩
      have hq3 := kb3 _ _ hq hqb
      refine ⟨_, rfl, q0, ys, d, x, rfl, rfl, hq3, Nat.lt_of_le_of_lt hyl (by rw [sizeLine_eq]; decide), d0, by omega, ?_⟩
      refine ⟨_, _, rfl, fun r o e hr => ?_, abag_upd B3 hqb hqk, upd_same, ?_⟩
      · have hrq : r ≠ q0 := ne_of_none e n0
        rw [upd_ne hrq]
        exact kb3 _ _ (kb _ _ e hr) hr
      · have e2 : xs.take (i + 1) = xs.take i ++ [x] := by
          rw [List.take_add_one, hx]
          rfl
        rw [e2]
        refine List.Perm.trans ?_ (hp.append_right [x])
        rw [List.append_assoc]
        refine List.Perm.trans List.perm_middle ?_
        show (x :: (ys.take d.toNat ++ ys.drop d.toNat)).Perm (ys ++ [x])
        rw [List.take_append_drop]
        exact (List.perm_append_singleton x ys).symm
    · rintro σ H' ⟨ys, v3, rfl, kb, B1, hq, hp⟩
      rw [List.take_length] at hp
      exact ⟨_, rfl, q _ q0 ys kb B1 n0 hq hp⟩
end
end HG

namespace HG
open PySem PySem.Spec PyProof.Rows L2
open C8 (pss_cut tCut)
/-! ### lists of lists of small numbers, written out -/
theorem pa_imp {X : Cx} {es : List Expr} {t t' : TA} (p : PA X es t) (f : ∀ σ H Q, t' σ H Q → t σ H Q) : PA X es t' := ⟨fun pos pins s σ H Q I h => p.run pos pins s σ H Q I (f _ _ _ h)⟩
def intsOf : List Expr → Option (List Int)
  | [] => some []
  | .Constant (.int i) _ _ :: r => (intsOf r).map (i :: ·)
  | _ :: _ => none
def litsOf : List Expr → Option (List (List Int))
  | [] => some []
  | .List es _ :: r => (intsOf es).bind fun is => (litsOf r).map (is :: ·)
  | _ :: _ => none
def tInts (is : List Int) : TA := fun _ H Q => Q (is.map V.int) H
def LstAt (H0 H : Hp) (is : List Int) (v : V) : Prop := ∃ a, v = .ref a ∧ H0 a = none ∧ H a = some (.lst (is.map V.int))
def tLits (iss : List (List Int)) : TA := fun _ H Q => ∀ H' vs, Same H H' → Paired (LstAt H H') iss vs → Q vs H'
theorem pa_ints {X : Cx} : ∀ {es : List Expr} {is : List Int}, intsOf es = some is → PA X es (tInts is)
  | [], is, h => by
    cases h
    exact pa_nil
  | e :: r, is, h => by
    unfold intsOf at h
    split at h
    · rename_i h0
      cases h0
    · rename_i i j p r' h0
      cases h0
      obtain ⟨is', h1, rfl⟩ := Option.map_eq_some_iff.mp h
      exact pa_imp (pa_cons pe_int (pa_ints h1)) fun σ H Q q => q
    · cases h
theorem pa_lits {X : Cx} : ∀ {es : List Expr} {iss : List (List Int)}, litsOf es = some iss → (∀ is ∈ iss, is.length ≤ sizeLine) → PA X es (tLits iss)
  | [], iss, h, _ => by
    cases h
    exact pa_imp pa_nil fun σ H Q q => q H [] (Same.refl H) .nil
  | e :: r, iss, h, hz => by
    unfold litsOf at h
    split at h
    · rename_i h0
      cases h0
    · rename_i es p r' h0
      cases h0
      obtain ⟨is, h1, h2⟩ := Option.bind_eq_some_iff.mp h
      obtain ⟨iss', h3, rfl⟩ := Option.map_eq_some_iff.mp h2
      refine pa_imp (pa_cons (pe_lst (pa_ints h1)) (pa_lits h3 fun is hi => hz is (List.mem_cons_of_mem _ hi))) fun σ H Q q => ?_
      refine ⟨by rw [List.length_map]; exact hz is List.mem_cons_self, fun p np H' vs s' hp => ?_⟩
      have sp := same_upd (o := .lst (is.map V.int)) np
      exact q H' (.ref p :: vs) (sp.trans s') (.cons ⟨p, rfl, np, s' _ _ upd_same⟩ (paired_imp hp fun _ _ ⟨a, e, n, h⟩ => ⟨a, e, sp.free n, h⟩))
    · cases h
/-! ### texts, written out -/
def strsOf : List Expr → Option (List Str)
  | [] => some []
  | .Constant (.str z) _ _ :: r => (strsOf r).map (z :: ·)
  | _ :: _ => none
def tStrs (zs : List Str) : TA := fun _ H Q => Q (zs.map V.str) H
theorem pa_strs {X : Cx} : ∀ {es : List Expr} {zs : List Str}, strsOf es = some zs → PA X es (tStrs zs)
  | [], zs, h => by
    cases h
    exact pa_nil
  | e :: r, zs, h => by
    unfold strsOf at h
    split at h
    · rename_i h0
      cases h0
    · rename_i i j p r' h0
      cases h0
      obtain ⟨is', h1, rfl⟩ := Option.map_eq_some_iff.mp h
      exact pa_imp (pa_cons pe_str (pa_strs h1)) fun σ H Q q => q
    · cases h
def menuN : List Str := ["a", "b", "ab", "ba", "m", "same", "x", "z", "zz", "zzzzzzzz"]
theorem menuN_ok : (menuN.all isNm && decide menuN.Nodup) = true := by decide +kernel
/-- names drawn -/
structure NamesOk (zs : List Str) (n : Nat) : Prop where
  len : zs.length = n
  nd : zs.Nodup
  nm : ∀ z ∈ zs, isNm z = true
  me : ∀ z ∈ zs, z ∈ menuN
def spNames : Sp := fun args H Q _ => ∃ (b k : Addr) (ns : List Int) (n : Nat), args = [.ref b, .int (n : Int)] ∧ ABag H b k ns ∧ n ≤ 10 ∧ ∀ H' q zs, But b H H' → ABag H' b k ns → H q = none → H' q = some (.lst (zs.map V.str)) → NamesOk zs n → Q (.ref q) H'
structure MxT (K : PySem.W.Frag) (mg : Str → Option Value) (fM : Addr) (dM : FuncData) : Prop where
  F : Fun K "_law_mixed" "_law_mixed" s_law_mixed fM dM
  b : Binds K dM ["_law_bag_here", "_law_things"] []
  g : mg "_law_mixed" = some (.ref fM)
theorem strs_of_perm {ys : List V} {zs : List Str} (h : ys.Perm (zs.map V.str)) : ∃ ws : List Str, ys = ws.map V.str ∧ ws.Perm zs := by
  have key : ∀ {xs ys : List V}, ys.Perm xs → ∀ zs : List Str, xs = zs.map V.str → ∃ ws : List Str, ys = ws.map V.str ∧ ws.Perm zs := by
    intro xs ys h
    induction h with
    | nil => exact fun zs e => ⟨[], rfl, by cases zs with | nil => exact .nil | cons a r => cases e⟩
    | cons x p ih =>
      intro zs e
      cases zs with
      | nil => cases e
      | cons a r =>
        rw [List.map_cons, List.cons.injEq] at e
        obtain ⟨ws, e1, p1⟩ := ih r e.2
        exact ⟨a :: ws, by rw [e1, e.1]; rfl, p1.cons a⟩
    | swap x y l =>
      intro zs e
      match zs, e with
      | a :: c :: r, e =>
        rw [List.map_cons, List.map_cons, List.cons.injEq, List.cons.injEq] at e
        exact ⟨c :: a :: r, by rw [e.1, e.2.1, e.2.2]; rfl, List.Perm.swap a c r⟩
    | trans p1 p2 ih1 ih2 =>
      intro zs e
      obtain ⟨ws, e1, q1⟩ := ih2 zs e
      obtain ⟨us, e2, q2⟩ := ih1 ws e1
      exact ⟨us, e2, q2.trans q1⟩
  exact key h zs rfl
section
variable {P : Program} {w : World} {K : PySem.W.Frag} {mg : Str → Option Value} {base : Heap}
variable {fT fO fM : Addr} {dT dO dM : FuncData}
theorem ok_names {f : Addr} {fd : FuncData} (B : BT K mg fT fO dT dO) (M : MxT K mg fM dM) (F : Fun K "_law_names" "_law_names" s_law_names f fd) : FnOk P w K mg base CX0 3 f fd ["_law_bag_here", "_law_size"] spNames := by
  have S : FnScope ["_law_bag_here", "_law_size", "_law_menu"] ["_law_bag_here", "_law_size"] (defScope s_law_names) := ⟨rfl, rfl, rfl, by decide +kernel, rfl, by decide +kernel, by decide +kernel⟩
  have nd := S.nd
  refine F.ok S (fun vs H Q E h => ?_) (fun cdv A outer s H vs Q E hr h => ?_)
  · obtain ⟨b, k, ns, n, rfl, _⟩ := h
    rfl
  · obtain ⟨b, k, ns, n, rfl, B0, hn, q⟩ := h
    refine ⟨_, pss_cons (ps_set (i := 2) nd rfl (Or.inl rfl) (pe_lst (pa_strs (zs := menuN) (by decide +kernel))))
      (pss_one (ps_ret (pe_slice sl_list (pe_call (ok_mixed B M.F) hr (by rfl) M.g M.F.kp M.b .nil pass0 (pa_cons (pv 0) (pa_cons (pv 2) pa_nil))) po_none (po_some (pv 1))))), ?_⟩
    refine ⟨(by show 10 ≤ sizeLine; decide), fun q0 n0 => ?_⟩
    have s0 := same_upd (o := .lst (menuN.map V.str)) n0
    have hqb : q0 ≠ b := fun z => by
      obtain ⟨xs, e⟩ := abag_ne B0
      rw [z, e] at n0
      cases n0
    refine ⟨_, rfl, _, rfl, b, k, q0, ns, _, rfl, B0.same s0, SqL.of upd_same, hqb, (by show 10 ≤ 256; decide), fun H1 p1 ys kb B1 np h1 hp => ?_⟩
    obtain ⟨ws, rfl, hw⟩ := strs_of_perm hp
    refine ⟨_, rfl, n, rfl, p1, _, rfl, SqL.of h1, fun p2 n2 => ?_⟩
    have s2 := same_upd (o := .lst (cutV (ws.map V.str) none (some (n : Int)))) n2
    have ok := menuN_ok
    rw [Bool.and_eq_true, List.all_eq_true, decide_eq_true_iff] at ok
    refine q _ p2 (ws.take n) ((But.of s0).trans (kb.trans (But.of s2))) (B1.same s2) ?_ (by rw [upd_same, cut_to, List.map_take]) ⟨?_, ?_, ?_, ?_⟩
    · have k1 : But b H H1 := (But.of s0).trans kb
      cases e : H p2 with
      | none => rfl
      | some o =>
        by_cases hb : p2 = b
        · subst hb
          obtain ⟨xs, e1⟩ := abag_ne B1
          rw [e1] at n2
          cases n2
        · rw [k1 _ _ e hb] at n2
          cases n2
    · rw [List.length_take, hw.length_eq]
      exact Nat.min_eq_left hn
    · exact (hw.nodup_iff.mpr ok.2).sublist (List.take_sublist _ _)
    · exact fun z hz => ok.1 z (hw.mem_iff.mp (List.mem_of_mem_take hz))
    · exact fun z hz => hw.mem_iff.mp (List.mem_of_mem_take hz)
end
end HG

namespace HG
open PySem PySem.Spec PyProof.Rows L2
open C8 (pss_cut tCut)
theorem but_free {b k : Addr} {ns : List Int} {H H' : Hp} {p : Addr} (kb : But b H H') (B : ABag H' b k ns) (n : H' p = none) : H p = none := by
  cases e : H p with
  | none => rfl
  | some o =>
    by_cases hb : p = b
    · subst hb
      obtain ⟨xs, e1⟩ := abag_ne B
      rw [e1] at n
      cases n
    · rw [kb _ _ e hb] at n
      cases n
theorem abag_not {b k : Addr} {ns : List Int} {H : Hp} {p : Addr} (B : ABag H b k ns) (n : H p = none) : p ≠ b := fun z => by
  obtain ⟨xs, e⟩ := abag_ne B
  rw [z, e] at n
  cases n
def prodI (is : List Int) : Int := is.foldl (fun m i => m * i) 1
theorem prodI_more {is : List Int} {i : Nat} {x : Int} (h : is[i]? = some x) : prodI (is.take (i + 1)) = prodI (is.take i) * x := by
  unfold prodI
  rw [List.take_add_one, h, List.foldl_append]
  rfl
def spProd (K : PySem.W.Frag) : Sp := fun args H Q _ => ∃ (p : Addr) (is : List Int), args = [.ref p] ∧ SqL K H p (is.map V.int) ∧ (∀ i ∈ is, 1 ≤ i ∧ i ≤ 4) ∧ Q (.int (prodI is)) H
def menuS1 : List (List Int) := [[2, 2], [1], [3], [2, 3], [3, 2], [2, 2, 2], [3, 3], [1, 2], [4, 4], [2, 1, 3], [2, 2, 2, 2], [4]]
def menuS2 : List (List Int) := [[3, 3, 3], [2, 3, 2, 2], [4, 4, 4], [3, 3, 3, 3], [1, 1, 1, 1], [4, 2, 3, 3]]
def menuS : List (List Int) := menuS1 ++ menuS2
structure SzOk (is : List Int) (most : Int) : Prop where
  me : is ∈ menuS
  pr : prodI is ≤ most
theorem menuS_ok : (menuS.all fun is => decide (1 ≤ is.length) && decide (is.length ≤ 4) && is.all fun i => decide (1 ≤ i) && decide (i ≤ 4)) = true := by decide +kernel
theorem menuS_at {is : List Int} (h : is ∈ menuS) : 1 ≤ is.length ∧ is.length ≤ 4 ∧ ∀ i ∈ is, 1 ≤ i ∧ i ≤ 4 := by
  have := List.all_eq_true.mp menuS_ok is h
  rw [Bool.and_eq_true, Bool.and_eq_true, decide_eq_true_iff, decide_eq_true_iff, List.all_eq_true] at this
  refine ⟨this.1.1, this.1.2, fun i hi => ?_⟩
  have := this.2 i hi
  rw [Bool.and_eq_true, decide_eq_true_iff, decide_eq_true_iff] at this
  exact this
def spSizes (K : PySem.W.Frag) : Sp := fun args H Q _ => ∃ (b k : Addr) (ns : List Int) (most : Int), args = [.ref b, .int most] ∧ ABag H b k ns ∧ 4 ≤ most ∧
  ∀ H' p is, But b H H' → ABag H' b k ns → H p = none → H' p = some (.lst (is.map V.int)) → SzOk is most → Q (.ref p) H'
section
variable {P : Program} {w : World} {K : PySem.W.Frag} {mg : Str → Option Value} {base : Heap}
variable {fT fO fM fP : Addr} {dT dO dM dP : FuncData}
theorem ok_product {f : Addr} {fd : FuncData} (F : Fun K "_law_product" "_law_product" s_law_product f fd) : FnOk P w K mg base CX0 1 f fd ["_law_numbers"] (spProd K) := by
  have S : FnScope ["_law_numbers", "_law_found", "_law_number_here"] ["_law_numbers"] (defScope s_law_product) := ⟨rfl, rfl, rfl, by decide +kernel, rfl, by decide +kernel, by decide +kernel⟩
  have nd := S.nd
  refine F.ok S (fun vs H Q E h => ?_) (fun cdv A outer s H vs Q E hr h => ?_)
  · obtain ⟨p, is, rfl, _⟩ := h
    rfl
  · obtain ⟨p, is, rfl, hs, hi4, q⟩ := h
    refine ⟨_, pss_cons (ps_set (i := 1) nd rfl (Or.inl rfl) pe_int)
      (pss_cons (ps_for PassesOwn.never rfl (pi_list (pv 0)) (pg_name (i := 2) nd rfl (Or.inl rfl))
        (pss_one (ps_set (i := 1) nd rfl (Or.inl rfl) (pe_op op_mul (pv 1) (pv 2)))))
      (pss_one (ps_ret (pv 1)))), ?_⟩
    refine ⟨_, rfl, p, rfl, ⟨_, hs⟩, for_it (walk_list (K := K) (a := p) (xs := is.map V.int)) (fun i σ H' => ∃ v2, σ = [some (.ref p), some (.int (prodI (is.take i))), v2] ∧ H' = H) ⟨none, rfl, rfl⟩ (fun i σ H' _ ⟨_, _, e⟩ => e ▸ hs) ?_ ?_⟩
    · rintro i x σ H1 H2 hi ⟨v2, rfl, rfl⟩ ⟨rfl, hx⟩
      rw [List.getElem?_map] at hx
      obtain ⟨y, hy, rfl⟩ := Option.map_eq_some_iff.mp hx
      have h4 := hi4 y (List.mem_of_getElem? hy)
      refine ⟨_, rfl, _, rfl, _, _, rfl, rfl, .inr ⟨by omega, by omega⟩, ?_⟩
      exact ⟨_, by rw [prodI_more hy]; rfl, rfl⟩
    · rintro σ H' ⟨v2, rfl, rfl⟩
      rw [List.length_map, List.take_length]
      exact ⟨_, rfl, q⟩
theorem ok_sizes {f : Addr} {fd : FuncData} (B : BT K mg fT fO dT dO) (FP : Fun K "_law_product" "_law_product" s_law_product fP dP) (bP : Binds K dP ["_law_numbers"] []) (gP : mg "_law_product" = some (.ref fP)) (F : Fun K "_law_sizes" "_law_sizes" s_law_sizes f fd) : FnOk P w K mg base CX0 3 f fd ["_law_bag_here", "_law_most"] (spSizes K) := by
  have S : FnScope ["_law_bag_here", "_law_most", "_law_menu", "_law_fine", "_law_sizes_here"] ["_law_bag_here", "_law_most"] (defScope s_law_sizes) := ⟨rfl, rfl, rfl, by decide +kernel, rfl, by decide +kernel, by decide +kernel⟩
  have nd := S.nd
  refine F.ok S (fun vs H Q E h => ?_) (fun cdv A outer s H vs Q E hr h => ?_)
  · obtain ⟨b, k, ns, most, rfl, _⟩ := h
    rfl
  · obtain ⟨b, k, ns, most, rfl, B0, hm, q⟩ := h
    refine ⟨_, pss_cons (ps_set (i := 2) nd rfl (Or.inl rfl) (pe_lst (pa_lits (iss := menuS1) (by decide +kernel) (by intro is hi; exact Nat.le_trans (menuS_at (List.mem_append_left _ hi)).2.1 (by rw [sizeLine_eq]; decide)))))
      (pss_cons (ps_set (i := 2) nd rfl (Or.inl rfl) (pe_op op_cat (pv 2) (pe_lst (pa_lits (iss := menuS2) (by decide +kernel) (by intro is hi; exact Nat.le_trans (menuS_at (List.mem_append_right _ hi)).2.1 (by rw [sizeLine_eq]; decide))))))
      (pss_cons (ps_setLc (i := 3) (own := [("_law_sizes_here", 4)]) (g := gName 4) rfl nd rfl rfl (sw_true rfl rfl rfl (by decide +kernel)) (pi_list (pv 2)) (blkOk_by (N := ["_law_bag_here", "_law_most", "_law_menu", "_law_fine", "_law_sizes_here"]) (sc := defScope s_law_sizes) (by decide +kernel)) (fun _ _ _ _ _ => pg_name (i := 4) nd rfl (Or.inl rfl))
        (fun _ _ _ _ _ => pts_one (pt_cmpR op_le (pe_call (ok_product FP) (hr.mono (by decide)) (by rfl) gP FP.kp bP .nil pass0 (pa_cons (pv 4) pa_nil)) (pv 1) (nomark _))) (fun _ _ _ _ _ => pv 4))
      (pss_one (ps_ret (pe_call (ok_one B.O B.T B.bT B.gT B.ml B.mi) (hr.mono (by decide)) (by rfl) B.gO B.O.kp B.bO .nil pass0 (pa_cons (pv 0) (pa_cons (pv 3) pa_nil))))))), ?_⟩
    refine fun H1 vs1 s1 p1 => ⟨?_, fun q1 n1 => ?_⟩
    · rw [← Paired.length p1]
      show 12 ≤ sizeLine
      decide
    have t1 := same_upd (o := .lst vs1) n1
    refine ⟨_, rfl, fun H2 vs2 s2 p2 => ⟨?_, fun q2 n2 => ?_⟩⟩
    · rw [← Paired.length p2]
      show 6 ≤ sizeLine
      decide
    have t2 := same_upd (o := .lst vs2) n2
    refine ⟨q1, q2, vs1, vs2, rfl, rfl, t2 _ _ (s2 _ _ upd_same), upd_same, ?_, fun q3 n3 => ?_⟩
    · rw [← Paired.length p1, ← Paired.length p2]
      show 18 ≤ sizeLine
      decide
    have t3 := same_upd (o := .lst (vs1 ++ vs2)) n3
    have s12 : Same H H2 := s1.trans (t1.trans s2)
    have s13 : Same H (upd (upd H2 q2 (.lst vs2)) q3 (.lst (vs1 ++ vs2))) := s12.trans (t2.trans t3)
    have p12 : Paired (LstAt H (upd (upd H2 q2 (.lst vs2)) q3 (.lst (vs1 ++ vs2)))) menuS (vs1 ++ vs2) :=
      paired_append (paired_imp p1 fun _ _ ⟨a, e, n, h⟩ => ⟨a, e, n, t3 _ _ (t2 _ _ (s2 _ _ (t1 _ _ h)))⟩) (paired_imp p2 fun _ _ ⟨a, e, n, h⟩ => ⟨a, e, (s1.trans t1).free n, t3 _ _ (t2 _ _ h)⟩)
    have h3 : (upd (upd H2 q2 (.lst vs2)) q3 (.lst (vs1 ++ vs2))) q3 = some (.lst (vs1 ++ vs2)) := upd_same
    generalize upd (upd H2 q2 (.lst vs2)) q3 (.lst (vs1 ++ vs2)) = H3 at s13 p12 h3
    have B3 := B0.same s13
    have hvl : menuS.length = (vs1 ++ vs2).length := Paired.length p12
    refine ⟨_, rfl, q3, rfl, ⟨_, SqL.of h3⟩, fun D nD => ?_⟩
    have sD := same_upd (o := .lst []) nD
    refine lc_it (walk_list (K := K) (a := q3) (xs := vs1 ++ vs2)) (fun i H' => ∃ fs, H' D = some (.lst fs) ∧ Paired (LstAt H H3) ((menuS.take i).filter fun is => decide (prodI is ≤ most)) fs ∧ Same H3 H') ⟨[], upd_same, .nil, sD⟩ (fun i H' _ ⟨_, _, _, sm⟩ => SqL.of (sm _ _ h3)) ?_ ?_
    · rintro i x H4 H5 hi ⟨fs, hD, hfs, sm⟩ ⟨rfl, hx⟩
      obtain ⟨is, his, a, rfl, na, ha⟩ := paired_get p12 hx
      have hmem := List.mem_of_getElem? his
      have ha5 := sm _ _ ha
      refine ⟨rfl, _, rfl, a, is, rfl, SqL.of ha5, (menuS_at hmem).2.2, _, rfl, _, _, rfl, rfl, _, rfl, ?_⟩
      cases e : decide (prodI is ≤ most) with
      | false =>
        refine iteF ⟨fs, hD, ?_, sm⟩
        rw [List.take_add_one, his, List.filter_append, show List.filter (fun is => decide (prodI is ≤ most)) (some is).toList = [] by show List.filter _ [is] = []; rw [List.filter_cons, e]; rfl, List.append_nil]
        exact hfs
      | true =>
        have hfl : fs.length ≤ 18 := by
          rw [← Paired.length hfs]
          exact Nat.le_trans (List.length_filter_le _ _) (by rw [List.length_take]; exact Nat.le_trans (Nat.min_le_right _ _) (by decide))
        refine iteT ⟨_, rfl, fs, hD, small1000 (by omega), _, upd_same, ?_, fun r o e => ?_⟩
        · rw [List.take_add_one, his, List.filter_append, show List.filter (fun is => decide (prodI is ≤ most)) (some is).toList = [is] by show List.filter _ [is] = [is]; rw [List.filter_cons, e]; rfl]
          exact paired_append hfs (.cons ⟨a, rfl, na, ha⟩ .nil)
        · rw [upd_ne (ne_of_none e nD)]
          exact sm _ _ e
    · rintro H' ⟨fs, hD, hfs, sm⟩
      rw [← hvl, List.take_length] at hfs
      have nDH : H D = none := s13.free nD
      refine ⟨_, rfl, _, rfl, b, k, D, ns, fs, rfl, B3.same sm, SqL.of hD, abag_not B3 nD, ?_, ?_, fun H6 x kb B6 hx => ?_⟩
      · intro z
        subst z
        have h0 := Paired.length hfs
        have hm2 : [2, 2] ∈ menuS.filter fun is => decide (prodI is ≤ most) := List.mem_filter.mpr ⟨by decide, decide_eq_true (by show (4 : Int) ≤ most; exact hm)⟩
        rw [List.length_nil] at h0
        rw [List.length_eq_zero_iff.mp h0] at hm2
        cases hm2
      · have h0 := Paired.length hfs
        have := List.length_filter_le (fun is => decide (prodI is ≤ most)) menuS
        have : menuS.length = 18 := rfl
        omega
      · obtain ⟨j, hj⟩ := List.mem_iff_getElem?.mp hx
        obtain ⟨is, his, a, rfl, na, ha⟩ := paired_get hfs hj
        have hmf := List.mem_filter.mp (List.mem_of_getElem? his)
        have hab : a ≠ b := abag_not B0 na
        refine q H6 a is ((But.of (s13.trans sm)).trans kb) B6 na (kb _ _ (sm _ _ ha) hab) ⟨hmf.1, of_decide_eq_true hmf.2⟩
end
end HG

namespace HG
open PySem PySem.Spec PyProof.Rows L2
open C8 (pss_cut tCut)
theorem for_enum {K : PySem.W.Frag} {a : Addr} {xs : List V} {g : TG} {tb : TS} {D : Ends} {σ : L2.St} {H : Hp} (Pv : Nat → L2.St → Hp → Prop) (h0 : Pv 0 σ H) (hq : ∀ i σ H, Pv i σ H → SqL K H a xs)
    (hs : ∀ (i : Nat) (x : V) (T : Addr) (σ : L2.St) (H : Hp), xs[i]? = some x → Pv i σ H → H T = none → g (.ref T) σ (upd H T (.tup [.int (i : Nat), x])) fun σ2 H2 => tb { D with nx := Pv (i + 1), ct := Pv (i + 1), bk := D.nx } σ2 H2) (hd : ∀ σ H, Pv xs.length σ H → D.nx σ H) :
    ∃ W : Nat → Nat → L2.St → Hp → Prop, (∃ m, W 0 m σ H) ∧ ∀ i m σ H, W i m σ H →
      ((Ite K a).stop i H ∧ D.nx σ H) ∨ ((Ite K a).go i H ∧ ∃ N : L2.St → Hp → Prop, (∀ σ' H', N σ' H' → ∃ m', m' < m ∧ W (i + 1) m' σ' H') ∧ ∀ v H', (Ite K a).yld i H v H' → g v σ H' fun σ2 H2 => tb { D with nx := N, ct := N, bk := D.nx } σ2 H2) := by
  refine ⟨fun i m σ H => m = xs.length - i ∧ i ≤ xs.length ∧ Pv i σ H, ⟨xs.length, rfl, Nat.zero_le _, h0⟩, ?_⟩
  rintro i m σ H ⟨rfl, hi, p⟩
  have qx := hq i σ H p
  by_cases hlt : i < xs.length
  · refine .inr ⟨⟨xs, xs[i], qx, List.getElem?_eq_getElem hlt⟩, Pv (i + 1), fun σ' H' p' => ⟨xs.length - (i + 1), by omega, rfl, hlt, p'⟩, fun v H' y => ?_⟩
    obtain ⟨T, x', rfl, hT, rfl, f1⟩ := y
    exact hs i x' T σ H (f1 xs qx) p hT
  · have e : i = xs.length := by omega
    subst e
    exact .inl ⟨⟨xs, qx, Nat.le_refl _⟩, hd σ H p⟩
def spLShape (K : PySem.W.Frag) : Sp := fun args H Q _ => ∃ (b k : Addr) (ns : List Int) (most : Int), args = [.ref b, .int most] ∧ ABag H b k ns ∧ 4 ≤ most ∧ most ≤ 81 ∧
  ∀ H' d W, But b H H' → ABag H' b k ns → H d = none → ShL (fun a => H a = none) H' d W → WOk W → wprod W ≤ most → Q (.ref d) H'
theorem wprod_prodI (W : List Way) : wprod W = prodI (W.map fun q => (q.2.length : Int)) := by
  unfold wprod prodI
  rw [List.foldl_map]
theorem not_take {α : Type} {zs : List α} (nd : zs.Nodup) {i : Nat} {z : α} (h : zs[i]? = some z) : z ∉ zs.take i := by
  intro hm
  obtain ⟨j, hj, ej⟩ := List.getElem_of_mem hm
  rw [List.length_take] at hj
  rw [List.getElem_take] at ej
  obtain ⟨hi, ei⟩ := List.getElem?_eq_some_iff.mp h
  have := (List.getElem_inj nd).mp (ej.trans ei.symm)
  omega
structure NmT (K : PySem.W.Frag) (mg : Str → Option Value) (fN fS fP : Addr) (dN dS dP : FuncData) : Prop where
  N : Fun K "_law_names" "_law_names" s_law_names fN dN
  bN : Binds K dN ["_law_bag_here", "_law_size"] []
  gN : mg "_law_names" = some (.ref fN)
  S : Fun K "_law_sizes" "_law_sizes" s_law_sizes fS dS
  bS : Binds K dS ["_law_bag_here", "_law_most"] []
  gS : mg "_law_sizes" = some (.ref fS)
  P : Fun K "_law_product" "_law_product" s_law_product fP dP
  bP : Binds K dP ["_law_numbers"] []
  gP : mg "_law_product" = some (.ref fP)
section
variable {P : Program} {w : World} {K : PySem.W.Frag} {mg : Str → Option Value} {base : Heap}
variable {fT fO fM fN fS fP : Addr} {dT dO dM dN dS dP : FuncData}
theorem ok_lshape {f : Addr} {fd : FuncData} (B : BT K mg fT fO dT dO) (M : MxT K mg fM dM) (N : NmT K mg fN fS fP dN dS dP) (me : mg "enumerate" = none) (F : Fun K "_law_shape" "_law_shape" s_law_shape f fd) : FnOk P w K mg base CX0 4 f fd ["_law_bag_here", "_law_most"] (spLShape K) := by
  have S : FnScope ["_law_bag_here", "_law_most", "_law_sizes_here", "_law_choosers", "_law_found", "_law_k", "_law_chooser"] ["_law_bag_here", "_law_most"] (defScope s_law_shape) := ⟨rfl, rfl, rfl, by decide +kernel, rfl, by decide +kernel, by decide +kernel⟩
  have nd := S.nd
  refine F.ok S (fun vs H Q E h => ?_) (fun cdv A outer s H vs Q E hr h => ?_)
  · obtain ⟨b, k, ns, most, rfl, _⟩ := h
    rfl
  · obtain ⟨b, k, ns, most, rfl, B0, hm, hm81, q⟩ := h
    have hu := hu_of hr
    refine ⟨_, pss_cons (ps_set (i := 2) nd rfl (Or.inl rfl) (pe_call (ok_sizes B N.P N.bP N.gP N.S) hr (by rfl) N.gS N.S.kp N.bS .nil pass0 (pa_cons (pv 0) (pa_cons (pv 1) pa_nil))))
      (pss_cons (ps_par (i := 3) (j := 4) (by rfl) nd rfl rfl (by decide) rfl rfl (pa_cons (pe_call (ok_names B M N.N) hr (by rfl) N.gN N.N.kp N.bN .nil pass0 (pa_cons (pv 0) (pa_cons (pe_callB call_len_seq (by rfl) B.ml PySem.boot_len (pa_cons (pv 2) pa_nil)) pa_nil))) (pa_cons pe_dnewK pa_nil)) (by rfl))
      (pss_cons (ps_for PassesOwn.never rfl (pi_enum (by rfl) me (pa_cons (pv 3) pa_nil)) (pg_tup rfl (pgs_cons (pg_name (i := 5) nd rfl (Or.inl rfl)) (pgs_cons (pg_name (i := 6) nd rfl (Or.inl rfl)) pgs_nil)))
        (pss_one (ps_dput hu (pv 4) (pv 6) (pe_call (ok_names B M N.N) hr (by rfl) N.gN N.N.kp N.bN .nil pass0 (pa_cons (pv 0) (pa_cons (pe_ix ix_list (pv 2) (pv 5) (fun _ _ => rfl)) pa_nil))) rfl)))
      (pss_one (ps_ret (pv 4))))), ?_⟩
    refine ⟨_, rfl, _, rfl, b, k, ns, most, rfl, B0, hm, fun H1 ps is kb1 B1 nps hps hsz => ?_⟩
    obtain ⟨l1, l4, hi4⟩ := menuS_at hsz.me
    refine ⟨_, rfl, _, rfl, ps, _, rfl, .inl (SqL.of hps), b, k, ns, is.length, by rw [List.length_map]; rfl, B1, by omega, fun H2 pz zs kb2 B2 npz hpz hzs => ?_⟩
    refine fun d nd2 => ⟨_, _, rfl, ?_⟩
    have s3 := same_upd (o := .dK []) nd2
    have kb02 := kb1.trans kb2
    have hpsb : ps ≠ b := abag_not B0 nps
    have hpzb : pz ≠ b := abag_not B1 npz
    have nd0 : H d = none := but_free kb02 B2 nd2
    refine ⟨_, rfl, pz, _, rfl, SqL.of (s3 _ _ hpz), for_enum (K := K) (a := pz) (xs := zs.map V.str) (fun i σ H' => ∃ W kvs v5 v6, σ = [some (.ref b), some (.int most), some (.ref ps), some (.ref pz), some (.ref d), v5, v6] ∧ But b H H' ∧ ABag H' b k ns ∧ H' d = some (.dK kvs) ∧ Paired (KvL (fun a => H a = none) H') W kvs ∧
      W.map (·.1) = zs.take i ∧ (W.map fun q => (q.2.length : Int)) = is.take i ∧ (∀ q ∈ W, q.2.Nodup ∧ ∀ z ∈ q.2, isNm z = true) ∧ H' pz = some (.lst (zs.map V.str)) ∧ H' ps = some (.lst (is.map V.int)))
      ⟨[], [], none, none, rfl, kb02.trans (But.of s3), B2.same s3, upd_same, .nil, rfl, rfl, (fun _ h => nomatch h), s3 _ _ hpz, s3 _ _ (kb2 _ _ hps hpsb)⟩ (fun i σ H' ⟨_, _, _, _, _, _, _, _, _, _, _, _, hz, _⟩ => SqL.of hz) ?_ ?_⟩
    · rintro i y t σ H3 hi ⟨W, kvs, v5, v6, rfl, kb3, B3, hd, hW, e1, e2, hok, hz3, hs3⟩ nt
      rw [List.getElem?_map] at hi
      obtain ⟨z, hz, rfl⟩ := Option.map_eq_some_iff.mp hi
      have st := same_upd (o := .tup [.int (i : Nat), .str z]) nt
      have hil : i < is.length := by
        have := (List.getElem?_eq_some_iff.mp hz).1
        rw [hzs.len] at this
        exact this
      have hisi : is[i]? = some is[i] := List.getElem?_eq_getElem hil
      obtain ⟨m1, m4⟩ := hi4 is[i] (List.getElem_mem hil)
      refine ⟨t, _, rfl, SqT.of upd_same, rfl, _, _, rfl, _, _, rfl, rfl, ?_⟩
      refine ⟨_, rfl, _, rfl, _, rfl, ps, _, _, .int is[i], rfl, rfl, SqL.of (st _ _ hs3), atI_nat (by rw [List.getElem?_map, hisi]; rfl), b, k, ns, is[i].toNat, by rw [Int.toNat_of_nonneg (by omega)]; rfl, B3.same st, by omega, fun H4 pw ws kb4 B4 npw hpw hws => ?_⟩
      have kb34 : But b H3 H4 := (But.of st).trans kb4
      have hdb : d ≠ b := abag_not B0 nd0
      have hd4 := kb34 _ _ hd hdb
      have hlk : kvs.length = W.length := (Paired.length hW).symm
      have hWl : W.length ≤ 4 := by
        have := congrArg List.length e1
        rw [List.length_map, List.length_take, hzs.len] at this
        omega
      refine ⟨_, rfl, _, rfl, d, _, rfl, DPut.k (k := Sum.inr z) hd4 (small1000 (by omega)), ?_⟩
      have hnew : (Sum.inr z : Key) ∉ kvs.map (·.1) := by
        rw [keysL hW, e1]
        intro hmem
        obtain ⟨u, hu', eu⟩ := List.mem_map.mp hmem
        cases eu
        exact not_take hzs.nd hz hu'
      have npw0 : H pw = none := but_free (kb3.trans (But.of st)) (B3.same st) npw
      have up : ∀ (q : Way) (kv : Key × V), KvL (fun a => H a = none) H4 q kv → KvL (fun a => H a = none) (upd H4 d (.dK (putK kvs (Sum.inr z) (.ref pw)))) q kv := fun q kv ⟨e, c, ev, n, h⟩ => ⟨e, c, ev, n, by
        rw [upd_ne (ne_of h hd4 (by intro z; cases z))]
        exact h⟩
      refine ⟨W ++ [(z, ws)], kvs ++ [(Sum.inr z, .ref pw)], _, _, rfl, fun r o e hr => ?_, ?_, ?_, ?_, ?_, ?_, ?_, ?_, ?_⟩
      · rw [upd_ne (ne_of_none e nd0)]
        exact kb34 _ _ (kb3 _ _ e hr) hr
      · refine abag_upd B4 hdb fun z => ?_
        rw [z, abag_k B4] at hd4
        cases hd4
      · rw [upd_same, putK_new hnew]
      · rw [← putK_new hnew (v := .ref pw)]
        rw [putK_new hnew] at up ⊢
        refine paired_append (paired_imp hW fun q kv ⟨e, c, ev, n, h⟩ => up q kv ⟨e, c, ev, n, kb34 _ _ h (abag_not B0 n)⟩) (.cons (up _ _ ⟨rfl, pw, rfl, npw0, hpw⟩) .nil)
      · rw [List.map_append, e1, List.take_add_one, hz]
        rfl
      · rw [List.map_append, e2, List.take_add_one, hisi]
        show is.take i ++ [(ws.length : Int)] = _
        rw [hws.len, Int.toNat_of_nonneg (by omega)]
        rfl
      · intro q hq
        rcases List.mem_append.mp hq with hq | hq
        · exact hok q hq
        · rw [List.mem_singleton.mp hq]
          exact ⟨hws.nd, hws.nm⟩
      · rw [upd_ne (ne_of hz3 hd (by intro z; cases z))]
        exact kb34 _ _ hz3 hpzb
      · rw [upd_ne (ne_of hs3 hd (by intro z; cases z))]
        exact kb34 _ _ hs3 hpsb
    · rintro σ H' ⟨W, kvs, v5, v6, rfl, kb, B', hd, hW, e1, e2, hok, hz3, hs3⟩
      rw [List.length_map, List.take_length] at e1
      rw [List.length_map, hzs.len, List.take_length] at e2
      have hWl : W.length = is.length := by
        rw [← e2, List.length_map]
      have hsz4 : ∀ q ∈ W, 1 ≤ q.2.length ∧ q.2.length ≤ 4 := fun q hq => by
        have hm : (q.2.length : Int) ∈ is := by
          rw [← e2]
          exact List.mem_map.mpr ⟨q, hq, rfl⟩
        have := hi4 _ hm
        omega
      have hpr : wprod W ≤ most := by
        rw [wprod_prodI, e2]
        exact hsz.pr
      refine ⟨_, rfl, q H' d W kb B' nd0 ⟨kvs, hd, hW⟩ ⟨by rw [e1]; exact hzs.nd, by omega, by omega, fun x hx => ?_, fun x hx => (hok x hx).1, fun x hx => (hsz4 x hx).1, fun x hx => (hsz4 x hx).2, fun x hx => (hok x hx).2, by omega⟩ hpr⟩
      refine hzs.nm _ ?_
      rw [← e1]
      exact List.mem_map.mpr ⟨x, hx, rfl⟩
end
end HG

namespace HG
open PySem PySem.Spec PyProof.Rows L2
open C8 (pss_cut tCut)
def spWider (K : PySem.W.Frag) : Sp := fun args H Q _ => ∃ (p r : Addr) (sts : List (List Str)) (vs : List V) (ws : List Str), args = [.ref p, .ref r] ∧ H p = some (.lst vs) ∧ TupsAt H sts vs ∧ H r = some (.lst (ws.map V.str)) ∧ sts.length * ws.length ≤ 256 ∧ sts.length ≤ 256 ∧ ws.length ≤ 4 ∧ (∀ st ∈ sts, st.length ≤ 4) ∧
  ∀ H' q us, Same H H' → H q = none → H' q = some (.lst us) → TupsAt H' (mul1 sts ws) us → Q (.ref q) H'
theorem mul1_take {sts : List (List Str)} {ws : List Str} {i : Nat} (hi : i ≤ sts.length) : (mul1 (sts.take i) ws).length = i * ws.length := by
  rw [mul1_len, List.length_take, Nat.min_eq_left hi]
section
variable {P : Program} {w : World} {K : PySem.W.Frag} {mg : Str → Option Value} {base : Heap}
theorem ok_wider {f : Addr} {fd : FuncData} (F : Fun K "_law_wider" "_law_wider" s_law_wider f fd) : FnOk P w K mg base CX0 1 f fd ["_law_some", "_law_ways"] (spWider K) := by
  have S : FnScope ["_law_some", "_law_ways", "_law_found", "_law_one_here", "_law_way"] ["_law_some", "_law_ways"] (defScope s_law_wider) := ⟨rfl, rfl, rfl, by decide +kernel, rfl, by decide +kernel, by decide +kernel⟩
  have nd := S.nd
  refine F.ok S (fun vs H Q E h => ?_) (fun cdv A outer s H vs Q E hr h => ?_)
  · obtain ⟨p, r, sts, vs, ws, rfl, _⟩ := h
    rfl
  · obtain ⟨p, r, sts, vs, ws, rfl, hp, ht, hr0, hsz, hs1, hw4, hst4, q⟩ := h
    refine ⟨_, pss_cons (ps_set (i := 2) nd rfl (Or.inl rfl) (pe_lst pa_nil))
      (pss_cons (ps_for PassesOwn.never rfl (pi_list (pv 0)) (pg_name (i := 3) nd rfl (Or.inr rfl))
        (pss_one (ps_expr (pe_bm PySem.F.plainAttrs_list PySem.F.slot_list_extend PySem.F.type_list_extend mt_extend (pv 2) (pa_cons
          (pe_lc (own := [("_law_way", 4)]) (g := gName 4) (tt := tYes) rfl nd (pi_list (pv 1)) (blkOk_by (N := ["_law_some", "_law_ways", "_law_found", "_law_one_here", "_law_way"]) (sc := defScope s_law_wider) (by decide +kernel)) (fun _ _ _ _ _ => pg_name (i := 4) nd rfl (Or.inl rfl)) (fun _ _ _ _ _ => pts_nil)
            (fun _ _ _ _ _ => pe_op op_catB (pv 3) (pe_tup (pa_cons (pv 4) pa_nil)))) pa_nil)))))
      (pss_one (ps_ret (pv 2)))), ?_⟩
    refine ⟨(by show 0 ≤ sizeLine; decide), fun q0 n0 => ?_⟩
    have s0 := same_upd (o := .lst []) n0
    have hl : sts.length = vs.length := Paired.length ht
    refine ⟨_, rfl, p, rfl, ⟨_, SqL.of (s0 _ _ hp)⟩, for_it (walk_list (K := K) (a := p) (xs := vs)) (fun i σ H' => ∃ us v3 v4, σ = [some (.ref p), some (.ref r), some (.ref q0), v3, v4] ∧ Same H H' ∧ H' q0 = some (.lst us) ∧ TupsAt H' (mul1 (sts.take i) ws) us) ⟨[], none, none, rfl, s0, upd_same, .nil⟩ (fun i σ H' _ ⟨_, _, _, _, sm, _⟩ => SqL.of (sm _ _ hp)) ?_ ?_⟩
    · rintro i x σ H1 H2 hi ⟨us, v3, v4, rfl, sm, hq, hus⟩ ⟨rfl, hx⟩
      obtain ⟨st, hst, c, rfl, hc⟩ := paired_get ht hx
      have hc2 := sm _ _ hc
      refine ⟨_, rfl, .inl ⟨rfl, _, SqL.of hq⟩, ?_⟩
      refine ⟨_, rfl, r, rfl, ⟨_, SqL.of (sm _ _ hr0)⟩, fun D nD => ?_⟩
      have sD := same_upd (o := .lst []) nD
      refine lc_it (walk_list (K := K) (a := r) (xs := ws.map V.str)) (fun j H' => ∃ zs, H' D = some (.lst zs) ∧ TupsAt H' ((ws.take j).map fun w => st ++ [w]) zs ∧ Same H2 H') ⟨[], upd_same, .nil, sD⟩ (fun j H' _ ⟨_, _, _, s'⟩ => SqL.of (s' _ _ (sm _ _ hr0))) ?_ ?_
      · rintro j x H3 H4 hj ⟨zs, hD, hzs, s3⟩ ⟨rfl, hx'⟩
        rw [List.length_map] at hj
        have ex : x = .str (ws[j]) := by
          rw [List.getElem?_map, List.getElem?_eq_getElem hj] at hx'
          exact (Option.some.inj hx').symm
        subst ex
        have hl4 := hst4 st (List.mem_of_getElem? hst)
        refine ⟨rfl, _, rfl, _, rfl, (by show 1 ≤ sizeLine; decide), fun p5 n5 => ?_⟩
        have s5 := same_upd (o := .tup [V.str (ws[j])]) n5
        refine ⟨c, p5, _, _, rfl, rfl, s5 _ _ (s3 _ _ hc2), upd_same, (by rw [List.length_map]; show st.length + 1 ≤ 1000; omega), fun H6 p6 s6 h6 => ?_⟩
        have hD6 := s6 _ _ (s5 _ _ hD)
        have ht6 := (hzs.same (s5.trans s6)).upd (o := .lst (zs ++ [.ref p6])) hD6
        refine ⟨zs, hD6, small1000 ?_, _, upd_same, ?_, fun b o e => ?_⟩
        · rw [← Paired.length hzs, List.length_map, List.length_take]
          omega
        · rw [List.take_add_one, List.getElem?_eq_getElem hj, List.map_append]
          refine paired_append ht6 (.cons ⟨p6, rfl, ?_⟩ .nil)
          rw [upd_ne (ne_of h6 hD6 (by intro z; cases z)), h6, List.map_append]
          rfl
        · rw [upd_ne (ne_of_none e nD)]
          exact s6 _ _ (s5 _ _ (s3 _ _ e))
      · rintro H3 ⟨zs, hD, hzs, s3⟩
        rw [List.length_map, List.take_length] at hzs
        have hq3 := s3 _ _ hq
        have e1 : us.length = i * ws.length := by rw [← Paired.length hus, mul1_take (by omega)]
        have e2 : zs.length = ws.length := by rw [← Paired.length hzs, List.length_map]
        have hb : us.length + zs.length ≤ 256 := by
          rw [e1, e2]
          calc i * ws.length + ws.length = (i + 1) * ws.length := (Nat.succ_mul _ _).symm
            _ ≤ sts.length * ws.length := Nat.mul_le_mul_right _ (by omega)
            _ ≤ 256 := hsz
        refine ⟨q0, D, us, zs, rfl, rfl, hq3, hD, Nat.le_trans hb (by rw [sizeLine_eq]; decide), ?_⟩
        refine ⟨_, _, _, rfl, fun b o e => ?_, upd_same, ?_⟩
        · rw [upd_ne (ne_of_none e n0)]
          exact s3 _ _ (sm _ _ e)
        · rw [mul1_more hst]
          exact paired_append ((hus.same s3).upd hq3) (hzs.upd hq3)
    · rintro σ H' ⟨us, v3, v4, rfl, sm, hq, hus⟩
      rw [← hl, List.take_length] at hus
      exact ⟨_, rfl, q H' q0 us sm n0 hq hus⟩
end
end HG

namespace HG
open PySem PySem.Spec PyProof.Rows L2
open C8 (pss_cut tCut)
def spLStds (K : PySem.W.Frag) : Sp := fun args H Q _ => ∃ (d : Addr) (W : List Way), args = [.ref d] ∧ ShAt H d W ∧ WOk W ∧ ∀ H' p vs, Same H H' → H p = none → H' p = some (.lst vs) → TupsAt H' (stds (sh W)) vs → Q (.ref p) H'
section
variable {P : Program} {w : World} {K : PySem.W.Frag} {mg : Str → Option Value} {base : Heap}
variable {fW : Addr} {dW : FuncData}
theorem ok_lstandings {f : Addr} {fd : FuncData} (ms : mg "sorted" = none) (FW : Fun K "_law_wider" "_law_wider" s_law_wider fW dW) (bW : Binds K dW ["_law_some", "_law_ways"] []) (gW : mg "_law_wider" = some (.ref fW)) (F : Fun K "_law_standings" "_law_standings" s_law_standings f fd) :
    FnOk P w K mg base CX0 2 f fd ["_law_ways"] (spLStds K) := by
  have S : FnScope ["_law_ways", "_law_found", "_law_chooser"] ["_law_ways"] (defScope s_law_standings) := ⟨rfl, rfl, rfl, by decide +kernel, rfl, by decide +kernel, by decide +kernel⟩
  have nd := S.nd
  refine F.ok S (fun vs H Q E h => ?_) (fun cdv A outer s H vs Q E hr h => ?_)
  · obtain ⟨d, W, rfl, _⟩ := h
    rfl
  · obtain ⟨d, W, rfl, hsh, ok, q⟩ := h
    have hu := hu_of hr
    obtain ⟨kvs, hd, hp⟩ := id hsh
    have sok := ok.sok
    refine ⟨_, pss_cons (ps_set (i := 1) nd rfl (Or.inl rfl) (pe_lst (pa_cons (pe_tup pa_nil) pa_nil)))
      (pss_cons (ps_for PassesOwn.never rfl (pi_list (pe_callB (call_srtD rfl) (by rfl) ms (by decide +kernel) (pa_cons (pv 0) pa_nil))) (pg_name (i := 2) nd rfl (Or.inl rfl))
        (pss_one (ps_set (i := 1) nd rfl (Or.inl rfl) (pe_call (ok_wider FW) hr (by rfl) gW FW.kp bW .nil pass0 (pa_cons (pv 1) (pa_cons (pe_callB (id := "sorted") (r := rSrt K) call_srt (by rfl) ms (by decide +kernel) (pa_cons (pe_dget hu (pv 0) (pv 2) (fun _ _ => rfl)) pa_nil)) pa_nil))))))
      (pss_one (ps_ret (pv 1)))), ?_⟩
    refine ⟨(by show 0 ≤ sizeLine; decide), fun p0 n0 => ?_⟩
    have s0 := same_upd (o := .tup []) n0
    refine ⟨(by show 1 ≤ sizeLine; decide), fun p1 n1 => ?_⟩
    have s1 := same_upd (o := .lst [V.ref p0]) n1
    have s01 := s0.trans s1
    refine ⟨_, rfl, d, kvs, W.map (·.1), rfl, s01 _ _ hd, keysK hp, (by rw [List.length_map]; exact Nat.lt_of_le_of_lt ok.n4 (by decide)), fun p2 n2 => ?_⟩
    have s2 := same_upd (o := .lst ((srt (W.map (·.1))).map V.str)) n2
    have s02 := s01.trans s2
    have hl2 : (upd (upd (upd H p0 (.tup [])) p1 (.lst [V.ref p0])) p2 (.lst ((srt (W.map (·.1))).map V.str))) p2 = some (.lst ((srt (W.map (·.1))).map V.str)) := upd_same
    have hl1 : (upd (upd (upd H p0 (.tup [])) p1 (.lst [V.ref p0])) p2 (.lst ((srt (W.map (·.1))).map V.str))) p1 = some (.lst [V.ref p0]) := s2 _ _ upd_same
    have hl0 : (upd (upd (upd H p0 (.tup [])) p1 (.lst [V.ref p0])) p2 (.lst ((srt (W.map (·.1))).map V.str))) p0 = some (.tup []) := s2 _ _ (s1 _ _ upd_same)
    generalize upd (upd (upd H p0 (.tup [])) p1 (.lst [V.ref p0])) p2 (.lst ((srt (W.map (·.1))).map V.str)) = H2 at s02 hl2 hl1 hl0
    refine ⟨p2, rfl, ⟨_, SqL.of hl2⟩, for_it (walk_list (K := K) (a := p2) (xs := (srt (W.map (·.1))).map V.str)) (fun i σ H' => ∃ p vs v2, σ = [some (.ref d), some (.ref p), v2] ∧ Same H2 H' ∧ H p = none ∧ H' p = some (.lst vs) ∧ TupsAt H' (stds ((sh W).take i)) vs) ⟨p1, [.ref p0], none, rfl, Same.refl _, s0.free n1, hl1, .cons ⟨p0, rfl, hl0⟩ .nil⟩ (fun i σ H' _ ⟨_, _, _, _, sm, _⟩ => SqL.of (sm _ _ hl2)) ?_ ?_⟩
    · rintro i x σ H3 H4 hi ⟨p, vs, v2, rfl, sm, np, hpv, hvs⟩ ⟨rfl, hx⟩
      rw [List.length_map] at hi
      have ex : x = .str (srt (W.map (·.1)))[i] := by
        rw [List.getElem?_map, List.getElem?_eq_getElem hi] at hx
        exact (Option.some.inj hx).symm
      subst ex
      obtain ⟨qw, hqw, ek⟩ := List.mem_map.mp (srt_mem.mp (List.getElem_mem hi))
      have e0 : (sh W)[i]? = some (qw.1, srt qw.2) := by
        unfold sh
        rw [List.getElem?_map, List.getElem?_eq_getElem hi, ← ek]
        show some (qw.1, srt (lookW W qw.1)) = _
        rw [lookW_of ok.nd hqw]
      have s03 := s02.trans sm
      have hp4 := paired_imp hp fun a b (q : KvW H a b) => (⟨q.1, q.2.same s03⟩ : KvW H4 a b)
      obtain ⟨v, hv, hw1⟩ := valV_of hp4 ok.nd hqw
      obtain ⟨a, rfl, ha⟩ := hw1.sq (K := K)
      have hg : DGet H4 d (.str (srt (W.map (·.1)))[i]) (some (.ref a)) := by
        rw [← ek, ← hv]
        exact DGet.k (k := Sum.inr qw.1) (s03 _ _ hd)
      refine ⟨_, rfl, _, rfl, _, rfl, d, _, rfl, hg, a, qw.2, rfl, ha, Nat.lt_of_le_of_lt (ok.w4 qw hqw) (by decide), fun a2 n2 => ?_⟩
      have s4 := same_upd (o := .lst ((srt qw.2).map V.str)) n2
      have hi' : i < (sh W).length := (List.getElem?_eq_some_iff.mp e0).1
      have hb1 : (stds ((sh W).take (i + 1))).length ≤ 256 := sok.take (i + 1)
      rw [stds_more e0, mul1_len] at hb1
      refine ⟨p, a2, stds ((sh W).take i), vs, srt qw.2, rfl, s4 _ _ hpv, hvs.same s4, upd_same, hb1, sok.take i, by rw [srt_len]; exact ok.w4 qw hqw, fun st hst => ?_, fun H5 p5 us s5 n5 h5 hus => ?_⟩
      · rw [stds_mem hst, List.length_take]
        have := sok.n4
        omega
      · exact ⟨p5, us, _, rfl, sm.trans (s4.trans s5), (s03.trans s4).free n5, h5, by rw [stds_more e0]; exact hus⟩
    · rintro σ H' ⟨p, vs, v2, rfl, sm, np, hpv, hvs⟩
      rw [List.length_map, show (srt (W.map (·.1))).length = (sh W).length from (List.length_map ..).symm, List.take_length] at hvs
      exact ⟨_, rfl, q H' p vs (s02.trans sm) np hpv hvs⟩
end
end HG

namespace HG
open PySem PySem.Spec PyProof.Rows L2
open C8 (pss_cut tCut)
def NumOk (z : Int) : Prop := -(10 ^ 60) ≤ z ∧ z ≤ 10 ^ 60
def spNumber : Sp := fun args H Q _ => ∃ (b k : Addr) (ns : List Int) (y : Int), args = [.ref b, .int y] ∧ ABag H b k ns ∧ ∀ H' z, But b H H' → ABag H' b k ns → NumOk z → Q (.int z) H'
section
variable {P : Program} {w : World} {K : PySem.W.Frag} {mg : Str → Option Value} {base : Heap}
variable {fT fO : Addr} {dT dO : FuncData}
theorem ok_number {f : Addr} {fd : FuncData} (B : BT K mg fT fO dT dO) (F : Fun K "_law_number" "_law_number" s_law_number f fd) : FnOk P w K mg base CX0 2 f fd ["_law_bag_here", "_law_style"] spNumber := by
  have S : FnScope ["_law_bag_here", "_law_style"] ["_law_bag_here", "_law_style"] (defScope s_law_number) := ⟨rfl, rfl, rfl, by decide +kernel, rfl, by decide +kernel, by decide +kernel⟩
  refine F.ok S (fun vs H Q E h => ?_) (fun cdv A outer s H vs Q E hr h => ?_)
  · obtain ⟨b, k, ns, y, rfl, _⟩ := h
    rfl
  · obtain ⟨b, k, ns, y, rfl, B0, q⟩ := h
    have T := ok_take (P := P) (w := w) (base := base) B.T B.ml B.mi
    refine ⟨_, pss_cons (ps_if (pt_cmpR op_eq (pv 1) pe_int (nomark _)) (pss_one (ps_ret (pe_op op_sub (pe_call T (hr.mono (by decide)) (by rfl) B.gT B.T.kp B.bT .nil pass0 (pa_cons (pv 0) (pa_cons pe_int pa_nil))) pe_int))) pss_nil)
      (pss_cons (ps_if (pt_cmpR op_eq (pv 1) pe_int (nomark _)) (pss_one (ps_ret (pe_op op_sub (pe_call T (hr.mono (by decide)) (by rfl) B.gT B.T.kp B.bT .nil pass0 (pa_cons (pv 0) (pa_cons pe_int pa_nil))) pe_int))) pss_nil)
      (pss_cons (ps_if (pt_cmpR op_eq (pv 1) pe_int (nomark _)) (pss_one (ps_ret (pe_op op_add (pe_op op_mul (pe_op op_sub (pe_call T (hr.mono (by decide)) (by rfl) B.gT B.T.kp B.bT .nil pass0 (pa_cons (pv 0) (pa_cons pe_int pa_nil))) pe_int) (pe_op op_pow pe_int pe_int))
          (pe_call T (hr.mono (by decide)) (by rfl) B.gT B.T.kp B.bT .nil pass0 (pa_cons (pv 0) (pa_cons pe_int pa_nil)))))) pss_nil)
      (pss_one (ps_ret (pe_ix ix_list (pe_lst (pa_cons pe_int (pa_cons pe_int (pa_cons (pe_un un_neg pe_int) (pa_cons (pe_op op_pow pe_int pe_int) (pa_cons (pe_un un_neg (pe_op op_pow pe_int pe_int)) pa_nil))))))
        (pe_call T (hr.mono (by decide)) (by rfl) B.gT B.T.kp B.bT .nil pass0 (pa_cons (pv 0) (pa_cons pe_int pa_nil))) (fun _ _ => rfl)))))), ?_⟩
    refine ⟨_, rfl, rfl, _, rfl, ite2 (fun _ => ?_) (fun _ => ?_)⟩
    · exact ⟨_, rfl, b, k, ns, _, rfl, B0, by decide, by decide, fun H1 d kb B1 d0 d1 => ⟨_, _, rfl, rfl, q _ _ kb B1 ⟨by omega, by omega⟩⟩⟩
    refine ⟨_, rfl, rfl, _, rfl, ite2 (fun _ => ?_) (fun _ => ?_)⟩
    · exact ⟨_, rfl, b, k, ns, _, rfl, B0, by decide, by decide, fun H1 d kb B1 d0 d1 => ⟨_, _, rfl, rfl, q _ _ kb B1 ⟨by omega, by omega⟩⟩⟩
    refine ⟨_, rfl, rfl, _, rfl, ite2 (fun _ => ?_) (fun _ => ?_)⟩
    · refine ⟨_, rfl, b, k, ns, _, rfl, B0, by decide, by decide, fun H1 d kb B1 d0 d1 => ⟨_, _, rfl, rfl, _, _, rfl, rfl, ⟨by decide, by decide, by decide⟩, _, _, rfl, rfl, .inl ⟨by omega, by omega⟩, ?_⟩⟩
      have e20 : (10 : Int) ^ (20 : Int).toNat = 100000000000000000000 := by decide
      refine ⟨_, rfl, b, k, ns, _, rfl, B1, by decide, by decide, fun H2 d2 kb2 B2 e0 e1 => ⟨_, _, rfl, rfl, q _ _ (kb.trans kb2) B2 ?_⟩⟩
      rw [e20]
      exact ⟨by omega, by omega⟩
    · refine ⟨_, rfl, _, _, rfl, rfl, ⟨by decide, by decide, by decide⟩, _, _, rfl, rfl, ⟨by decide, by decide, by decide⟩, _, rfl, (by show 5 ≤ sizeLine; decide), fun p np => ?_⟩
      generalize hxs : [V.int 0, V.int 1, V.int (-1), V.int (10 ^ (60 : Int).toNat), V.int (-10 ^ (60 : Int).toNat)] = xs
      have hxl : xs.length = 5 := by rw [← hxs]; rfl
      have hxi : ∀ x ∈ xs, ∃ z, x = V.int z ∧ NumOk z := by
        subst hxs
        intro x hx
        simp only [List.mem_cons, List.not_mem_nil, or_false] at hx
        rcases hx with rfl | rfl | rfl | rfl | rfl <;> exact ⟨_, rfl, by unfold NumOk; decide⟩
      have sp := same_upd (o := .lst xs) np
      refine ⟨_, rfl, b, k, ns, _, rfl, B0.same sp, by decide, by decide, fun H1 d kb B1 d0 d1 => ?_⟩
      have hpb : p ≠ b := abag_not B0 np
      have hj : d.toNat < xs.length := by omega
      obtain ⟨z, hz, hzo⟩ := hxi xs[d.toNat] (List.getElem_mem hj)
      exact ⟨p, xs, d, .int z, rfl, rfl, SqL.of (kb _ _ upd_same hpb), at_of (j := d.toNat) (by omega) (by rw [List.getElem?_eq_getElem hj, hz]), q _ _ ((But.of sp).trans kb) B1 hzo⟩
end
end HG

namespace HG
open PySem PySem.Spec PyProof.Rows L2
/-! ### a dict whose keys are (number, tuple of texts), its values numbers -/
abbrev Line := Int × List Str
def lineK (k : Line) : NestedKey := .tup [.num k.1, .tup (k.2.map NestedKey.text)]
theorem lineK_inj {a b : Line} (h : lineK a = lineK b) : a = b := by
  obtain ⟨i, s⟩ := a
  obtain ⟨j, t⟩ := b
  simp only [lineK, NestedKey.tup.injEq, List.cons.injEq, NestedKey.num.injEq, and_true] at h
  have h2 : s = t := List.map_inj_right (fun _ _ h => NestedKey.text.inj h) |>.mp h.2
  rw [h.1, h2]
def LineAt (H : Hp) (b : Addr) (k : Line) : Prop := ∃ c, H b = some (.tup [.int k.1, .ref c]) ∧ H c = some (.tup (k.2.map V.str))
theorem LineAt.same {H H' : Hp} {b : Addr} {k : Line} (h : LineAt H b k) (s : ∀ c xs, H c = some (.tup xs) → H' c = some (.tup xs)) : LineAt H' b k := let ⟨c, h1, h2⟩ := h; ⟨c, s _ _ h1, s _ _ h2⟩
theorem texts_all {h : Heap} : ∀ {zs : List Str} {its : List Value}, Vals (zs.map V.str) its → NestedAll h (zs.map NestedKey.text) its
  | [], _, .nil => .nil
  | z :: r, _, .cons q t => by
    obtain ⟨t0, rfl⟩ := q
    exact .cons (.text z t0) (texts_all t)
theorem depth_texts : ∀ zs : List Str, NestedKey.depthAll (zs.map NestedKey.text) = 0
  | [] => rfl
  | _ :: r => by
    rw [List.map_cons, NestedKey.depthAll, depth_texts r]
    rfl
theorem line_is {P : Program} {w : World} {H : Hp} {h : Heap} {b : Addr} {k : Line} (ok : HOk P w H h) (l : LineAt H b k) : (nestedKind P w).is h (lineK k) b := by
  obtain ⟨c, hb, hc⟩ := l
  obtain ⟨_, its, r, o, h1, h2, n, h3⟩ := (show ObjOk P w H h b (.tup [.int k.1, .ref c]) from ok b _ hb)
  obtain ⟨_, its2, r2, o2, k1, k2, n2, k3⟩ := (show ObjOk P w H h c (.tup (k.2.map V.str)) from ok c _ hc)
  cases r with
  | cons q1 t1 =>
    cases t1 with
    | cons q2 t2 =>
      cases t2
      obtain ⟨t0, rfl⟩ := q1
      cases q2
      refine ⟨.tup h1 h2 h3 (.cons (.int _ _) (.cons (.tup k1 k2 k3 (texts_all r2)) .nil)), ?_⟩
      show (lineK k).depth ≤ 8
      unfold lineK
      rw [NestedKey.depth, NestedKey.depthAll, NestedKey.depth, NestedKey.depthAll, NestedKey.depth, depth_texts, NestedKey.depthAll]
      decide
/-- the dict's own cell, entry by entry -/
def rawD (d : Addr) (es : Array DictEntry) (ep : Nat) : HO := .ext fun h => (d == sysModules) = false ∧ ∃ o, h.get? d = some o ∧ o.ExactDict ∧ o.data = .dict es ep
theorem rawD_ok {P : Program} {w : World} {H : Hp} {h : Heap} {d : Addr} {es : Array DictEntry} {ep : Nat} (hs : (d == sysModules) = false) {o : Obj} (e : h.get? d = some o) (x : o.ExactDict) (q : o.data = .dict es ep) : ObjOk P w H h d (rawD d es ep) :=
  ⟨⟨hs, o, e, x, q⟩, ⟨_, e⟩, fun h1 h2 ⟨hs, o, e, x, q⟩ k => ⟨hs, o, k _ e, x, q⟩⟩
def EntN (H : Hp) (k : Line) (x : NestedKey × Addr × Value) : Prop := x.1 = lineK k ∧ LineAt H x.2.1 k ∧ ∃ z t, x.2.2 = Value.int z t ∧ NumOk z
def ND (P : Program) (w : World) (H : Hp) (d : Addr) (ks : List Line) : Prop := ∃ es ep xs, H d = some (rawD d es ep) ∧ es.toList = xs.map (entryOfKey (nestedKind P w)) ∧ (xs.map (·.1)).Nodup ∧ Paired (EntN H) ks xs
theorem ND.same {P : Program} {w : World} {H H' : Hp} {d : Addr} {ks : List Line} (h : ND P w H d ks) (s : Same H H') : ND P w H' d ks := by
  obtain ⟨es, ep, xs, e, he, hn, hp⟩ := h
  exact ⟨es, ep, xs, s _ _ e, he, hn, paired_imp hp fun _ _ ⟨a, b, c⟩ => ⟨a, b.same fun _ _ q => s _ _ q, c⟩⟩
theorem ND.but {P : Program} {w : World} {H H' : Hp} {d b : Addr} {ks : List Line} (h : ND P w H d ks) (kb : But b H H') (hd : d ≠ b) {xs0 : List V} (hb : H b = some (.lst xs0)) : ND P w H' d ks := by
  obtain ⟨es, ep, xs, e, he, hn, hp⟩ := h
  exact ⟨es, ep, xs, kb _ _ e hd, he, hn, paired_imp hp fun _ _ ⟨a, l, c⟩ => ⟨a, l.same fun _ _ q => kb _ _ q (fun z => by rw [z, hb] at q; cases q), c⟩⟩
theorem keysN {H : Hp} {ks : List Line} {xs : List (NestedKey × Addr × Value)} (h : Paired (EntN H) ks xs) : xs.map (·.1) = ks.map lineK := by
  induction h with
  | nil => rfl
  | cons r _ ih => rw [List.map_cons, List.map_cons, ih, r.1]
theorem atKey_some {xs : List (NestedKey × Addr × Value)} {k : NestedKey} : (atKey xs k).isSome = decide (k ∈ xs.map (·.1)) := by
  unfold atKey
  rw [Option.isSome_map]
  rw [Bool.eq_iff_iff, decide_eq_true_iff]
  constructor
  · intro h
    obtain ⟨x, hx⟩ := Option.isSome_iff_exists.mp h
    have h1 := List.find?_some hx
    exact List.mem_map.mpr ⟨x, List.mem_of_find?_eq_some hx, of_decide_eq_true h1⟩
  · intro h
    obtain ⟨x, hx, e⟩ := List.mem_map.mp h
    rw [List.find?_isSome]
    exact ⟨x, hx, decide_eq_true e⟩
theorem has_iff {H : Hp} {ks : List Line} {xs : List (NestedKey × Addr × Value)} (h : Paired (EntN H) ks xs) (k : Line) : (atKey xs (lineK k)).isSome = decide (k ∈ ks) := by
  rw [atKey_some, keysN h]
  rw [Bool.eq_iff_iff, decide_eq_true_iff, decide_eq_true_iff, List.mem_map]
  exact ⟨fun ⟨a, ha, e⟩ => lineK_inj e ▸ ha, fun h => ⟨k, h, rfl⟩⟩
section
variable {X : Cx} {pins : List (Addr × Obj)} {σ : L2.St} {H : Hp} {s : Shared} {d b : Addr} {ks : List Line} {k : Line}
theorem nd_of (I : Inv X pins σ H s) (h : ND X.prog X.w H d ks) : ∃ xs, (d == sysModules) = false ∧ s.heap.DictOfH (nestedKind X.prog X.w) d xs ∧ Paired (EntN H) ks xs := by
  obtain ⟨es, ep, xs, e, he, hn, hp⟩ := h
  obtain ⟨⟨hs, o, ho, hx, hd⟩, _⟩ := I.hok d _ e
  refine ⟨xs, hs, ⟨o, es, ep, ho, hx, hd, he, fun x hx => ?_, hn⟩, hp⟩
  obtain ⟨j, hj⟩ := List.mem_iff_getElem?.mp hx
  obtain ⟨k, _, e1, l, _⟩ := paired_get hp hj
  rw [e1]
  exact line_is I.hok l
def tDNewN : TE := fun _ H Q => ∀ p, H p = none → Q (.ref p) (upd H p (rawD p #[] 0))
theorem pe_dnewN {pos : Pos} : PE X (.Dict [] [] pos) tDNewN := ⟨fun pins s σ H Q I h =>
  wpAny_Dict_empty ⟨.ref s.heap.objs.size, _, I.laid (a := s.heap.objs.size) (o := rawD s.heap.objs.size #[] 0) (t' := s.toks) (fun _ _ q => Heap.get?_push_of_some _ q) (Nat.le_refl _) (rawD_ok (beq_eq_false_iff_ne.mpr (Ne.symm (Nat.ne_of_lt I.big))) (Heap.get?_push_size _ rfl) ⟨rfl, rfl, rfl⟩ rfl), rfl, h _ (I.hok.fresh (Nat.le_refl _))⟩⟩
theorem nd_new {P : Program} {w : World} {H : Hp} {p : Addr} : ND P w (upd H p (rawD p #[] 0)) p [] := ⟨#[], 0, [], upd_same, rfl, List.nodup_nil, .nil⟩
def rNotInN (P : Program) (w : World) : R2 := fun x y H Q => ∃ b d k ks, x = .ref b ∧ y = .ref d ∧ LineAt H b k ∧ ND P w H d ks ∧ Q (.bl (!decide (k ∈ ks))) H
theorem op_notInN (hu : X.A.units + 64 < cLine) : OpR X (compareOp .NotIn) (rNotInN X.prog X.w) := by
  intro pins s σ H x y v u Q I rx ry h
  obtain ⟨b, d, k, ks, rfl, rfl, l, n, q⟩ := h
  cases (show v = Value.ref b from rx)
  cases (show u = Value.ref d from ry)
  obtain ⟨xs, hs, hx, hp⟩ := nd_of I n
  refine notIn_keyed (knd := nestedKind X.prog X.w) (k := lineK k) (show X.A.units + 1 + 8 < cLine by omega) (line_is I.hok l) hs ⟨xs, hx, rfl⟩ ?_
  rw [valueAt_pairsH, Option.isSome_map, has_iff hp k]
  exact ⟨.bl _, H, I.tok _, rfl, q⟩
def tGetN (P : Program) (w : World) (td ty : TE) : TE := fun σ H Q => td σ H fun x H1 => ty σ H1 fun y H2 => ∃ b d k ks, x = .ref d ∧ y = .ref b ∧ LineAt H2 b k ∧ ND P w H2 d ks ∧ k ∈ ks ∧ ∀ z, NumOk z → Q (.int z) H2
theorem pe_getN {o i : Expr} {pos : Pos} {td ty : TE} (hu : X.A.units + 64 < cLine) (ho : PE X o td) (hi : PE X i ty) (hs : NoSl i) : PE X (.Subscript o i pos) (tGetN X.prog X.w td ty) := by
  refine ⟨fun pins s σ H Q I h => ?_⟩
  refine subD_of PySem.F.slot_dict_getitem.lookup hs (thn (ho.run pins s σ H _ I h) fun u s1 ⟨x, H1, I1, rx, q1⟩ => thn (hi.run pins s1 σ H1 _ I1 q1) fun iv s2 ⟨y, H2, I2, ry, b, d, k, ks, ex, ey, l, n, hk, q2⟩ => ?_)
  subst ex ey
  cases (show u = Value.ref d from rx)
  cases (show iv = Value.ref b from ry)
  obtain ⟨xs, hsm, hx, hp⟩ := nd_of I2 n
  have hsome : (atKey xs (lineK k)).isSome = true := by rw [has_iff hp k]; exact decide_eq_true hk
  obtain ⟨p, hpk⟩ := Option.isSome_iff_exists.mp hsome
  obtain ⟨x, hxf, ex⟩ := Option.map_eq_some_iff.mp hpk
  obtain ⟨j, hj⟩ := List.mem_iff_getElem?.mp (List.mem_of_find?_eq_some hxf)
  obtain ⟨k', _, _, _, z, t, ez, ok⟩ := paired_get hp hj
  refine ⟨hx.typeIs, wpAny_getItem_heap (knd := nestedKind X.prog X.w) (show X.A.units + 1 + 8 < cLine by omega) (line_is I2.hok l) hx hpk ?_⟩
  rw [← ex, ez]
  exact ⟨.int z, H2, I2.tok _, ⟨_, rfl⟩, q2 z ok⟩
def rSetN (P : Program) (w : World) : TSet := fun o i v H Q => ∃ b d k ks z, o = .ref d ∧ i = .ref b ∧ v = .int z ∧ LineAt H b k ∧ ND P w H d ks ∧ k ∉ ks ∧ ks.length < 5000 ∧ NumOk z ∧ ∀ H', (∀ c u, c ≠ d → H c = some u → H' c = some u) → (∀ c, c ≠ d → H c = none → H' c = none) → ND P w H' d (ks ++ [k]) → Q H'
theorem set_N (hu : X.A.units + 64 < cLine) : PSet X (rSetN X.prog X.w) := by
  intro pins s σ H o i v ov iv u Q I ro ri rv h
  obtain ⟨b, d, k, ks, z, rfl, rfl, rfl, l, n, hk, hz, hzo, q⟩ := h
  cases (show ov = Value.ref d from ro)
  cases (show iv = Value.ref b from ri)
  obtain ⟨t, rfl⟩ := (show ∃ t, u = Value.int z t from rv)
  obtain ⟨xs, hsm, hx, hp⟩ := nd_of I n
  obtain ⟨es0, ep0, xs0, e0, _⟩ := id n
  have hnone : atKey xs (lineK k) = none := by
    have := has_iff hp k
    rw [decide_eq_false hk] at this
    exact Option.not_isSome_iff_eq_none.mp (by rw [this]; exact Bool.false_ne_true)
  have hlen : xs.length = ks.length := (Paired.length hp).symm
  refine wpAny_setItem_heap (knd := nestedKind X.prog X.w) (hsz := by rw [hlen]; exact Nat.le_of_lt (Nat.lt_of_lt_of_le hz (by rw [sizeLine_eq]; decide))) (show X.A.units + 1 + 8 < cLine by omega) (line_is I.hok l) hx fun h' ⟨o, es, ep, ho, hxo, hd, he, his, hn⟩ hs => ?_
  have tup : ∀ c ys, H c = some (.tup ys) → upd H d (rawD d es ep) c = some (.tup ys) := fun c ys e => by
    rw [upd_ne (fun z => by rw [z, e0] at e; cases e)]
    exact e
  refine ⟨upd H d (rawD d es ep), d_write I (by rw [e0]; exact True.intro) hs ⟨o, ho⟩ (rawD_ok hsm ho hxo hd), q _ (fun c u hc e => by rw [upd_ne hc]; exact e) (fun c hc e => by rw [upd_ne hc]; exact e) ⟨es, ep, _, upd_same, he, hn, ?_⟩⟩
  rw [storedH_new hnone]
  exact paired_append (paired_imp hp fun _ _ ⟨a, b, c⟩ => ⟨a, b.same tup, c⟩) (.cons ⟨rfl, l.same tup, z, t, rfl, hzo⟩ .nil)
end
end HG

namespace HG
open PySem PySem.Spec PyProof.Rows L2
theorem paired_of {α β : Type} {F : α → β → Prop} : ∀ {l : List α} {m : List β}, l.length = m.length → (∀ (j : Nat) a b, l[j]? = some a → m[j]? = some b → F a b) → Paired F l m
  | [], [], _, _ => .nil
  | a :: l, b :: m, e, h => .cons (h 0 a b rfl rfl) (paired_of (by simpa using e) fun j x y hx hy => h (j + 1) x y (by simpa using hx) (by simpa using hy))
  | [], _ :: _, e, _ => nomatch e
  | _ :: _, [], e, _ => nomatch e
section
variable {X : Cx}
/-- list(d.items()), keys tuples -/
def rListItT : List V → Hp → VK → Prop := fun vs H Q => ∃ (p a : Addr) (kvs : List (List L2.Key × V)), vs = [.ref p] ∧ H p = some (L2.DX.itemsO p a) ∧ H a = some (.dT kvs) ∧ kvs.length ≤ 1000 ∧
  ∀ H' l ps, Same H H' → H l = none → H' l = some (.lst (ps.map V.ref)) → Paired (fun kv pr => ∃ b, H b = some (.tup (kv.1.map kV)) ∧ H' pr = some (.tup [.ref b, kv.2])) kvs ps → Q (.ref l) H'
theorem call_list_itemsT (hc : X.calm = true) : CallR X (.type "list") rListItT := by
  intro pins s σ H xs us Q I rv h
  obtain ⟨p, a, kvs, rfl, hp, ha, h1000, q⟩ := h
  obtain ⟨u, rfl, ru⟩ := rv.one
  cases ru
  refine callType_codes (Q₁ := fun obj s₁ => obj = .ref s.heap.objs.size ∧ s₁ = { s with heap := s.heap.push { cls := .type "list", data := .seq #[] } }) PySem.F.called_list (PySem.F.typeCall_list_1 _) PySem.F.entry_list_init
    (code_list_new _ ⟨rfl, rfl⟩) fun obj s₁ h₁ => ?_
  obtain ⟨rfl, rfl⟩ := h₁
  have hS : (s.heap.push { cls := .type "list", data := .seq #[] }).get? s.heap.objs.size = some { cls := .type "list", data := .seq #[] } := Heap.get?_push_size _ rfl
  refine ⟨⟨_, hS, rfl⟩, PySem.F.args_list_init_2 _ _, ?_⟩
  have fr : H s.heap.objs.size = none := I.hok.fresh (Nat.le_refl _)
  have I1 : Inv X pins σ (upd H s.heap.objs.size (.lst [])) { s with heap := s.heap.push { cls := .type "list", data := .seq #[] } } := I.lnew (its := []) (t' := s.toks) .nil (Nat.zero_le _)
  show wpAny _ _ (do let old ← Builtin.List.listItems (.ref s.heap.objs.size); Builtin.List.listUpdate (.ref s.heap.objs.size) (fun _ => #[]); letGo old.toList.reverse; Builtin.List.listExtendWith (.ref s.heap.objs.size) (.ref p) .none) _ _ _
  refine wpAny_bind ?_
  unfold Builtin.List.listItems
  refine wpAny_bind (wpAny_seqItems hS rfl (wpAny_pure ?_))
  show wpAny _ _ (updateSeq s.heap.objs.size (fun _ => #[]) >>= fun _ => letGo (#[] : Array Value).toList.reverse >>= fun _ => Builtin.List.listExtendWith (.ref s.heap.objs.size) (.ref p) .none) _ _ _
  refine wpAny_bind (wpAny_updateSeq hS rfl ?_)
  have I2 := I1.lset (f := fun _ => #[]) (its := []) (its' := []) (ys := []) (t' := s.toks) upd_same hS rfl .nil (Nat.zero_le _)
  rw [upd_upd] at I2
  refine wpAny_bind (wpAny_letGo ?_)
  generalize hSS : s.heap.objs.size = S at *
  generalize hsB : ({ s with heap := _ } : Shared) = sB at I2 ⊢
  have sS := same_upd (o := .lst []) fr
  have hp2 := sS _ _ hp
  have ha2 := sS _ _ ha
  have view : sB.heap.IsItemsView p a := (show ObjOk X.prog X.w _ sB.heap p (L2.DX.itemsO p a) from I2.hok p _ hp2).1
  obtain ⟨z, hd, xs', rel, o, es, ep, ho, hx, hdat, hes, his, hn⟩ := dt_of I2.hok ha2
  have l1 : kvs.length = xs'.length := Paired.length rel
  have l2 : es.size = xs'.length := size_of_entries hes
  obtain ⟨z3, its, c0, r3, hl3, e3⟩ := I2.lstM upd_same
  cases r3
  have hSp : S ≠ p := fun z => by subst z; rw [hp] at fr; cases fr
  have haS : a ≠ S := fun z => by subst z; rw [ha] at fr; cases fr
  refine DT.extI (A := X.A.in1) (prog := X.prog) (w := X.w) (es := es) (ep := ep) (R := wants (fun r s₂ => r = .none ∧ EP X pins σ Q (.ref S) s₂) X.xe) (I.ok.hd hc) view ⟨o, ho, hx, hdat⟩ S hSp haS .none c0 e3 (fun h' tk acc c as hk hS' hl hG hacc => ?_) (by rw [l2, ← l1]; exact Nat.le_of_lt (small1000 h1000))
  have lak : as.length = kvs.length := by omega
  have nd : as.Nodup := List.Pairwise.imp (fun h => Nat.ne_of_lt h) hG.rise
  have hSlt : S < sB.heap.objs.size := Heap.lt_size e3
  have I3 : Inv X pins σ (upd (upd H S (.lst [])) S (.lst (as.map V.ref))) { sB with heap := h', toks := tk } := by
    refine I2.write (x := S) (e := S) (by rw [upd_same]; exact True.intro) (.inl rfl) (fun b q hb z => hk b q hb z) ⟨_, hS'⟩ ?_
    refine ⟨by rw [List.length_map, lak]; exact Nat.le_of_lt (small1000 h1000), acc.toList, c, ?_, by simpa using hS'⟩
    rw [hacc]
    clear hacc hG hl nd lak
    induction as with
    | nil => exact .nil
    | cons x r ih => exact .cons rfl ih
  rw [upd_upd] at I3
  have hall : ∀ pr ∈ as, sB.heap.objs.size ≤ pr ∧ (upd H S (.lst (as.map V.ref))) pr = none ∧ ∃ vs, (∃ (j : Nat) (kv : List L2.Key × V) (b : Addr), as[j]? = some pr ∧ kvs[j]? = some kv ∧ H b = some (.tup (kv.1.map kV)) ∧ vs = [.ref b, kv.2]) ∧ ∀ H2, ObjOk X.prog X.w H2 h' pr (.tup vs) := fun pr hpr => by
    obtain ⟨j, hj⟩ := List.mem_iff_getElem?.mp hpr
    obtain ⟨en, he, hg⟩ := hG.pairs j pr hj
    rw [entry_at hes j] at he
    obtain ⟨x, hxj, ex⟩ := Option.map_eq_some_iff.mp he
    obtain ⟨kv, hkv, r1, r2, r4⟩ := paired_get rel hxj
    have hge : sB.heap.objs.size ≤ pr := Nat.le_of_lt (hG.above pr hpr)
    have hprS : pr ≠ S := Nat.ne_of_gt (Nat.lt_of_lt_of_le hSlt hge)
    have hb : H x.2.1 = some (.tup (kv.1.map kV)) := by
      have hbS : x.2.1 ≠ S := fun z => by rw [z, upd_same] at r2; cases r2
      rwa [upd_ne hbS] at r2
    refine ⟨hge, ?_, [.ref x.2.1, kv.2], ⟨j, kv, x.2.1, hj, hkv, hb, rfl⟩, fun H2 => ⟨by show 2 ≤ sizeLine; decide, [.ref x.2.1, x.2.2], .cons rfl (.cons r4 .nil), ?_⟩⟩
    · have := I2.hok.fresh hge
      rwa [upd_ne hprS] at this ⊢
    · rw [← ex] at hg
      exact ⟨_, hg, rfl, _, rfl⟩
  obtain ⟨H4, I4, g4, p4⟩ := L2.DX.takeT (P := fun pr vs => ∃ (j : Nat) (kv : List L2.Key × V) (b : Addr), as[j]? = some pr ∧ kvs[j]? = some kv ∧ H b = some (.tup (kv.1.map kV)) ∧ vs = [.ref b, kv.2]) I2 as _ I3 nd hall
  refine ⟨rfl, .ref S, H4, I4, rfl, q H4 S as (fun b o e => g4 _ _ (by rw [upd_ne (ne_of_none e fr)]; exact e)) fr (g4 _ _ upd_same) (paired_of lak.symm fun j kv pr hkv hpr => ?_)⟩
  obtain ⟨vs, ⟨j', kv', b, h1, h2, h3, rfl⟩, h4⟩ := p4 pr (List.mem_of_getElem? hpr)
  obtain ⟨g1, f1⟩ := List.getElem?_eq_some_iff.mp h1
  obtain ⟨g2, f2⟩ := List.getElem?_eq_some_iff.mp hpr
  have ej : j' = j := (List.getElem_inj nd).mp (f1.trans f2.symm)
  subst ej
  cases h2.symm.trans hkv
  exact ⟨b, h3, h4⟩
end
end HG

namespace HG
open PySem PySem.Spec PyProof.Rows L2
theorem storedAll_new {K : Type} [DecidableEq K] : ∀ (rs acc : List (K × Addr × Value)), ((acc ++ rs).map (·.1)).Nodup → PySem.storedAllH acc rs = acc ++ rs
  | [], acc, _ => by
    rw [List.append_nil]
    rfl
  | r :: rs, acc, h => by
    have hn : atKey acc r.1 = none := by
      cases e : atKey acc r.1 with
      | none => rfl
      | some p =>
        obtain ⟨x, hx, _⟩ := Option.map_eq_some_iff.mp e
        have h0 : decide (x.1 = r.1) = true := List.find?_some (p := fun x : K × Addr × Value => decide (x.1 = r.1)) hx
        have h1 := of_decide_eq_true h0
        have h2 := List.mem_of_find?_eq_some hx
        rw [List.map_append, List.nodup_append] at h
        exact absurd h1 (h.2.2 x.1 (List.mem_map.mpr ⟨x, h2, rfl⟩) r.1 (List.mem_map.mpr ⟨r, List.mem_cons_self, rfl⟩))
    have step : PySem.storedAllH acc (r :: rs) = PySem.storedAllH (storedH acc r.1 r.2.1 r.2.2) rs := rfl
    rw [step, storedH_new hn]
    have := storedAll_new rs (acc ++ [(r.1, r.2.1, r.2.2)]) (by rw [List.append_assoc]; exact h)
    rw [this, List.append_assoc]
    rfl
section
variable {X : Cx}
/-- a pair of a key and a value -/
def PrT (H : Hp) (kv : List L2.Key × V) (pr : Addr) : Prop := ∃ b, H b = some (.tup (kv.1.map kV)) ∧ H pr = some (.tup [.ref b, kv.2])
theorem pairs_T {pins : List (Addr × Obj)} {σ : L2.St} {H : Hp} {s : Shared} (I : Inv X pins σ H s) : ∀ {kvs : List (List L2.Key × V)} {ps : List Addr}, Paired (PrT H) kvs ps →
    ∃ rs : List (List L2.Key × Addr × Value), L2.KT H kvs rs ∧ rs.length = ps.length ∧ ∀ (j : Nat) r, rs[j]? = some r → ∃ pr, ps[j]? = some pr ∧ PySem.PairAt s.heap pr (.ref r.2.1) r.2.2
  | _, _, .nil => ⟨[], .nil, rfl, fun j r h => by simp at h⟩
  | kv :: kvs, pr :: ps, .cons ⟨b, hb, hp⟩ t => by
    obtain ⟨rs, h1, h2, h3⟩ := pairs_T I t
    obtain ⟨_, its, rv, o, ho, hc, n, hd⟩ := (show ObjOk X.prog X.w H s.heap pr (.tup [.ref b, kv.2]) from I.hok pr _ hp)
    cases rv with
    | cons q1 t1 =>
      cases t1 with
      | cons q2 t2 =>
        cases t2
        cases q1
        refine ⟨(kv.1, b, _) :: rs, .cons ⟨rfl, hb, q2⟩ h1, by rw [List.length_cons, List.length_cons, h2], fun j r hj => ?_⟩
        cases j with
        | zero =>
          cases hj
          exact ⟨pr, rfl, .inl ⟨o, ho, hc, n, hd⟩⟩
        | succ j => exact h3 j r (by simpa using hj)
def rDictT : List V → Hp → VK → Prop := fun vs H Q => ∃ (l : Addr) (ps : List Addr) (kvs : List (List L2.Key × V)), vs = [.ref l] ∧ H l = some (.lst (ps.map V.ref)) ∧ Paired (PrT H) kvs ps ∧ (kvs.map (·.1)).Nodup ∧ kvs.length ≤ 1000 ∧ ∀ p, H p = none → Q (.ref p) (upd H p (.dT kvs))
theorem call_dictT (hc : X.calm = true) (hu : X.A.units + 64 < cLine) : CallR X (.type "dict") rDictT := by
  intro pins s σ H xs us Q I r h
  obtain ⟨l, ps, kvs, rfl, hl, hp, hn, hz, q⟩ := h
  rw [Vals.ref1 r]
  obtain ⟨rs, hk, hlen, hpr⟩ := pairs_T I hp
  obtain ⟨z, its, n, rv, he, ho⟩ := I.lstM hl
  have ei := refs_at rv
  subst ei
  have hkl : kvs.length = rs.length := Paired.length hk
  have keys : rs.map (·.1) = kvs.map (·.1) := by
    clear hpr hlen hkl hn hz q hp
    induction hk with
    | nil => rfl
    | cons r _ ih => rw [List.map_cons, List.map_cons, ih, r.1]
  have e0 : PySem.storedAllH [] rs = rs := by
    have := storedAll_new rs [] (by rw [List.nil_append, keys]; exact hn)
    rwa [List.nil_append] at this
  have ha := PairArg.list (prog := X.prog) (w := X.w) l (ps.map Value.ref).toArray (fun j => ps.getD j 0) (rs.map fun r => (Value.ref r.2.1, r.2.2))
  refine call_dict_pairsH (knd := tupleKind (mixKind X.prog X.w)) (ps := rs) ha (I.ok.hd hc) (show X.A.units + 1 + 1 < cLine by omega) ⟨⟨_, n, ho, rfl, rfl, rfl⟩, ?_, fun j k v hj => ?_⟩ ⟨by rw [List.length_map], fun i key v hi => ?_⟩ (fun h' hk' x hx => ?_) (by rw [List.length_map, ← hkl]; exact Nat.le_of_lt (small1000 hz)) fun h' tk hd' k => ?_
  · rw [List.size_toArray, List.length_map, List.length_map, hlen]
  · rw [List.getElem?_map] at hj
    obtain ⟨r, hr, er⟩ := Option.map_eq_some_iff.mp hj
    obtain ⟨pr, h1, h2⟩ := hpr j r hr
    cases er
    have e1 : ps.getD j 0 = pr := by rw [List.getD_eq_getElem?_getD, h1]; rfl
    refine ⟨?_, ?_⟩
    · show (ps.map Value.ref).toArray[j]? = some (Value.ref (ps.getD j 0))
      rw [e1, List.getElem?_toArray, List.getElem?_map, h1]
      rfl
    · show PySem.PairAt s.heap (ps.getD j 0) _ _
      rw [e1]
      exact h2
  · unfold PairRel at hi
    rw [List.getElem?_map] at hi
    obtain ⟨r, hr, er⟩ := Option.map_eq_some_iff.mp hi
    cases er
    exact ⟨r.1, r.2.1, hr, rfl⟩
  · obtain ⟨j, hj⟩ := List.mem_iff_getElem?.mp hx
    obtain ⟨kv, hkv, r1, r2, r3⟩ := paired_get hk hj
    have hb := key_of (ks := kv.1) I.hok r2
    rw [← r1]
    exact (tupleKind_stays (knd := mixKind X.prog X.w)).all h' (fun b o _ e => hk' b o (Nat.ne_of_lt (Heap.lt_size e)) (by simp) e) _ _ hb
  · rw [e0] at hd'
    obtain ⟨o, es, ep, ho', hx', hdd, hee, _, hnn⟩ := hd'
    have hm : (s.heap.objs.size == sysModules) = false := beq_eq_false_iff_ne.mpr (Nat.ne_of_gt I.big)
    have hf : H s.heap.objs.size = none := I.hok.fresh (Nat.le_refl _)
    refine ⟨.ref s.heap.objs.size, upd H s.heap.objs.size (.dT kvs), I.laid (t' := tk) (fun b o e => k b o (by simp) e) (Nat.le_refl _) ?_, rfl, q _ hf⟩
    exact ⟨Nat.le_of_lt (small1000 hz), hm, rs, hk.keeps fun c ys ec => by rw [upd_ne (ne_of_none ec hf)]; exact ec, o, es, ep, ho', hx', hdd, hee, hnn⟩
end
end HG

namespace HG
open PySem PySem.Spec PyProof.Rows L2
/-! ### gains drawn: what stands between the steps -/
def GainLo (z : Int) : Prop := -(2 * 10 ^ 60) ≤ z ∧ z ≤ 2 * 10 ^ 60
def GainOk (z : Int) : Prop := -(3 * 10 ^ 60) ≤ z ∧ z ≤ 3 * 10 ^ 60
abbrev Row := List Str × List Int
def KvE (H : Hp) (e : Row) (kv : List L2.Key × V) : Prop := kv.1 = kS e.1 ∧ ∃ a, kv.2 = .ref a ∧ H a = some (.tup (e.2.map V.int))
structure RowsOk (M : Int → Prop) (es : List Row) (sts : List (List Str)) (n : Nat) : Prop where
  ks : es.map (·.1) = sts
  len : ∀ e ∈ es, e.2.length = n
  ok : ∀ e ∈ es, ∀ z ∈ e.2, M z
theorem KvE.tups {H H' : Hp} {e : Row} {kv : List L2.Key × V} (h : KvE H e kv) (s : ∀ c xs, H c = some (.tup xs) → H' c = some (.tup xs)) : KvE H' e kv := ⟨h.1, let ⟨a, e, q⟩ := h.2; ⟨a, e, s _ _ q⟩⟩
structure GSt (P : Program) (w : World) (H H' : Hp) (b k : Addr) (ns : List Int) (g ps X : Addr) (vs : List V) (sts : List (List Str)) (kvs : List (List L2.Key × V)) (es : List Row) (ks : List Line) : Prop where
  ng : H g = none
  np : H ps = none
  nx : H X = none
  hb : ∃ xs, H b = some (.lst xs)
  kb : But b H H'
  B : ABag H' b k ns
  hg : H' g = some (.dT kvs)
  he : Paired (KvE H') es kvs
  nX : ND P w H' X ks
  hp : H' ps = some (.lst vs)
  ht : TupsAt H' sts vs
section
variable {P : Program} {w : World} {H H' H'' : Hp} {b k : Addr} {ns : List Int} {g ps X : Addr} {vs : List V} {sts : List (List Str)} {kvs : List (List L2.Key × V)} {es : List Row} {ks : List Line}
theorem GSt.off (G : GSt P w H H' b k ns g ps X vs sts kvs es ks) {c : Addr} (n : H c = none) : c ≠ b := fun z => by
  obtain ⟨xs, e⟩ := G.hb
  rw [z, e] at n
  cases n
theorem TupsAt.tups {sts : List (List Str)} {vs : List V} (h : TupsAt H sts vs) (s : ∀ c xs, H c = some (.tup xs) → H' c = some (.tup xs)) : TupsAt H' sts vs := paired_imp h fun _ _ ⟨a, e, q⟩ => ⟨a, e, s _ _ q⟩
theorem GSt.but (G : GSt P w H H' b k ns g ps X vs sts kvs es ks) (kb : But b H' H'') (B : ABag H'' b k ns) : GSt P w H H'' b k ns g ps X vs sts kvs es ks := by
  obtain ⟨xs, hb⟩ := abag_ne G.B
  have t : ∀ c ys, H' c = some (.tup ys) → H'' c = some (.tup ys) := fun c ys e => kb _ _ e (fun z => by rw [z, hb] at e; cases e)
  exact ⟨G.ng, G.np, G.nx, G.hb, G.kb.trans kb, B, kb _ _ G.hg (G.off G.ng), paired_imp G.he fun _ _ h => h.tups t, G.nX.but kb (G.off G.nx) hb, kb _ _ G.hp (G.off G.np), G.ht.tups t⟩
theorem GSt.same (G : GSt P w H H' b k ns g ps X vs sts kvs es ks) (s : Same H' H'') : GSt P w H H'' b k ns g ps X vs sts kvs es ks := G.but (But.of s) (G.B.same s)
/-- a list that is none of these is changed -/
theorem GSt.list (G : GSt P w H H' b k ns g ps X vs sts kvs es ks) {T : Addr} {ys : List V} {o : HO} (hT : H' T = some (.lst ys)) (h1 : T ≠ b) (h2 : T ≠ k) (h3 : T ≠ ps) (h4 : H T = none) : GSt P w H (upd H' T o) b k ns g ps X vs sts kvs es ks := by
  have t : ∀ c zs, H' c = some (.tup zs) → (upd H' T o) c = some (.tup zs) := fun c zs e => by
    rw [upd_ne (ne_of e hT (by intro z; cases z))]
    exact e
  obtain ⟨esX, ep, xs, eX, _⟩ := id G.nX
  have hXT : X ≠ T := ne_of eX hT (by intro z; cases z)
  refine ⟨G.ng, G.np, G.nx, G.hb, fun q u e hq => ?_, abag_upd G.B h1 h2, ?_, paired_imp G.he fun _ _ h => h.tups t, ?_, ?_, G.ht.tups t⟩
  · rw [upd_ne (ne_of_none e h4)]
    exact G.kb _ _ e hq
  · rw [upd_ne (ne_of G.hg hT (by intro z; cases z))]
    exact G.hg
  · obtain ⟨esX, ep, xs, eX, he, hn, hp⟩ := G.nX
    exact ⟨esX, ep, xs, by rw [upd_ne hXT]; exact eX, he, hn, paired_imp hp fun _ _ ⟨a, l, c⟩ => ⟨a, l.same t, c⟩⟩
  · rw [upd_ne h3.symm]
    exact G.hp
/-- the nested dict is changed -/
theorem GSt.setX (G : GSt P w H H' b k ns g ps X vs sts kvs es ks) {ks' : List Line} (s : ∀ c u, c ≠ X → H' c = some u → H'' c = some u) (n : ND P w H'' X ks') : GSt P w H H'' b k ns g ps X vs sts kvs es ks' := by
  obtain ⟨esX, ep, xs, eX, _⟩ := id G.nX
  have t : ∀ c zs, H' c = some (.tup zs) → H'' c = some (.tup zs) := fun c zs e => s _ _ (ne_of e eX (by intro z; cases z)) e
  have hkX : k ≠ X := ne_of (abag_k G.B) eX (by intro z; cases z)
  have hbX : b ≠ X := fun z => G.off G.nx z.symm
  refine ⟨G.ng, G.np, G.nx, G.hb, fun q u e hq => s _ _ (ne_of_none e G.nx) (G.kb _ _ e hq), ?_, s _ _ (ne_of G.hg eX (by intro z; cases z)) G.hg, paired_imp G.he fun _ _ h => h.tups t, n, s _ _ (ne_of G.hp eX (by intro z; cases z)) G.hp, G.ht.tups t⟩
  obtain ⟨a, c, m, B⟩ := G.B
  exact ⟨a, c, m, s _ _ hbX B.at_, s _ _ hkX B.cells, B.n0, B.c0, B.c1⟩
/-- the dict of the gains is changed -/
theorem GSt.setG (G : GSt P w H H' b k ns g ps X vs sts kvs es ks) {kvs' : List (List L2.Key × V)} {es' : List Row} (he : Paired (KvE H') es' kvs') : GSt P w H (upd H' g (.dT kvs')) b k ns g ps X vs sts kvs' es' ks := by
  have t : ∀ c zs, H' c = some (.tup zs) → (upd H' g (.dT kvs')) c = some (.tup zs) := fun c zs e => by
    rw [upd_ne (ne_of e G.hg (by intro z; cases z))]
    exact e
  obtain ⟨esX, ep, xs, eX, hee, hn, hp⟩ := id G.nX
  refine ⟨G.ng, G.np, G.nx, G.hb, fun q u e hq => ?_, ?_, upd_same, paired_imp he fun _ _ h => h.tups t, ⟨esX, ep, xs, ?_, hee, hn, paired_imp hp fun _ _ ⟨a, l, c⟩ => ⟨a, l.same t, c⟩⟩, ?_, G.ht.tups t⟩
  · rw [upd_ne (ne_of_none e G.ng)]
    exact G.kb _ _ e hq
  · refine abag_upd G.B (G.off G.ng) fun z => ?_
    have := G.hg
    rw [z, abag_k G.B] at this
    cases this
  · rw [upd_ne (ne_of eX G.hg (by intro z; cases z))]
    exact eX
  · rw [upd_ne (ne_of G.hp G.hg (by intro z; cases z))]
    exact G.hp
end
theorem ShL.but {N : Addr → Prop} {H H' : Hp} {d b k : Addr} {ns : List Int} {W : List Way} (h : ShL N H d W) (B : ABag H b k ns) (w1 : ∀ q ∈ W, 1 ≤ q.2.length) (kb : But b H H') : ShL N H' d W := by
  obtain ⟨kvs, e, p⟩ := h
  obtain ⟨a, c, n, B⟩ := B
  have hd : d ≠ b := ne_of e B.at_ (by intro z; cases z)
  refine ⟨kvs, kb _ _ e hd, ?_⟩
  have key : ∀ {W : List Way} {kvs : List (Key × V)}, Paired (KvL N H) W kvs → (∀ q ∈ W, 1 ≤ q.2.length) → Paired (KvL N H') W kvs := by
    intro W kvs p
    induction p with
    | nil => exact fun _ => .nil
    | @cons q kv qs kvs r t ih =>
      intro hw
      obtain ⟨e1, x, ev, nx, hx⟩ := r
      refine .cons ⟨e1, x, ev, nx, kb _ _ hx (ne_of hx B.at_ fun z => ?_)⟩ (ih fun q hq => hw q (List.mem_cons_of_mem _ hq))
      have h1 := hw q List.mem_cons_self
      cases hq2 : q.2 with
      | nil =>
        rw [hq2] at h1
        exact absurd h1 (by decide)
      | cons y r =>
        rw [hq2] at z
        injection z with z
        injection z with z1 _
        cases z1
  exact key p w1
end HG

namespace HG
open PySem PySem.Spec PyProof.Rows L2
open C8 (pss_cut tCut)
/-! ### gains drawn -/
def spLGains : Sp := fun args H Q _ => ∃ (b k d : Addr) (ns : List Int) (W : List Way), args = [.ref b, .ref d] ∧ ABag H b k ns ∧ ShL (fun _ => True) H d W ∧ WOk W ∧
  ∀ H' g kvs es sts, But b H H' → ABag H' b k ns → H g = none → H' g = some (.dT kvs) → Paired (KvE H') es kvs → sts.Perm (stds (sh W)) → RowsOk GainOk es sts W.length → Q (.ref g) H'
structure GnT (K : PySem.W.Frag) (mg : Str → Option Value) (fN fS fW : Addr) (dN dS dW : FuncData) : Prop where
  m_sorted : mg "sorted" = none
  m_min : mg "min" = none
  m_range : mg "range" = none
  m_tuple : mg "tuple" = none
  m_list : mg "list" = none
  m_dict : mg "dict" = none
  N : Fun K "_law_number" "_law_number" s_law_number fN dN
  bN : Binds K dN ["_law_bag_here", "_law_style"] []
  gN : mg "_law_number" = some (.ref fN)
  S : Fun K "_law_standings" "_law_standings" s_law_standings fS dS
  bS : Binds K dS ["_law_ways"] []
  gS : mg "_law_standings" = some (.ref fS)
  W : Fun K "_law_wider" "_law_wider" s_law_wider fW dW
  bW : Binds K dW ["_law_some", "_law_ways"] []
  gW : mg "_law_wider" = some (.ref fW)

theorem row_at {H : Hp} : ∀ {es : List Row} {kvs : List (List L2.Key × V)} {st : List Str}, Paired (KvE H) es kvs → st ∈ es.map (·.1) → ∃ e ∈ es, e.1 = st ∧ ∃ a, valV kvs (kS st) = some (.ref a) ∧ H a = some (.tup (e.2.map V.int))
  | _, _, _, .nil, h => nomatch h
  | e :: r, kv :: kvs, st, .cons q t, h => by
    obtain ⟨e1, a, ev, ha⟩ := q
    by_cases hx : e.1 = st
    · subst hx
      exact ⟨e, List.mem_cons_self, rfl, a, by rw [valV_pos e1, ev], ha⟩
    · have hm : st ∈ r.map (·.1) := by
        rw [List.map_cons] at h
        rcases List.mem_cons.mp h with h | h
        · exact absurd h.symm hx
        · exact h
      obtain ⟨e', he, h1, a', h2, h3⟩ := row_at t hm
      refine ⟨e', List.mem_cons_of_mem _ he, h1, a', ?_, h3⟩
      rw [valV_neg (fun e' => hx ?_)]
      · exact h2
      · have := congrArg (List.map kV) (e1.symm.trans e')
        rw [kS_v, kS_v] at this
        exact List.map_inj_right (fun _ _ h => V.str.inj h) |>.mp this
def setRow (es : List Row) (st : List Str) (row : List Int) : List Row := es.map fun e => if e.1 = st then (e.1, row) else e
theorem setRow_paired {H : Hp} {es : List Row} {kvs : List (List L2.Key × V)} {st : List Str} {row : List Int} {pt : Addr} (h : Paired (KvE H) es kvs) (hm : st ∈ es.map (·.1)) (hp : H pt = some (.tup (row.map V.int))) : Paired (KvE H) (setRow es st row) (putK kvs (kS st) (.ref pt)) := by
  have hin : (kvs.any fun kv => decide (kv.1 = kS st)) = true := by
    obtain ⟨_, _, _, a, hv, _⟩ := row_at h hm
    rw [valV_any, hv]
    rfl
  unfold putK
  rw [if_pos hin]
  clear hin hm
  unfold setRow
  induction h with
  | nil => exact .nil
  | @cons e kv es kvs r t ih =>
    rw [List.map_cons, List.map_cons]
    refine .cons ?_ ih
    obtain ⟨e1, a, ev, ha⟩ := r
    by_cases hx : e.1 = st
    · rw [if_pos hx, if_pos (by rw [e1, hx])]
      exact ⟨e1, pt, rfl, hp⟩
    · rw [if_neg hx, if_neg fun z => hx ?_]
      · exact ⟨e1, a, ev, ha⟩
      · have := congrArg (List.map kV) (e1.symm.trans z)
        rw [kS_v, kS_v] at this
        exact List.map_inj_right (fun _ _ h => V.str.inj h) |>.mp this
theorem setRow_keys (es : List Row) (st : List Str) (row : List Int) : (setRow es st row).map (·.1) = es.map (·.1) := by
  unfold setRow
  rw [List.map_map]
  refine List.map_congr_left fun e _ => ?_
  show (if e.1 = st then (e.1, row) else e).1 = e.1
  by_cases h : e.1 = st
  · rw [if_pos h]
  · rw [if_neg h]
theorem setRow_mem {es : List Row} {st : List Str} {row : List Int} {e : Row} (h : e ∈ setRow es st row) : e ∈ es ∨ e.2 = row := by
  unfold setRow at h
  obtain ⟨x, hx, rfl⟩ := List.mem_map.mp h
  by_cases hs : x.1 = st
  · rw [if_pos hs]
    exact .inr rfl
  · rw [if_neg hs]
    exact .inl hx
theorem paired_rev {α β : Type} {F : α → β → Prop} {l : List α} {m : List β} (h : Paired F l m) : Paired F l.reverse m.reverse := by
  induction h with
  | nil => exact .nil
  | cons r _ ih =>
    rw [List.reverse_cons, List.reverse_cons]
    exact paired_append ih (.cons r .nil)
theorem GainLo.ok {z : Int} (h : GainLo z) : GainOk z := by
  obtain ⟨h1, h2⟩ := h
  exact ⟨by omega, by omega⟩
theorem RowsOk.rev {M : Int → Prop} {es : List Row} {sts : List (List Str)} {n : Nat} (h : RowsOk M es sts n) : RowsOk M es.reverse sts.reverse n :=
  ⟨by rw [List.map_reverse, h.ks], fun e he => h.len e (List.mem_reverse.mp he), fun e he => h.ok e (List.mem_reverse.mp he)⟩
theorem KvE.keys {H : Hp} {es : List Row} {kvs : List (List L2.Key × V)} (h : Paired (KvE H) es kvs) : kvs.map (·.1) = (es.map (·.1)).map kS := by
  induction h with
  | nil => rfl
  | cons r _ ih => rw [List.map_cons, List.map_cons, List.map_cons, ih, r.1]
theorem kS_nd {sts : List (List Str)} (h : sts.Nodup) : (sts.map kS).Nodup := by
  rw [List.Nodup, List.pairwise_map]
  refine List.Pairwise.imp (fun {x y} hne e => hne ?_) h
  have := congrArg (List.map kV) e
  rw [kS_v, kS_v] at this
  exact List.map_inj_right (fun _ _ h => V.str.inj h) |>.mp this
section
variable {P : Program} {w : World} {K : PySem.W.Frag} {mg : Str → Option Value} {base : Heap}
variable {fT fO fN fS fW : Addr} {dT dO dN dS dW : FuncData}
theorem ok_lgains {f : Addr} {fd : FuncData} (B : BT K mg fT fO dT dO) (G : GnT K mg fN fS fW dN dS dW) (F : Fun K "_law_gains" "_law_gains" s_law_gains f fd) : FnOk P w K mg base CX0 4 f fd ["_law_bag_here", "_law_ways"] spLGains := by
  have S : FnScope ["_law_bag_here", "_law_ways", "_law_style", "_law_way", "_law_found", "_law_standings_here", "_law_many", "_law_extras", "_law_standing", "_law_level", "_law_told", "_law_at", "_law_line", "_law_spot"] ["_law_bag_here", "_law_ways"] (defScope s_law_gains) := ⟨rfl, rfl, rfl, by decide +kernel, rfl, by decide +kernel, by decide +kernel⟩
  have nd := S.nd
  refine F.ok S (fun vs H Q E h => ?_) (fun cdv A outer s H vs Q E hr h => ?_)
  · obtain ⟨b, k, d, ns, W, rfl, _⟩ := h
    rfl
  · obtain ⟨b, k, d, ns, W, rfl, B0, hW0, ok, q⟩ := h
    have hu := hu_of hr
    have hu64 : _ + 64 < cLine := hr.units
    have T := ok_take (P := P) (w := w) (base := base) B.T B.ml B.mi
    have NN := ok_number (P := P) (w := w) (base := base) B G.N
    refine ⟨_, pss_cons (ps_par3 (i := 2) (j := 3) (l := 4) (by rfl) nd rfl rfl rfl (by decide) (by decide) (by decide) rfl rfl rfl (pa_cons (pe_call T (hr.mono (by decide)) (by rfl) B.gT B.T.kp B.bT .nil pass0 (pa_cons (pv 0) (pa_cons pe_int pa_nil))) (pa_cons (pe_call T (hr.mono (by decide)) (by rfl) B.gT B.T.kp B.bT .nil pass0 (pa_cons (pv 0) (pa_cons pe_int pa_nil))) (pa_cons pe_dnewT pa_nil))) (by rfl))
      (pss_cons (ps_par3 (i := 5) (j := 6) (l := 7) (by rfl) nd rfl rfl rfl (by decide) (by decide) (by decide) rfl rfl rfl (pa_cons (pe_call (ok_lstandings G.m_sorted G.W G.bW G.gW G.S) (hr.mono (by decide)) (by rfl) G.gS G.S.kp G.bS .nil pass0 (pa_cons (pv 1) pa_nil)) (pa_cons (pe_callB call_lenD (by rfl) B.ml PySem.boot_len (pa_cons (pv 1) pa_nil)) (pa_cons pe_dnewN pa_nil))) (by rfl))
      (pss_cons (ps_for PassesOwn.never rfl (pi_list (pv 5)) (pg_name (i := 8) nd rfl (Or.inl rfl))
        (pss_cons (ps_set (i := 9) nd rfl (Or.inl rfl) (pe_call NN (hr.mono (by decide)) (by rfl) G.gN G.N.kp G.bN .nil pass0 (pa_cons (pv 0) (pa_cons (pe_callB (call_min2 rfl) (by rfl) G.m_min (by decide +kernel) (pa_cons (pv 2) (pa_cons pe_int pa_nil))) pa_nil))))
        (pss_cons (ps_set (i := 10) nd rfl (Or.inl rfl) (pe_lst pa_nil))
        (pss_cons (ps_for PassesOwn.never rfl (pi_range1 rfl G.m_range (pa_cons (pv 6) pa_nil)) (pg_name (i := 11) nd rfl (Or.inl rfl))
          (pss_cons (ps_set (i := 12) nd rfl (Or.inl rfl) (pe_tup (pa_cons (pv 11) (pa_cons (pe_op op_catB (pe_slice sl_tupB (pv 8) po_none (po_some (pv 11))) (pe_slice sl_tupB (pv 8) (po_some (pe_op op_add (pv 11) pe_int)) po_none)) pa_nil))))
          (pss_cut (ps_if (pt_cmpR (op_notInN hu64) (pv 12) (pv 7) (by rfl)) (pss_one (ps_asg (pe_call NN (hr.mono (by decide)) (by rfl) G.gN G.N.kp G.bN .nil pass0 (pa_cons (pv 0) (pa_cons (pe_callB (call_min2 rfl) (by rfl) G.m_min (by decide +kernel) (pa_cons (pv 2) (pa_cons pe_int pa_nil))) pa_nil))) (pg_sub (pv 7) (pv 12) (set_N hu64)))) pss_nil)
          (pss_one (ps_expr (pe_bm PySem.F.plainAttrs_list PySem.F.slot_list_append PySem.F.type_list_append mt_append (pv 10) (pa_cons (pe_ifExp (pt_cmpR op_lt (pv 3) pe_int (nomark _)) (pe_op op_add (pv 9) (pe_getN hu64 (pv 7) (pv 12) (fun _ _ => rfl))) (pe_call NN (hr.mono (by decide)) (by rfl) G.gN G.N.kp G.bN .nil pass0 (pa_cons (pv 0) (pa_cons (pv 2) pa_nil)))) pa_nil)))))))
        (pss_one (ps_dput hu (pv 4) (pv 8) (pe_callTy call_tup (by rfl) G.m_tuple (by decide +kernel) (pa_cons (pv 10) pa_nil)) rfl)))))
      )
      (pss_cut (ps_if (pt_cmpR op_eq (pv 3) pe_int (nomark _))
        (pss_cons (ps_par (i := 13) (j := 11) (by rfl) nd rfl rfl (by decide) rfl rfl (pa_cons (pe_call (ok_one B.O B.T B.bT B.gT B.ml B.mi) (hr.mono (by decide)) (by rfl) B.gO B.O.kp B.bO .nil pass0 (pa_cons (pv 0) (pa_cons (pv 5) pa_nil))) (pa_cons (pe_call T (hr.mono (by decide)) (by rfl) B.gT B.T.kp B.bT .nil pass0 (pa_cons (pv 0) (pa_cons (pv 6) pa_nil))) pa_nil)) (by rfl))
        (pss_cons (ps_set (i := 10) nd rfl (Or.inl rfl) (pe_callTy call_list_of (by rfl) G.m_list (by decide +kernel) (pa_cons (pe_dget hu (pv 4) (pv 13) (fun _ _ => rfl)) pa_nil)))
        (pss_cons (ps_asg (pe_op op_add (pe_ix ix_list (pv 10) (pv 11) (fun _ _ => rfl)) (pe_ix ix_list (pe_lst (pa_cons pe_int (pa_cons (pe_un un_neg pe_int) (pa_cons pe_int pa_nil)))) (pe_call T (hr.mono (by decide)) (by rfl) B.gT B.T.kp B.bT .nil pass0 (pa_cons (pv 0) (pa_cons pe_int pa_nil))) (fun _ _ => rfl))) (pg_sub (pv 10) (pv 11) set_list))
        (pss_one (ps_dput hu (pv 4) (pv 13) (pe_callTy call_tup (by rfl) G.m_tuple (by decide +kernel) (pa_cons (pv 10) pa_nil)) rfl))))) pss_nil)
      (pss_one (ps_ret (pe_ifExp (pt_cmpR op_eq (pe_call T (hr.mono (by decide)) (by rfl) B.gT B.T.kp B.bT .nil pass0 (pa_cons (pv 0) (pa_cons pe_int pa_nil))) pe_int (nomark _)) (pv 4)
        (pe_callTy (call_dictT rfl hu64) (by rfl) G.m_dict (by decide +kernel) (pa_cons (pe_revL (pe_callTy (call_list_itemsT rfl) (by rfl) G.m_list (by decide +kernel) (pa_cons (pe_bm0 PySem.F.plainAttrs_dict PySem.F.slot_dict_items PySem.F.type_dict_items L2.DX.mt_itemsT (pv 4)) pa_nil))) pa_nil)))))))), ?_⟩
    refine ⟨_, rfl, b, k, ns, _, rfl, B0, by decide, by decide, fun H1 d1 kb1 B1 d1a d1b => ?_⟩
    refine ⟨_, rfl, b, k, ns, _, rfl, B1, by decide, by decide, fun H2 d2 kb2 B2 d2a d2b => ?_⟩
    refine fun g ng2 => ⟨_, _, _, rfl, ?_⟩
    have s3 := same_upd (o := .dT []) ng2
    have kb02 := kb1.trans kb2
    have hW2 := (hW0.but B0 ok.w1 kb02).same s3
    obtain ⟨kw, hkw, pkw⟩ := id hW2
    have hkwl : kw.length = W.length := (Paired.length pkw).symm
    refine ⟨_, rfl, d, W, rfl, hW2.at, ok, fun H4 ps vs s4 nps h4 t4 => ?_⟩
    refine ⟨_, rfl, d, kw, rfl, s4 _ _ hkw, ?_⟩
    refine fun X nX => ⟨_, _, _, rfl, ?_⟩
    have s5 := same_upd (o := rawD X #[] 0) nX
    have ngH : H g = none := but_free kb02 B2 ng2
    have npH : H ps = none := by
      have := s3.free nps
      exact but_free kb02 B2 this
    have nXH : H X = none := by
      have h1 := s4.free nX
      exact but_free kb02 B2 (s3.free h1)
    have sok := ok.sok
    have hn4 := ok.n4
    have hn1 := ok.n1
    have G0 : GSt P w H (upd H4 X (rawD X #[] 0)) b k ns g ps X vs (stds (sh W)) [] [] [] :=
      ⟨ngH, npH, nXH, abag_ne B0, kb02.trans (But.of (s3.trans (s4.trans s5))), B2.same (s3.trans (s4.trans s5)), s5 _ _ (s4 _ _ upd_same), .nil, nd_new, s5 _ _ h4, t4.same s5⟩
    have hfew := sok.few
    have hsv : (stds (sh W)).length = vs.length := Paired.length t4
    rw [hkwl]
    generalize hst : stds (sh W) = sts at *
    refine ⟨_, rfl, ps, rfl, ⟨_, SqL.of G0.hp⟩, for_it (walk_list (K := K) (a := ps) (xs := vs)) (fun i σ H' => ∃ es kvs ks v8 v9 v10 v11 v12, σ = [some (.ref b), some (.ref d), some (.int d1), some (.int d2), some (.ref g), some (.ref ps), some (.int (W.length : Int)), some (.ref X), v8, v9, v10, v11, v12, none] ∧
      GSt P w H H' b k ns g ps X vs sts kvs es ks ∧ RowsOk GainLo es (sts.take i) W.length ∧ ks.length ≤ 4 * i) ⟨[], [], [], none, none, none, none, none, rfl, G0, ⟨rfl, (fun _ h => nomatch h), (fun _ h => nomatch h)⟩, Nat.le_refl _⟩ (fun i σ H' _ ⟨_, _, _, _, _, _, _, _, _, G', _⟩ => SqL.of G'.hp) ?_ ?_⟩
    · rintro i x σ H5 H6 hi ⟨es, kvs, ks, v8, v9, v10, v11, v12, rfl, G6, hes, hks⟩ ⟨rfl, hx⟩
      obtain ⟨st, hsti, a, rfl, ha⟩ := paired_get G6.ht hx
      have hstm : st ∈ sts := List.mem_of_getElem? hsti
      have hstl : st.length = W.length := by
        rw [← hst] at hstm
        rw [stds_mem hstm, sh_len]
      refine ⟨_, rfl, _, rfl, d1, 2, rfl, b, k, ns, _, rfl, G6.B, fun H7 lev kb7 B7 levok => ?_⟩
      have G7 := G6.but kb7 B7
      refine ⟨(by show 0 ≤ sizeLine; decide), fun Tl nT => ?_⟩
      have sT := same_upd (o := .lst []) nT
      have G8 := G7.same sT
      have hTb : Tl ≠ b := abag_not B7 nT
      have hTk : Tl ≠ k := fun z => by rw [z, abag_k B7] at nT; cases nT
      have hTp : Tl ≠ ps := fun z => by rw [z, G7.hp] at nT; cases nT
      have hTH : H Tl = none := but_free G7.kb G7.B nT
      have ha7 : (upd H7 Tl (.lst [])) a = some (.tup (st.map V.str)) := by
        refine sT _ _ (kb7 _ _ ha fun z => ?_)
        obtain ⟨ys, e⟩ := abag_ne G6.B
        rw [z, e] at ha
        cases ha
      refine ⟨_, rfl, W.length, rfl, by omega, by omega, for_range (lo := 0) (n := W.length) (fun j σ H' => ∃ zs ks2 u11 u12, σ = [some (.ref b), some (.ref d), some (.int d1), some (.int d2), some (.ref g), some (.ref ps), some (.int (W.length : Int)), some (.ref X), some (.ref a), some (.int lev), some (.ref Tl), u11, u12, none] ∧
        GSt P w H H' b k ns g ps X vs sts kvs es ks2 ∧ ks2.length ≤ 4 * i + j ∧ H' Tl = some (.lst (zs.map V.int)) ∧ zs.length = j ∧ (∀ z ∈ zs, GainLo z) ∧ H' a = some (.tup (st.map V.str))) ⟨[], ks, v11, v12, rfl, G8, by omega, upd_same, rfl, (fun _ h => nomatch h), ha7⟩ ?_ ?_⟩
      · rintro j σ H9 hj ⟨zs, ks2, u11, u12, rfl, G9, hk2, hT9, hzl, hzo, ha9⟩
        rw [Int.zero_add]
        refine ⟨_, rfl, _, rfl, _, rfl, (j : Int), rfl, a, _, rfl, ha9, fun Ha pa sa hpa => ?_⟩
        rw [cut_to] at hpa
        refine ⟨_, rfl, _, rfl, _, _, rfl, rfl, ((j + 1 : Nat) : Int), rfl, a, _, rfl, sa _ _ ha9, fun Hb pb sb hpb => ?_⟩
        rw [cut_from] at hpb
        refine ⟨pa, pb, _, _, rfl, rfl, sb _ _ hpa, hpb, ?_, fun Hc pc sc hpc => ?_⟩
        · rw [List.length_take, List.length_drop, List.length_map]
          omega
        refine ⟨(by show 2 ≤ sizeLine; decide), fun L nL => ?_⟩
        have sL := same_upd (o := .tup [.int (j : Int), .ref pc]) nL
        have s9L := sa.trans (sb.trans (sc.trans sL))
        have GL := G9.same s9L
        have hline : LineAt (upd Hc L (.tup [.int (j : Int), .ref pc])) L ((j : Int), st.take j ++ st.drop (j + 1)) := ⟨pc, upd_same, by rw [sL _ _ hpc, List.map_append, List.map_take, List.map_drop]⟩
        have hTL := s9L _ _ hT9
        have haL := s9L _ _ ha9
        generalize (upd Hc L (.tup [.int (j : Int), .ref pc])) = HL at *
        refine ⟨fun σ' H' => ∃ ks3, σ' = [some (.ref b), some (.ref d), some (.int d1), some (.int d2), some (.ref g), some (.ref ps), some (.int (W.length : Int)), some (.ref X), some (.ref a), some (.int lev), some (.ref Tl), some (.int (j : Int)), some (.ref L), none] ∧
          GSt P w H H' b k ns g ps X vs sts kvs es ks3 ∧ ks3.length ≤ 4 * i + (j + 1) ∧ ((j : Int), st.take j ++ st.drop (j + 1)) ∈ ks3 ∧ LineAt H' L ((j : Int), st.take j ++ st.drop (j + 1)) ∧ H' Tl = some (.lst (zs.map V.int)) ∧ H' a = some (.tup (st.map V.str)), ?_, ?_⟩
        · have hi256 : i < 256 := by omega
          have tb : ∀ {Hx Hy : Hp}, But b Hx Hy → (∃ xs, Hx b = some (.lst xs)) → ∀ c ys, Hx c = some (.tup ys) → Hy c = some (.tup ys) := fun kb ⟨xs, hb⟩ c ys e => kb _ _ e (fun z => by rw [z, hb] at e; cases e)
          refine ⟨_, rfl, _, rfl, L, X, _, ks2, rfl, rfl, hline, GL.nX, _, rfl, ?_⟩
          by_cases hin : ((j : Int), st.take j ++ st.drop (j + 1)) ∈ ks2
          · rw [decide_eq_true hin]
            exact iteF ⟨ks2, rfl, GL, by omega, hin, hline, hTL, haL⟩
          · rw [decide_eq_false hin]
            refine iteT ⟨_, rfl, _, rfl, d1, 2, rfl, b, k, ns, _, rfl, GL.B, fun HN z kbN BN zok => ?_⟩
            have GN' := GL.but kbN BN
            have tN := tb kbN (abag_ne GL.B)
            refine ⟨_, rfl, _, rfl, L, X, _, ks2, z, rfl, rfl, rfl, hline.same tN, GN'.nX, hin, by omega, zok, fun HS s' n' nd' => ?_⟩
            obtain ⟨esX, ep, xs0, eX, _⟩ := id GN'.nX
            have tS : ∀ c ys, HN c = some (.tup ys) → HS c = some (.tup ys) := fun c ys e => s' _ _ (ne_of e eX (by intro z; cases z)) e
            have hTN := kbN _ _ hTL hTb
            exact ⟨ks2 ++ [((j : Int), st.take j ++ st.drop (j + 1))], rfl, GN'.setX s' nd', by rw [List.length_append, List.length_singleton]; omega, List.mem_append_right _ (List.mem_singleton.mpr rfl), (hline.same tN).same tS, s' _ _ (ne_of hTN eX (by intro z; cases z)) hTN, tS _ _ (tN _ _ haL)⟩
        · rintro σ' HM ⟨ks3, rfl, GM, hk3, hin, hlM, hTM, haM⟩
          refine ⟨_, rfl, .inl ⟨rfl, _, SqL.of hTM⟩, ?_⟩
          have fin : ∀ (HF : Hp) (z : Int), GSt P w H HF b k ns g ps X vs sts kvs es ks3 → HF Tl = some (.lst (zs.map V.int)) → HF a = some (.tup (st.map V.str)) → GainLo z →
              ∃ l xs y, V.ref Tl = .ref l ∧ [V.int z] = [y] ∧ HF l = some (.lst xs) ∧ xs.length < sizeLine ∧ ∃ (zs' : List Int) (ks2 : List Line) (u11 u12 : Option V), [some (V.ref b), some (.ref d), some (.int d1), some (.int d2), some (.ref g), some (.ref ps), some (.int (W.length : Int)), some (.ref X), some (.ref a), some (.int lev), some (.ref Tl), some (.int (j : Int)), some (.ref L), none] = [some (V.ref b), some (.ref d), some (.int d1), some (.int d2), some (.ref g), some (.ref ps), some (.int (W.length : Int)), some (.ref X), some (.ref a), some (.int lev), some (.ref Tl), u11, u12, none] ∧
                GSt P w H (upd HF l (.lst (xs ++ [y]))) b k ns g ps X vs sts kvs es ks2 ∧ ks2.length ≤ 4 * i + (j + 1) ∧ (upd HF l (.lst (xs ++ [y]))) Tl = some (.lst (zs'.map V.int)) ∧ zs'.length = j + 1 ∧ (∀ z ∈ zs', GainLo z) ∧ (upd HF l (.lst (xs ++ [y]))) a = some (.tup (st.map V.str)) := fun HF z GF hTF haF hz => by
            refine ⟨Tl, _, _, rfl, rfl, hTF, small1000 (by rw [List.length_map]; omega), zs ++ [z], ks3, _, _, rfl, GF.list hTF hTb hTk hTp hTH, hk3, by rw [upd_same, List.map_append]; rfl, by rw [List.length_append, hzl]; rfl, fun y hy => ?_, ?_⟩
            · rcases List.mem_append.mp hy with hy | hy
              · exact hzo y hy
              · rw [List.mem_singleton.mp hy]
                exact hz
            · rw [upd_ne (ne_of haF hTF (by intro z; cases z))]
              exact haF
          refine ⟨_, rfl, _, _, rfl, rfl, _, rfl, ?_⟩
          obtain ⟨lv1, lv2⟩ := levok
          cases decide (d2 < 3) with
          | true =>
            refine iteT ⟨_, rfl, _, rfl, _, rfl, L, X, _, ks3, rfl, rfl, hlM, GM.nX, hin, fun z zok => ⟨_, _, rfl, rfl, fin HM (lev + z) GM hTM haM ?_⟩⟩
            obtain ⟨z1, z2⟩ := zok
            exact ⟨by omega, by omega⟩
          | false =>
            refine iteF ⟨_, rfl, _, rfl, b, k, ns, d1, rfl, GM.B, fun HN z kbN BN zok => fin HN z (GM.but kbN BN) (kbN _ _ hTM hTb) (kbN _ _ haM fun z => ?_) ?_⟩
            · obtain ⟨ys, e⟩ := abag_ne GM.B
              rw [z, e] at haM
              cases haM
            · obtain ⟨z1, z2⟩ := zok
              exact ⟨by omega, by omega⟩
      · rintro σ H9 ⟨zs, ks2, u11, u12, rfl, G9, hk2, hT9, hzl, hzo, ha9⟩
        have hzl : zs.length = W.length := by simpa using hzl
        have hk2 : ks2.length ≤ 4 * i + W.length := by simpa using hk2
        refine ⟨_, rfl, Tl, _, rfl, .inl ⟨SqL.of hT9, fun pt npt => ?_⟩⟩
        have spt := same_upd (o := .tup (zs.map V.int)) npt
        have Gt := G9.same spt
        have hel : es.length = i := by
          have := congrArg List.length hes.ks
          rw [List.length_map, List.length_take] at this
          omega
        have hkl : kvs.length = i := by rw [← Paired.length Gt.he, hel]
        refine ⟨_, rfl, _, rfl, g, _, rfl, DPut.t (k := kS st) Gt.hg (by rw [kS_v]; exact spt _ _ ha9) (small1000 (by omega)), ?_⟩
        have keys : kvs.map (·.1) = (es.map (·.1)).map kS := by
          have hq := Gt.he
          clear hkl hel
          generalize (upd H9 pt (.tup (zs.map V.int))) = HT at hq
          clear G6 hes hks G7 G8 G9 Gt
          induction hq with
          | nil => rfl
          | cons r _ ih => rw [List.map_cons, List.map_cons, List.map_cons, ih, r.1]
        have hnew : kS st ∉ kvs.map (·.1) := by
          rw [keys, hes.ks]
          intro hm
          obtain ⟨y, hy, ey⟩ := List.mem_map.mp hm
          have ey' : y = st := by
            have := congrArg (List.map kV) ey
            rw [kS_v, kS_v] at this
            exact List.map_inj_right (fun _ _ h => V.str.inj h) |>.mp this
          rw [ey'] at hy
          exact not_take (by rw [← hst]; exact stds_nd sok.wd) hsti hy
        rw [putK_new hnew]
        refine ⟨es ++ [(st, zs)], _, ks2, _, _, _, _, _, rfl, Gt.setG (paired_append Gt.he (.cons ⟨rfl, pt, rfl, upd_same⟩ .nil)), ⟨?_, ?_, ?_⟩, by omega⟩
        · rw [List.map_append, hes.ks, List.take_add_one, hsti]
          rfl
        · intro e he
          rcases List.mem_append.mp he with he | he
          · exact hes.len e he
          · rw [List.mem_singleton.mp he]
            exact hzl
        · intro e he
          rcases List.mem_append.mp he with he | he
          · exact hes.ok e he
          · rw [List.mem_singleton.mp he]
            exact hzo
    · rintro σ H6 ⟨es, kvs, ks, v8, v9, v10, v11, v12, rfl, G6, hes, hks⟩
      rw [← hsv, List.take_length] at hes
      have snd : sts.Nodup := by rw [← hst]; exact stds_nd sok.wd
      have sne : 1 ≤ sts.length := by rw [← hst]; exact stds_ne sok
      refine ⟨fun σ' H' => ∃ es kvs ks v8 v9 v10 v11 v12 v13, σ' = [some (.ref b), some (.ref d), some (.int d1), some (.int d2), some (.ref g), some (.ref ps), some (.int (W.length : Int)), some (.ref X), v8, v9, v10, v11, v12, v13] ∧ GSt P w H H' b k ns g ps X vs sts kvs es ks ∧ RowsOk GainOk es sts W.length, ?_, ?_⟩
      · refine ⟨_, rfl, rfl, _, rfl, ite2 (fun _ => ?_) (fun _ => ⟨es, kvs, ks, _, _, _, _, _, _, rfl, G6, ⟨hes.ks, hes.len, fun e he z hz => (hes.ok e he z hz).ok⟩⟩)⟩
        refine ⟨_, rfl, _, rfl, b, k, ps, ns, vs, rfl, G6.B, SqL.of G6.hp, G6.off G6.np, ?_, by omega, fun H7 x kb7 B7 hx => ?_⟩
        · intro z
          rw [z] at hsv
          rw [List.length_nil] at hsv
          omega
        have G7 := G6.but kb7 B7
        refine ⟨_, rfl, _, rfl, b, k, ns, _, rfl, B7, by omega, by omega, fun H8 at8 kb8 B8 a0 a1 => ⟨_, _, rfl, ?_⟩⟩
        have G8 := G7.but kb8 B8
        obtain ⟨j, hj⟩ := List.mem_iff_getElem?.mp hx
        obtain ⟨st, hsti, a, rfl, ha⟩ := paired_get G8.ht hj
        have hstm : st ∈ es.map (·.1) := by rw [hes.ks]; exact List.mem_of_getElem? hsti
        obtain ⟨e, hee, he1, pa, hv, hpa⟩ := row_at G8.he hstm
        refine ⟨_, rfl, _, rfl, g, _, rfl, (by rw [← hv]; exact DGet.t (k := kS st) G8.hg (by rw [kS_v]; exact ha)), pa, _, rfl, .inr (SqT.of hpa), fun Tl nT => ?_⟩
        have sT := same_upd (o := .lst (e.2.map V.int)) nT
        have G9 := G8.same sT
        have hTb : Tl ≠ b := abag_not B8 nT
        have hTk : Tl ≠ k := fun z => by rw [z, abag_k B8] at nT; cases nT
        have hTp : Tl ≠ ps := fun z => by rw [z, G8.hp] at nT; cases nT
        have hTH : H Tl = none := but_free G8.kb G8.B nT
        have hT9 : (upd H8 Tl (.lst (e.2.map V.int))) Tl = some (.lst (e.2.map V.int)) := upd_same
        have ha9 := sT _ _ ha
        generalize (upd H8 Tl (.lst (e.2.map V.int))) = H9 at *
        have hal : at8.toNat < e.2.length := by
          rw [hes.len e hee]
          omega
        refine ⟨_, rfl, _, rfl, Tl, _, at8, .int e.2[at8.toNat], rfl, rfl, SqL.of hT9, at_of (j := at8.toNat) (by omega) (by rw [List.getElem?_map, List.getElem?_eq_getElem hal]; rfl), ?_⟩
        refine ⟨_, rfl, (by show 3 ≤ sizeLine; decide), fun p3 n3 => ?_⟩
        generalize hxs : [V.int 1, V.int (-1), V.int 7] = xs3
        have s3' := same_upd (o := .lst xs3) n3
        have G10 := G9.same s3'
        refine ⟨_, rfl, b, k, ns, _, rfl, G10.B, by decide, by decide, fun H11 d9 kb11 B11 c0 c1 => ?_⟩
        have G11 := G10.but kb11 B11
        have hxl : xs3.length = 3 := by rw [← hxs]; rfl
        have hxi : ∀ x ∈ xs3, ∃ z, x = V.int z ∧ -1 ≤ z ∧ z ≤ 7 := by
          subst hxs
          intro x hx
          simp only [List.mem_cons, List.not_mem_nil, or_false] at hx
          rcases hx with rfl | rfl | rfl <;> exact ⟨_, rfl, by decide, by decide⟩
        have hj3 : d9.toNat < xs3.length := by omega
        obtain ⟨z3, hz3, z3a, z3b⟩ := hxi xs3[d9.toNat] (List.getElem_mem hj3)
        have h3b : p3 ≠ b := abag_not G9.B n3
        have hT11 := kb11 _ _ (s3' _ _ hT9) hTb
        have ha11 := kb11 _ _ (s3' _ _ ha9) (fun z => by
          obtain ⟨ys, e⟩ := abag_ne G9.B
          rw [z, e] at ha9
          cases ha9)
        refine ⟨p3, xs3, d9, .int z3, rfl, rfl, SqL.of (kb11 _ _ upd_same h3b), at_of (j := d9.toNat) (by omega) (by rw [List.getElem?_eq_getElem hj3, hz3]), _, _, rfl, rfl, ?_⟩
        refine ⟨_, rfl, _, rfl, Tl, _, at8, at8.toNat, rfl, rfl, hT11, ?_, ?_⟩
        · rw [List.length_map]
          unfold ixN
          rw [if_pos a0, if_pos (by omega)]
        have hrow : (e.2.map V.int).set at8.toNat (.int (e.2[at8.toNat] + z3)) = (e.2.set at8.toNat (e.2[at8.toNat] + z3)).map V.int := by rw [List.map_set]
        rw [hrow]
        have G12 := G11.list (o := .lst ((e.2.set at8.toNat (e.2[at8.toNat] + z3)).map V.int)) hT11 hTb hTk hTp hTH
        have hT12 : (upd H11 Tl (.lst ((e.2.set at8.toNat (e.2[at8.toNat] + z3)).map V.int))) Tl = some (.lst ((e.2.set at8.toNat (e.2[at8.toNat] + z3)).map V.int)) := upd_same
        have ha12 : (upd H11 Tl (.lst ((e.2.set at8.toNat (e.2[at8.toNat] + z3)).map V.int))) a = some (.tup (st.map V.str)) := by
          rw [upd_ne (ne_of ha11 hT11 (by intro z; cases z))]
          exact ha11
        generalize (upd H11 Tl (.lst ((e.2.set at8.toNat (e.2[at8.toNat] + z3)).map V.int))) = H12 at *
        refine ⟨_, rfl, Tl, _, rfl, .inl ⟨SqL.of hT12, fun pt npt => ?_⟩⟩
        have spt := same_upd (o := .tup ((e.2.set at8.toNat (e.2[at8.toNat] + z3)).map V.int)) npt
        have G13 := G12.same spt
        have hkl : kvs.length ≤ 256 := by
          rw [← Paired.length G13.he]
          have := congrArg List.length hes.ks
          rw [List.length_map] at this
          omega
        refine ⟨_, rfl, _, rfl, g, _, rfl, DPut.t (k := kS st) G13.hg (by rw [kS_v]; exact spt _ _ ha12) (small1000 (by omega)), ?_⟩
        refine ⟨setRow es st (e.2.set at8.toNat (e.2[at8.toNat] + z3)), _, ks, _, _, _, _, _, _, rfl, G13.setG (setRow_paired G13.he hstm upd_same), ⟨by rw [setRow_keys]; exact hes.ks, fun e' he' => ?_, fun e' he' z hz => ?_⟩⟩
        · rcases setRow_mem he' with h1 | h1
          · exact hes.len e' h1
          · rw [h1, List.length_set]
            exact hes.len e hee
        · rcases setRow_mem he' with h1 | h1
          · exact (hes.ok e' h1 z hz).ok
          · rw [h1] at hz
            rcases List.mem_or_eq_of_mem_set hz with h2 | h2
            · exact (hes.ok e hee z h2).ok
            · obtain ⟨b1, b2⟩ := hes.ok e hee e.2[at8.toNat] (List.getElem_mem hal)
              rw [h2]
              exact ⟨by omega, by omega⟩
      · rintro σ' HF ⟨es, kvs, ks, v8, v9, v10, v11, v12, v13, rfl, GF, hes⟩
        refine ⟨_, rfl, b, k, ns, _, rfl, GF.B, by decide, by decide, fun HE de kbE BE e0 e1 => ⟨rfl, _, rfl, ?_⟩⟩
        have GE := GF.but kbE BE
        have hkl : kvs.length ≤ 256 := by
          rw [← Paired.length GE.he]
          have := congrArg List.length hes.ks
          rw [List.length_map] at this
          omega
        cases decide (V.int de = V.int 0) with
        | true => exact iteT ⟨_, rfl, q HE g kvs es sts GE.kb GE.B ngH GE.hg GE.he (List.Perm.refl _) hes⟩
        | false =>
          refine iteF ⟨_, rfl, .inr (.inr (.inl ⟨rfl, .inr ⟨kvs, GE.hg⟩⟩)), g, kvs, rfl, rfl, GE.hg, fun pv npv => ?_⟩
          have spv := same_upd (o := L2.DX.itemsO pv g) npv
          have G1 := GE.same spv
          refine ⟨pv, g, kvs, rfl, upd_same, G1.hg, by omega, fun H2 l prs s2 nl hl hpr => ?_⟩
          have G2 := G1.same s2
          refine ⟨l, _, rfl, SqL.of hl, fun p2 np2 => ?_⟩
          have s3' := same_upd (o := .lst (prs.map V.ref).reverse) np2
          have G3 := G2.same s3'
          refine ⟨p2, prs.reverse, kvs.reverse, rfl, by rw [upd_same, List.map_reverse], paired_rev (paired_imp hpr fun kv pr ⟨b', h1, h2⟩ => ⟨b', s3' _ _ (s2 _ _ h1), s3' _ _ h2⟩), ?_, by rw [List.length_reverse]; omega, fun gd ngd => ?_⟩
          · rw [List.map_reverse, KvE.keys GE.he, hes.ks]
            exact (List.reverse_perm _).nodup_iff.mpr (kS_nd snd)
          · have s4' := same_upd (o := .dT kvs.reverse) ngd
            have G4 := G3.same s4'
            exact q _ gd kvs.reverse es.reverse sts.reverse G4.kb G4.B (but_free G3.kb G3.B ngd) upd_same (paired_rev G4.he) (List.reverse_perm _) hes.rev
end
end HG

namespace HG
open PySem PySem.Spec PyProof.Rows L2
/-! ### d.values(), list of it, d.clear(), keys of either kind -/
def valsO (p d : Addr) : HO := .ext fun h => h.IsValuesView p d
theorem valsO_ok {P : Program} {w : World} {H : Hp} {h : Heap} {p d : Addr} (e : h.get? p = some { cls := .type "dict_values", data := .fields #[.ref d] }) : ObjOk P w H h p (valsO p d) :=
  ⟨⟨_, e, rfl, rfl⟩, ⟨_, e⟩, fun h1 h2 x k => let ⟨o, ho, r⟩ := x; ⟨o, k o ho, r⟩⟩
/-- a dict of either kind, its values -/
def DVal (H : Hp) (a : Addr) (xs : List V) : Prop := (∃ kvs, H a = some (.dK kvs) ∧ xs = kvs.map (·.2)) ∨ ∃ kvs, H a = some (.dT kvs) ∧ xs = kvs.map (·.2)
theorem DVal.same {H H' : Hp} {a : Addr} {xs : List V} (h : DVal H a xs) (s : Same H H') : DVal H' a xs := h.imp (fun ⟨k, e, q⟩ => ⟨k, s _ _ e, q⟩) (fun ⟨k, e, q⟩ => ⟨k, s _ _ e, q⟩)
section
variable {X : Cx} {pins : List (Addr × Obj)} {σ : L2.St} {H : Hp} {s : Shared} {a : Addr} {xs : List V}
theorem dval_raw (I : Inv X pins σ H s) (h : DVal H a xs) : (a == sysModules) = false ∧ xs.length ≤ sizeLine ∧ ∃ es ep, s.heap.DictRaw a es ep ∧ es.size = xs.length ∧ ∀ (i : Nat) x, xs[i]? = some x → ∃ e, es[i]? = some e ∧ RelV x e.val := by
  rcases h with ⟨kvs, e, rfl⟩ | ⟨kvs, e, rfl⟩
  · obtain ⟨z, hd, vs, rel, dd⟩ := dk_of I.hok e
    obtain ⟨es, ep, raw, hs, hi⟩ := dd.raw
    have hl : kvs.length = vs.length := rel.length
    refine ⟨hd, by rw [List.length_map]; exact z, es, ep, raw, by rw [hs, List.length_map, hl], fun i x hx => ?_⟩
    have hil : i < kvs.length := by
      have := (List.getElem?_eq_some_iff.mp hx).1
      rwa [List.length_map] at this
    rw [List.getElem?_map] at hx
    obtain ⟨kv, hkv, rfl⟩ := Option.map_eq_some_iff.mp hx
    have hie : i < es.size := by omega
    obtain ⟨y, hy⟩ : ∃ y, vs[i]? = some y := ⟨vs[i]'(by omega), List.getElem?_eq_getElem (by omega)⟩
    unfold KV at rel
    obtain ⟨kv', hkv', r1, r2⟩ := paired_get rel hy
    cases hkv'.symm.trans hkv
    refine ⟨es[i], Array.getElem?_eq_getElem hie, ?_⟩
    rw [(hi i hie y.1 y.2 hy).2]
    exact r2
  · obtain ⟨z, hd, rs, rel, dd⟩ := dt_of I.hok e
    obtain ⟨es, ep, raw, hs, hi⟩ := dd.raw
    have hl : kvs.length = rs.length := Paired.length rel
    refine ⟨hd, by rw [List.length_map]; exact z, es, ep, raw, by rw [hs, List.length_map, hl], fun i x hx => ?_⟩
    rw [List.getElem?_map] at hx
    obtain ⟨kv, hkv, rfl⟩ := Option.map_eq_some_iff.mp hx
    have hil : i < kvs.length := (List.getElem?_eq_some_iff.mp hkv).1
    have hie : i < es.size := by omega
    obtain ⟨y, hy, _, h2, _⟩ := hi i hie
    obtain ⟨kv', hkv', r1, r2, r3⟩ := paired_get rel hy
    cases hkv'.symm.trans hkv
    refine ⟨es[i], Array.getElem?_eq_getElem hie, ?_⟩
    rw [h2]
    exact r3
def rValues : V → List V → Hp → VK → Prop := fun x vs H Q => ∃ (a : Addr) (xs : List V), x = .ref a ∧ vs = [] ∧ DVal H a xs ∧ ∀ p, H p = none → Q (.ref p) (upd H p (valsO p a))
theorem mt_values : MtR X "dict.values" rValues := by
  intro pins s σ H x vs v us Q I rx rxs h
  obtain ⟨a, xs, rfl, rfl, ha, q⟩ := h
  cases rx
  cases rxs
  obtain ⟨hd, _, es, ep, raw, _⟩ := dval_raw I ha
  have hf : H s.heap.objs.size = none := I.hok.fresh (Nat.le_refl _)
  exact call_meetsIn PySem.F.slot_dict_values raw.typeIs PySem.F.entry_dict_values (PySem.F.args_dict_values_1 _) (meets_dict_values_raw a hd) ⟨⟨es, ep, raw⟩, .ref s.heap.objs.size, upd H s.heap.objs.size (valsO s.heap.objs.size a), I.laid (t' := s.toks) (fun b u e => Heap.get?_push_of_some _ e) (Nat.le_refl _) (valsO_ok (Heap.get?_push_size _ rfl)), rfl, q _ hf⟩
theorem raw_src {prog : Program} {w : World} {r d : Addr} {es : Array DictEntry} {ep : Nat} : PySem.W.KdlSrc prog w "dict_values" r d es.size (fun i v => ∃ hi : i < es.size, v = es[i].val) (fun h => h.IsValuesView r d ∧ h.DictRaw d es ep) where
  type := fun _ hm => hm.1.typeIs
  there := fun _ hm => ⟨let ⟨_, ho, _⟩ := hm.1; Heap.lt_size ho, let ⟨_, ho, _⟩ := hm.2; Heap.lt_size ho⟩
  keep := fun _ _ hm hk => ⟨let ⟨o, ho, x⟩ := hm.1; ⟨o, hk r (.inl rfl) o ho, x⟩, hm.2.at fun o e => hk d (.inr rfl) o e⟩
  notList := by decide
  notTuple := by decide
  hint := fun _ _ _ _ hm hq => PySem.W.kdl_hint_values hm.1.typeIs hq
  iter := fun _ _ hh hm => ⟨_, _, (fun _ _ hq => wpAny_pyIter_values_raw hm.1 hm.2 hq), Walks.rawValues hh _ d (let ⟨_, ho, _⟩ := hm.2; Nat.ne_of_lt (Heap.lt_size ho)) es ep, ⟨⟨_, Heap.get?_push_size _ rfl, rfl, rfl⟩, hm.2.at fun _ e => Heap.get?_push_of_some _ e⟩⟩
theorem vals_of : ∀ {xs : List V} {us : List Value}, us.length = xs.length → (∀ (j : Nat) x u, xs[j]? = some x → us[j]? = some u → RelV x u) → Vals xs us
  | [], [], _, _ => .nil
  | x :: r, u :: us, hl, all => .cons (all 0 x u rfl rfl) (vals_of (by simpa using hl) fun j x u hx hu => all (j + 1) x u (by simpa using hx) (by simpa using hu))
  | [], _ :: _, hl, _ => nomatch hl
  | _ :: _, [], hl, _ => nomatch hl
def rListVals : List V → Hp → VK → Prop := fun vs H Q => ∃ (p a : Addr) (xs : List V), vs = [.ref p] ∧ H p = some (valsO p a) ∧ DVal H a xs ∧ ∀ l, H l = none → Q (.ref l) (upd H l (.lst xs))
theorem call_list_vals (hc : X.calm = true) : CallR X (.type "list") rListVals := by
  intro pins s σ H xs us Q I rv h
  obtain ⟨p, a, xs, rfl, hp, ha, q⟩ := h
  obtain ⟨u, rfl, ru⟩ := rv.one
  cases ru
  refine callType_codes (Q₁ := fun obj s₁ => obj = .ref s.heap.objs.size ∧ s₁ = { s with heap := s.heap.push { cls := .type "list", data := .seq #[] } }) PySem.F.called_list (PySem.F.typeCall_list_1 _) PySem.F.entry_list_init
    (code_list_new _ ⟨rfl, rfl⟩) fun obj s₁ h₁ => ?_
  obtain ⟨rfl, rfl⟩ := h₁
  have hS : (s.heap.push { cls := .type "list", data := .seq #[] }).get? s.heap.objs.size = some { cls := .type "list", data := .seq #[] } := Heap.get?_push_size _ rfl
  refine ⟨⟨_, hS, rfl⟩, PySem.F.args_list_init_2 _ _, ?_⟩
  have fr : H s.heap.objs.size = none := I.hok.fresh (Nat.le_refl _)
  have I1 : Inv X pins σ (upd H s.heap.objs.size (.lst [])) { s with heap := s.heap.push { cls := .type "list", data := .seq #[] } } := I.lnew (its := []) (t' := s.toks) .nil (Nat.zero_le _)
  show wpAny _ _ (do let old ← Builtin.List.listItems (.ref s.heap.objs.size); Builtin.List.listUpdate (.ref s.heap.objs.size) (fun _ => #[]); letGo old.toList.reverse; Builtin.List.listExtendWith (.ref s.heap.objs.size) (.ref p) .none) _ _ _
  refine wpAny_bind ?_
  unfold Builtin.List.listItems
  refine wpAny_bind (wpAny_seqItems hS rfl (wpAny_pure ?_))
  show wpAny _ _ (updateSeq s.heap.objs.size (fun _ => #[]) >>= fun _ => letGo (#[] : Array Value).toList.reverse >>= fun _ => Builtin.List.listExtendWith (.ref s.heap.objs.size) (.ref p) .none) _ _ _
  refine wpAny_bind (wpAny_updateSeq hS rfl ?_)
  have I2 := I1.lset (f := fun _ => #[]) (its := []) (its' := []) (ys := []) (t' := s.toks) upd_same hS rfl .nil (Nat.zero_le _)
  rw [upd_upd] at I2
  refine wpAny_bind (wpAny_letGo ?_)
  generalize hSS : s.heap.objs.size = S at *
  generalize hsB : ({ s with heap := _ } : Shared) = sB at I2 ⊢
  have sS := same_upd (o := .lst []) fr
  have view : sB.heap.IsValuesView p a := (show ObjOk X.prog X.w _ sB.heap p (valsO p a) from I2.hok p _ (sS _ _ hp)).1
  obtain ⟨hd, hz, es, ep, raw, hes, hval⟩ := dval_raw I2 (ha.same sS)
  obtain ⟨z3, its, c0, r3, hl3, e3⟩ := I2.lstM upd_same
  cases r3
  have hSp : S ≠ p := fun z => by subst z; rw [hp] at fr; cases fr
  have hSa : S ≠ a := fun z => by
    subst z
    rcases ha with ⟨k, e, _⟩ | ⟨k, e, _⟩ <;> (rw [e] at fr; cases fr)
  refine PySem.W.kdl_extend (A := X.A.in1) (prog := X.prog) (w := X.w) (R := wants (fun r s₂ => r = .none ∧ EP X pins σ Q (.ref S) s₂) X.xe) (raw_src (es := es) (ep := ep)) (I.ok.hd hc) ⟨view, raw⟩ S hSp hSa .none c0 e3 (fun h' tk acc c hk hS' hit => ?_) (by rw [hes]; exact hz)
  have hvals : Vals xs acc.toList := by
    have hl : acc.toList.length = xs.length := by rw [Array.length_toList, hit.1, hes]
    have all : ∀ (j : Nat) x u, xs[j]? = some x → acc.toList[j]? = some u → RelV x u := fun j x u hx hu => by
      obtain ⟨e, he, r⟩ := hval j x hx
      obtain ⟨hj, rfl⟩ := hit.2 j u (by simpa using hu)
      rw [Array.getElem?_eq_getElem hj] at he
      cases he
      exact r
    exact vals_of hl all
  have I3 : Inv X pins σ (upd (upd H S (.lst [])) S (.lst xs)) { sB with heap := h', toks := tk } := by
    refine I2.write (x := S) (e := S) (by rw [upd_same]; exact True.intro) (.inl rfl) (fun b q hb z => hk b q hb z) ⟨_, hS'⟩ ?_
    exact ⟨hz, acc.toList, c, hvals, by simpa using hS'⟩
  rw [upd_upd] at I3
  exact ⟨rfl, .ref S, _, I3, rfl, q S fr⟩
end
end HG

namespace HG
open PySem PySem.Spec PyProof.Rows L2
open C8 (pss_cut tCut)
section
variable {X : Cx}
def rClearT : V → List V → Hp → VK → Prop := fun x vs H Q => ∃ (a : Addr) (kvs : List (List L2.Key × V)), x = .ref a ∧ vs = [] ∧ H a = some (.dT kvs) ∧ Q .non (upd H a (.dT []))
theorem mt_clearT : MtR X "dict.clear" rClearT := by
  intro pins s σ H x vs v us Q I rx rv h
  obtain ⟨a, kvs, rfl, rfl, e, q⟩ := h
  obtain rfl : v = Value.ref a := rx
  have hus := rv.zero
  subst hus
  obtain ⟨z, hd, xs, rel, dd⟩ := dt_of I.hok e
  have hx : xs.length ≤ sizeLine := by rw [← Paired.length rel]; exact z
  refine clear_keyed (knd := tupleKind (mixKind X.prog X.w)) (hsz := by rw [pairsH_length]; exact hx) ⟨xs, dd, rfl⟩ fun h' dk hs => ?_
  obtain ⟨ys, ⟨o, es, ep, ho, hxo, hdd, hee, _, hnn⟩, ey⟩ := dk
  have hy : ys = [] := by
    cases ys with
    | nil => rfl
    | cons _ _ => cases ey
  subst hy
  have new : ObjOk X.prog X.w (upd H a (.dT [])) h' a (.dT []) := ⟨Nat.zero_le _, hd, [], .nil, o, es, ep, ho, hxo, hdd, hee, hnn⟩
  exact ⟨.non, _, d_write I (by rw [e]; exact True.intro) hs ⟨o, ho⟩ new, rfl, q⟩
end
/-- what is emptied -/
def Emp (H : Hp) (d1 d2 : Addr) (xs : List V) (c : Addr) : Prop := c = d1 ∨ c = d2 ∨ (V.ref c ∈ xs ∧ ∃ ys, H c = some (.lst ys))
def spEmptied (K : PySem.W.Frag) : Sp := fun args H Q _ => ∃ (d1 d2 : Addr) (k1 : List (Key × V)) (k2 : List (List L2.Key × V)), args = [.ref d1, .ref d2] ∧ H d1 = some (.dK k1) ∧ H d2 = some (.dT k2) ∧ k1.length + k2.length ≤ 900 ∧
  (∀ x ∈ k1.map (·.2) ++ k2.map (·.2), ∃ c, x = .ref c ∧ ((∃ ys, H c = some (.lst ys)) ∨ ∃ ys, H c = some (.tup ys))) ∧
  ∀ H', (∀ c u, ¬ Emp H d1 d2 (k1.map (·.2) ++ k2.map (·.2)) c → H c = some u → H' c = some u) → Q .non H'
section
variable {P : Program} {w : World} {K : PySem.W.Frag} {mg : Str → Option Value} {base : Heap}
theorem ok_emptied {f : Addr} {fd : FuncData} (ml : mg "list" = none) (mi : mg "isinstance" = none) (F : Fun K "_law_emptied" "_law_emptied" s_law_emptied f fd) : FnOk P w K mg base CX0 1 f fd ["_law_ways", "_law_gains_here"] (spEmptied K) := by
  have S : FnScope ["_law_ways", "_law_gains_here", "_law_thing"] ["_law_ways", "_law_gains_here"] (defScope s_law_emptied) := ⟨rfl, rfl, rfl, by decide +kernel, rfl, by decide +kernel, by decide +kernel⟩
  have nd := S.nd
  refine F.ok S (fun vs H Q E h => ?_) (fun cdv A outer s H vs Q E hr h => ?_)
  · obtain ⟨d1, d2, k1, k2, rfl, _⟩ := h
    rfl
  · obtain ⟨d1, d2, k1, k2, rfl, h1, h2, hsz, hk, q⟩ := h
    refine ⟨_, pss_cons (ps_for PassesOwn.never rfl (pi_list (pe_op op_cat (pe_callTy (call_list_vals rfl) (by rfl) ml (by decide +kernel) (pa_cons (pe_bm0 PySem.F.plainAttrs_dict PySem.F.slot_dict_values PySem.F.type_dict_values mt_values (pv 0)) pa_nil)) (pe_callTy (call_list_vals rfl) (by rfl) ml (by decide +kernel) (pa_cons (pe_bm0 PySem.F.plainAttrs_dict PySem.F.slot_dict_values PySem.F.type_dict_values mt_values (pv 1)) pa_nil)))) (pg_name (i := 2) nd rfl (Or.inl rfl))
        (pss_one (ps_if (pt_val (pe_callB call_isi6 (by rfl) mi (by decide +kernel) (pa_cons (pv 2) (pa_cons (pe_bltn (v := .ty "list") (by rfl) ml (by decide +kernel) rfl) pa_nil)))) (pss_one (ps_expr (pe_bm0 PySem.F.plainAttrs_list PySem.F.slot_list_clear PySem.F.type_list_clear mt_clear (pv 2)))) pss_nil)))
      (pss_cons (ps_expr (pe_bm0 PySem.F.plainAttrs_dict PySem.F.slot_dict_clear PySem.F.type_dict_clear mtd_clear (pv 0)))
      (pss_one (ps_expr (pe_bm0 PySem.F.plainAttrs_dict PySem.F.slot_dict_clear PySem.F.type_dict_clear mt_clearT (pv 1))))), ?_⟩
    have l1 : (k1.map (·.2)).length = k1.length := List.length_map ..
    have l2 : (k2.map (·.2)).length = k2.length := List.length_map ..
    refine ⟨_, rfl, .inr (.inr (.inl ⟨rfl, .inl ⟨k1, h1⟩⟩)), d1, _, rfl, rfl, .inl ⟨k1, h1, rfl⟩, fun p1 n1 => ?_⟩
    have s1 := same_upd (o := valsO p1 d1) n1
    refine ⟨p1, d1, _, rfl, upd_same, .inl ⟨k1, s1 _ _ h1, rfl⟩, fun a1 m1 => ?_⟩
    have t1 := same_upd (o := .lst (k1.map (·.2))) m1
    have s2 := s1.trans t1
    refine ⟨_, rfl, .inr (.inr (.inl ⟨rfl, .inr ⟨k2, s2 _ _ h2⟩⟩)), d2, _, rfl, rfl, .inr ⟨k2, s2 _ _ h2, rfl⟩, fun p2 n2 => ?_⟩
    have s3 := same_upd (o := valsO p2 d2) n2
    refine ⟨p2, d2, _, rfl, upd_same, .inr ⟨k2, (s2.trans s3) _ _ h2, rfl⟩, fun a2 m2 => ?_⟩
    have t2 := same_upd (o := .lst (k2.map (·.2))) m2
    refine ⟨a1, a2, _, _, rfl, rfl, t2 _ _ (s3 _ _ upd_same), upd_same, by rw [l1, l2]; exact Nat.le_of_lt (small1000 (by omega)), fun L nL => ?_⟩
    have sL := same_upd (o := .lst (k1.map (·.2) ++ k2.map (·.2))) nL
    have s5 := s2.trans (s3.trans (t2.trans sL))
    have nLH : H L = none := (s2.trans (s3.trans t2)).free nL
    generalize hxs : k1.map (·.2) ++ k2.map (·.2) = xs at *
    have hLL : (upd (upd (upd (upd (upd H p1 (valsO p1 d1)) a1 (.lst (k1.map (·.2)))) p2 (valsO p2 d2)) a2 (.lst (k2.map (·.2)))) L (.lst xs)) L = some (.lst xs) := upd_same
    generalize (upd (upd (upd (upd (upd H p1 (valsO p1 d1)) a1 (.lst (k1.map (·.2)))) p2 (valsO p2 d2)) a2 (.lst (k2.map (·.2)))) L (.lst xs)) = H5 at s5 hLL
    refine ⟨L, rfl, ⟨_, SqL.of hLL⟩, for_it (walk_list (K := K) (a := L) (xs := xs)) (fun i σ H' => ∃ v2, σ = [some (.ref d1), some (.ref d2), v2] ∧ H' L = some (.lst xs) ∧ H' d1 = some (.dK k1) ∧ H' d2 = some (.dT k2) ∧ (∀ c u, ¬ Emp H d1 d2 xs c → H c = some u → H' c = some u) ∧ (∀ c ys, V.ref c ∈ xs → H c = some (.lst ys) → ∃ zs, H' c = some (.lst zs))) ⟨none, rfl, hLL, s5 _ _ h1, s5 _ _ h2, fun c u _ e => s5 _ _ e, fun c ys _ e => ⟨ys, s5 _ _ e⟩⟩ (fun i σ H' _ ⟨_, _, hl, _⟩ => SqL.of hl) ?_ ?_⟩
    · rintro i x σ H6 H7 hi ⟨v2, rfl, hl, hd1, hd2, hk', hls⟩ ⟨rfl, hx⟩
      have hxm := List.mem_of_getElem? hx
      obtain ⟨c, rfl, hc⟩ := hk x hxm
      rcases hc with ⟨ys, hc⟩ | ⟨ys, hc⟩
      · obtain ⟨zs, hz⟩ := hls c ys hxm hc
        refine ⟨_, rfl, _, .lst, _, rfl, AnyV.lst hz, by decide, _, rfl, iteT ?_⟩
        refine ⟨_, rfl, .inl ⟨rfl, _, SqL.of hz⟩, c, zs, rfl, rfl, hz, ?_⟩
        have hcL : c ≠ L := fun z => by rw [z, nLH] at hc; cases hc
        refine ⟨_, rfl, by rw [upd_ne hcL.symm]; exact hl, by rw [upd_ne (ne_of hd1 hz (by intro z; cases z))]; exact hd1, by rw [upd_ne (ne_of hd2 hz (by intro z; cases z))]; exact hd2, fun b u hb e => ?_, fun b us hb e => ?_⟩
        · have hbc : b ≠ c := fun z => by
            subst z
            exact hb (.inr (.inr ⟨hxm, ys, hc⟩))
          rw [upd_ne hbc]
          exact hk' _ _ hb e
        · by_cases hbc : b = c
          · exact ⟨_, by rw [hbc]; exact upd_same⟩
          · rw [upd_ne hbc]
            exact hls b us hb e
      · have hc6 : H7 c = some (.tup ys) := hk' c _ (fun z => by
          rcases z with rfl | rfl | ⟨_, us, e⟩
          · rw [h1] at hc
            cases hc
          · rw [h2] at hc
            cases hc
          · rw [e] at hc
            cases hc) hc
        exact ⟨_, rfl, _, .tup, _, rfl, AnyV.tup hc6, by decide, _, rfl, iteF ⟨_, rfl, hl, hd1, hd2, hk', hls⟩⟩
    · rintro σ H6 ⟨v2, rfl, hl, hd1, hd2, hk', hls⟩
      refine ⟨_, rfl, .inr (.inr (.inl ⟨rfl, .inl ⟨k1, hd1⟩⟩)), d1, k1, rfl, rfl, hd1, ?_⟩
      have hd12 : d2 ≠ d1 := fun z => by rw [z, h1] at h2; cases h2
      have hd2' : (upd H6 d1 (.dK [])) d2 = some (.dT k2) := by rw [upd_ne hd12]; exact hd2
      refine ⟨_, rfl, .inr (.inr (.inl ⟨rfl, .inr ⟨k2, hd2'⟩⟩)), d2, k2, rfl, rfl, hd2', ?_⟩
      refine q _ fun c u hc e => ?_
      rw [upd_ne (fun z => hc (.inr (.inl z))), upd_ne (fun z => hc (.inl z))]
      exact hk' _ _ hc e
end
end HG

namespace HG
open PySem PySem.Spec PyProof.Rows L2
open C8 (pss_cut tCut)
theorem mergeK_new : ∀ (more kvs : List (Key × V)), ((kvs ++ more).map (·.1)).Nodup → mergeK kvs more = kvs ++ more
  | [], kvs, _ => by
    rw [List.append_nil]
    rfl
  | r :: more, kvs, h => by
    have hn : r.1 ∉ kvs.map (·.1) := by
      rw [List.map_append, List.nodup_append] at h
      exact fun hm => h.2.2 r.1 hm r.1 (List.mem_map.mpr ⟨r, List.mem_cons_self, rfl⟩) rfl
    have step : mergeK kvs (r :: more) = mergeK (putK kvs r.1 r.2) more := rfl
    rw [step, putK_new hn]
    have := mergeK_new more (kvs ++ [(r.1, r.2)]) (by rw [List.append_assoc]; exact h)
    rw [this, List.append_assoc]
    rfl
/-- handed in: a list, new, or a tuple -/
def Hnd (H0 H : Hp) (v : V) (xs : List V) : Prop := ∃ a, v = .ref a ∧ ((H0 a = none ∧ H a = some (.lst xs)) ∨ H a = some (.tup xs))

def ShW (W : List Way) (q : Way) : Prop := ∃ q0 ∈ W, q0.1 = q.1 ∧ q.2.Perm q0.2
def PrW (H0 H : Hp) (D : Addr) (q : Way) (pr : Addr) : Prop := ∃ a, H pr = some (.tup [.str q.1, .ref a]) ∧ H0 a = none ∧ a ≠ D ∧ H a = some (.lst (q.2.map V.str))
theorem pr_dict {K : PySem.W.Frag} {H0 H : Hp} {D : Addr} {W1 : List Way} {prs : List Addr} (h : Paired (PrW H0 H D) W1 prs) : ∃ k1 : List (Key × V), Paired (fun (q : Way) kv => kv.1 = Sum.inr q.1 ∧ ∃ a, kv.2 = .ref a ∧ H0 a = none ∧ H a = some (.lst (q.2.map V.str))) W1 k1 ∧ Paired (fun p (kv : Key × V) => SqT K H p [kV kv.1, kv.2]) prs k1 ∧ k1.map (·.1) = (W1.map (·.1)).map Sum.inr := by
  induction h with
  | nil => exact ⟨[], .nil, .nil, rfl⟩
  | @cons q pr qs prs r _ ih =>
    obtain ⟨k1, h1, h2, h3⟩ := ih
    obtain ⟨a, hp, n, _, ha⟩ := r
    exact ⟨(Sum.inr q.1, .ref a) :: k1, .cons ⟨rfl, a, rfl, n, ha⟩ h1, .cons (SqT.of hp) h2, by rw [List.map_cons, List.map_cons, List.map_cons, h3]⟩
def KvH (H0 H : Hp) (q : Way) (kv : Key × V) : Prop := kv.1 = Sum.inr q.1 ∧ Hnd H0 H kv.2 (q.2.map V.str)
def EvH (H0 H : Hp) (e : Row) (kv : List L2.Key × V) : Prop := kv.1 = kS e.1 ∧ Hnd H0 H kv.2 (e.2.map V.int)
theorem keysH {H0 H : Hp} {W1 : List Way} {k1 : List (Key × V)} (h : Paired (KvH H0 H) W1 k1) : k1.map (·.1) = (W1.map (·.1)).map Sum.inr := by
  induction h with
  | nil => rfl
  | cons r _ ih => rw [List.map_cons, List.map_cons, List.map_cons, ih, r.1]
theorem h_at {H0 H : Hp} : ∀ {W1 : List Way} {k1 : List (Key × V)} {z : Str}, Paired (KvH H0 H) W1 k1 → z ∈ W1.map (·.1) → ∃ q ∈ W1, q.1 = z ∧ ∃ v, valV k1 (Sum.inr z) = some v ∧ Hnd H0 H v (q.2.map V.str)
  | _, _, _, .nil, h => nomatch h
  | q :: r, kv :: k1, z, .cons p t, h => by
    obtain ⟨e1, hv⟩ := p
    by_cases hx : q.1 = z
    · subst hx
      exact ⟨q, List.mem_cons_self, rfl, kv.2, valV_pos e1, hv⟩
    · have hm : z ∈ r.map (·.1) := by
        rw [List.map_cons] at h
        rcases List.mem_cons.mp h with h | h
        · exact absurd h.symm hx
        · exact h
      obtain ⟨q', h1, h2, v, h3, h4⟩ := h_at t hm
      refine ⟨q', List.mem_cons_of_mem _ h1, h2, v, ?_, h4⟩
      rw [valV_neg (fun e' => hx (Sum.inr.inj (e1.symm.trans e')))]
      exact h3
theorem h_put {H0 H H' : Hp} {W1 : List Way} {k1 : List (Key × V)} {z : Str} {pt : Addr} {xs : List V} (h : Paired (KvH H0 H) W1 k1) (nd : (W1.map (·.1)).Nodup) (hm : z ∈ W1.map (·.1)) (hq : ∀ q ∈ W1, q.1 = z → xs = q.2.map V.str) (hpt : H' pt = some (.tup xs)) (keep : ∀ v ys, Hnd H0 H v ys → Hnd H0 H' v ys) : Paired (KvH H0 H') W1 (putK k1 (Sum.inr z) (.ref pt)) := by
  have hin : (k1.any fun kv => decide (kv.1 = Sum.inr z)) = true := by
    obtain ⟨_, _, _, v, hv, _⟩ := h_at h hm
    rw [valV_any, hv]
    rfl
  unfold putK
  rw [if_pos hin]
  clear hin hm
  induction h with
  | nil => exact .nil
  | @cons q kv qs k1 r t ih =>
    rw [List.map_cons]
    rw [List.map_cons, List.nodup_cons] at nd
    refine .cons ?_ (ih nd.2 fun q' hq' => hq q' (List.mem_cons_of_mem _ hq'))
    by_cases hx : q.1 = z
    · rw [if_pos (by rw [r.1, hx])]
      refine ⟨r.1, pt, rfl, .inr ?_⟩
      rw [hpt, hq q List.mem_cons_self hx]
    · rw [if_neg fun e => hx (Sum.inr.inj (r.1.symm.trans e))]
      exact ⟨r.1, keep _ _ r.2⟩
theorem Hnd.but {H0 H H' : Hp} {b : Addr} {v : V} {xs : List V} (h : Hnd H0 H v xs) (kb : But b H H') (hb0 : H0 b ≠ none) (hb : ∃ ys, H b = some (.lst ys)) : Hnd H0 H' v xs := by
  obtain ⟨a, rfl, h⟩ := h
  refine ⟨a, rfl, h.imp (fun ⟨n, h⟩ => ⟨n, kb _ _ h fun z => hb0 (z ▸ n)⟩) (fun h => kb _ _ h fun z => ?_)⟩
  obtain ⟨ys, e⟩ := hb
  rw [z, e] at h
  cases h
theorem unlockB {H H' : Hp} {b d : Addr} {u o : HO} (hd : H d = some u) (s : But b (upd H d o) H') : But b H (upd H' d u) := fun c x e hc => by
  by_cases h : c = d
  · subst h
    rw [upd_same]
    exact hd.symm.trans e
  · rw [upd_ne h]
    exact s c x (by rw [upd_ne h]; exact e) hc

theorem paired_perm {α β : Type} {R : α → β → Prop} {bs cs : List β} (p : cs.Perm bs) : ∀ {es : List α}, Paired R es bs → ∃ es', es'.Perm es ∧ Paired R es' cs := by
  induction p with
  | nil => exact fun {es} h => ⟨es, .refl _, h⟩
  | cons x p ih =>
    intro es h
    cases h with
    | cons r t =>
      obtain ⟨es', h1, h2⟩ := ih t
      exact ⟨_, h1.cons _, .cons r h2⟩
  | swap x y l =>
    intro es h
    cases h with
    | cons r t =>
      cases t with
      | cons r2 t2 => exact ⟨_, .swap _ _ _, .cons r2 (.cons r t2)⟩
  | trans p1 p2 ih1 ih2 =>
    intro es h
    obtain ⟨e1, h1, h2⟩ := ih2 h
    obtain ⟨e2, h3, h4⟩ := ih1 h2
    exact ⟨e2, h3.trans h1, h4⟩
theorem refs_of_perm {ys : List V} {bs : List Addr} (h : ys.Perm (bs.map V.ref)) : ∃ cs : List Addr, ys = cs.map V.ref ∧ cs.Perm bs := by
  have key : ∀ {xs ys : List V}, ys.Perm xs → ∀ zs : List Addr, xs = zs.map V.ref → ∃ ws : List Addr, ys = ws.map V.ref ∧ ws.Perm zs := by
    intro xs ys h
    induction h with
    | nil => exact fun zs e => ⟨[], rfl, by cases zs with | nil => exact .nil | cons a r => cases e⟩
    | cons x p ih =>
      intro zs e
      cases zs with
      | nil => cases e
      | cons a r =>
        rw [List.map_cons, List.cons.injEq] at e
        obtain ⟨ws, e1, p1⟩ := ih r e.2
        exact ⟨a :: ws, by rw [e1, e.1]; rfl, p1.cons a⟩
    | swap x y l =>
      intro zs e
      match zs, e with
      | a :: c :: r, e =>
        rw [List.map_cons, List.map_cons, List.cons.injEq, List.cons.injEq] at e
        exact ⟨c :: a :: r, by rw [e.1, e.2.1, e.2.2]; rfl, List.Perm.swap a c r⟩
    | trans p1 p2 ih1 ih2 =>
      intro zs e
      obtain ⟨ws, e1, q1⟩ := ih2 zs e
      obtain ⟨us, e2, q2⟩ := ih1 ws e1
      exact ⟨us, e2, q2.trans q1⟩
  exact key h bs rfl
theorem keys_row {H : Hp} {es : List Row} {kvs : List (List L2.Key × V)} {bs : List Addr} (h : Paired (KvE H) es kvs) : L2.IsKeys H kvs bs → Paired (fun (e : Row) c => H c = some (.tup (e.1.map V.str))) es bs := by
  unfold L2.IsKeys
  intro q
  induction h generalizing bs with
  | nil =>
    cases q
    exact .nil
  | cons r _ ih =>
    cases q with
    | cons a t =>
      refine .cons ?_ (ih t)
      rw [← kS_v, ← r.1]
      exact a
theorem Hnd.upd {H0 H : Hp} {d : Addr} {o u : HO} {v : V} {xs : List V} (h : Hnd H0 H v xs) (hd : H d = some u) (h1 : ∀ ys, u ≠ .lst ys) (h2 : ∀ ys, u ≠ .tup ys) : Hnd H0 (upd H d o) v xs := by
  obtain ⟨a, rfl, h⟩ := h
  refine ⟨a, rfl, h.imp (fun ⟨n, h⟩ => ⟨n, ?_⟩) (fun h => ?_)⟩
  · rw [upd_ne (ne_of h hd fun z => h2 _ z.symm)]
    exact h
  · rw [upd_ne (ne_of h hd fun z => h1 _ z.symm)]
    exact h
def spHanded : Sp := fun args H Q _ => ∃ (b k d g : Addr) (ns : List Int) (W : List Way) (kvs : List (List L2.Key × V)) (es : List Row) (sts : List (List Str)), args = [.ref b, .ref d, .ref g] ∧ ABag H b k ns ∧ ShL (fun _ => True) H d W ∧ WOk W ∧ H g = some (.dT kvs) ∧ Paired (KvE H) es kvs ∧ es.map (·.1) = sts ∧ sts.Nodup ∧ sts.length ≤ 256 ∧
  ∀ H' T d1 d2 W1 k1 k2 es2, But b H H' → ABag H' b k ns → H' T = some (.tup [.ref d1, .ref d2]) → H d1 = none → H d2 = none → d1 ≠ d2 → H' d1 = some (.dK k1) → Paired (fun (q : Way) kv => kv.1 = Sum.inr q.1 ∧ Hnd H H' kv.2 (q.2.map V.str)) W1 k1 → (W1.map (·.1)).Perm (W.map (·.1)) → (∀ q ∈ W1, ∃ q0 ∈ W, q0.1 = q.1 ∧ q.2.Perm q0.2) →
    H' d2 = some (.dT k2) → Paired (fun (e : Row) kv => kv.1 = kS e.1 ∧ Hnd H H' kv.2 (e.2.map V.int)) es2 k2 → es2.Perm es → Q (.ref T) H'
section
variable {P : Program} {w : World} {K : PySem.W.Frag} {mg : Str → Option Value} {base : Heap}
variable {fT fO fM : Addr} {dT dO dM : FuncData}
theorem ok_handed {f : Addr} {fd : FuncData} (ml : mg "list" = none) (md : mg "dict" = none) (mt : mg "tuple" = none) (B : BT K mg fT fO dT dO) (M : MxT K mg fM dM) (F : Fun K "_law_handed" "_law_handed" s_law_handed f fd) : FnOk P w K mg base CX0 4 f fd ["_law_bag_here", "_law_ways", "_law_gains_here"] spHanded := by
  have S : FnScope ["_law_bag_here", "_law_ways", "_law_gains_here", "_law_chooser", "_law_first", "_law_some", "_law_second", "_law_standing"] ["_law_bag_here", "_law_ways", "_law_gains_here"] (defScope s_law_handed) := ⟨rfl, rfl, rfl, by decide +kernel, rfl, by decide +kernel, by decide +kernel⟩
  have nd := S.nd
  refine F.ok S (fun vs H Q E h => ?_) (fun cdv A outer s H vs Q E hr h => ?_)
  · obtain ⟨b, k, d, g, ns, W, kvs, es, sts, rfl, _⟩ := h
    rfl
  · obtain ⟨b, k, d, g, ns, W, kvs, es, sts, rfl, B0, hW, ok, hg, he, hks, snd, sl, q⟩ := h
    have hu := hu_of hr
    have hu64 : _ + 64 < cLine := hr.units
    have T := ok_take (P := P) (w := w) (base := base) B.T B.ml B.mi
    have MX := ok_mixed (P := P) (w := w) (base := base) B M.F
    refine ⟨_, pss_cons (ps_set (i := 4) nd rfl (Or.inl rfl) (pe_callTy (call_dictP rfl) (by rfl) md (by decide +kernel) (pa_cons
        (pe_lc (own := [("_law_chooser", 3)]) (g := gName 3) (tt := tYes) rfl nd (pi_list (pe_call MX (hr.mono (by decide)) (by rfl) M.g M.F.kp M.b .nil pass0 (pa_cons (pv 0) (pa_cons (pe_callTy (call_listD rfl) (by rfl) ml (by decide +kernel) (pa_cons (pv 1) pa_nil)) pa_nil)))) (blkOk_by (N := ["_law_bag_here", "_law_ways", "_law_gains_here", "_law_chooser", "_law_first", "_law_some", "_law_second", "_law_standing"]) (sc := defScope s_law_handed) (by decide +kernel)) (fun _ _ _ _ _ => pg_name (i := 3) nd rfl (Or.inl rfl)) (fun _ _ _ _ _ => pts_nil)
          (fun _ _ _ _ _ => pe_tup (pa_cons (pv 3) (pa_cons (pe_call MX (hr.mono (by decide)) (by rfl) M.g M.F.kp M.b .nil pass0 (pa_cons (pv 0) (pa_cons (pe_dget hu (pv 1) (pv 3) (fun _ _ => rfl)) pa_nil))) pa_nil)))) pa_nil)))
      (pss_cons (ps_lock (ps_setLc (i := 5) (own := [("_law_chooser", 3)]) (g := gName 3) rfl nd rfl rfl (sw_true rfl rfl rfl (by decide +kernel)) (pi_keys (pv 4)) (blkOk_by (N := ["_law_bag_here", "_law_ways", "_law_gains_here", "_law_chooser", "_law_first", "_law_some", "_law_second", "_law_standing"]) (sc := defScope s_law_handed) (by decide +kernel)) (fun _ _ _ _ _ => pg_name (i := 3) nd rfl (Or.inl rfl))
        (fun _ _ _ _ _ => pts_one (pt_cmpR op_eq (pe_call T (hr.mono (by decide)) (by rfl) B.gT B.T.kp B.bT .nil pass0 (pa_cons (pv 0) (pa_cons pe_int pa_nil))) pe_int (nomark _))) (fun _ _ _ _ _ => pv 3)))
      (pss_cons (ps_for PassesOwn.never rfl (pi_list (pv 5)) (pg_name (i := 3) nd rfl (Or.inl rfl))
        (pss_one (ps_dput hu (pv 4) (pv 3) (pe_callTy call_tup (by rfl) mt (by decide +kernel) (pa_cons (pe_dget hu (pv 4) (pv 3) (fun _ _ => rfl)) pa_nil)) rfl)))
      (pss_cons (ps_set (i := 6) nd rfl (Or.inl rfl) pe_dnewT)
      (pss_cons (ps_for PassesOwn.never rfl (pi_list (pe_call MX (hr.mono (by decide)) (by rfl) M.g M.F.kp M.b .nil pass0 (pa_cons (pv 0) (pa_cons (pe_callTy (call_list_dT rfl) (by rfl) ml (by decide +kernel) (pa_cons (pv 2) pa_nil)) pa_nil)))) (pg_name (i := 7) nd rfl (Or.inl rfl))
        (pss_one (ps_dput hu (pv 6) (pv 7) (pe_ifExp (pt_cmpR op_eq (pe_call T (hr.mono (by decide)) (by rfl) B.gT B.T.kp B.bT .nil pass0 (pa_cons (pv 0) (pa_cons pe_int pa_nil))) pe_int (nomark _)) (pe_callTy call_list_of (by rfl) ml (by decide +kernel) (pa_cons (pe_dget hu (pv 2) (pv 7) (fun _ _ => rfl)) pa_nil)) (pe_dget hu (pv 2) (pv 7) (fun _ _ => rfl))) rfl)))
      (pss_one (ps_ret (pe_tup (pa_cons (pv 4) (pa_cons (pv 6) pa_nil))))))))), ?_⟩
    have hb0 : H b ≠ none := fun z => by
      obtain ⟨xs, e⟩ := abag_ne B0
      rw [e] at z
      cases z
    obtain ⟨kw, hkw, pkw⟩ := id hW
    have hlist : (kw.map fun kv => kV kv.1) = (W.map (·.1)).map V.str := paired_keys (paired_imp pkw fun _ _ q => q.at)
    refine ⟨_, rfl, _, rfl, d, kw, rfl, .inl hkw, fun p0 np0 => ?_⟩
    rw [hlist]
    have s0 := same_upd (o := .lst ((W.map (·.1)).map V.str)) np0
    refine ⟨b, k, p0, ns, _, rfl, B0.same s0, SqL.of upd_same, abag_not B0 np0, by rw [List.length_map, List.length_map]; have := ok.n4; omega, fun H1 l ys kb1 B1 nl hl hp => ?_⟩
    obtain ⟨ws, rfl, hws⟩ := strs_of_perm hp
    have kb01 : But b H H1 := (But.of s0).trans kb1
    have wnd : ws.Nodup := hws.nodup_iff.mpr ok.nd
    have wl : ws.length = W.length := by rw [hws.length_eq, List.length_map]
    have hn4 := ok.n4
    refine ⟨l, rfl, ⟨_, SqL.of hl⟩, fun D nD => ?_⟩
    have sD := same_upd (o := .lst []) nD
    have nDH : H D = none := but_free kb01 B1 nD
    have nlH : H l = none := s0.free nl
    have hDb : D ≠ b := abag_not B1 nD
    have hlD : l ≠ D := fun z => by rw [z, nD] at hl; cases hl
    refine lc_it (walk_list (K := K) (a := l) (xs := ws.map V.str)) (fun i H' => ∃ prs W1, H' D = some (.lst (prs.map V.ref)) ∧ Paired (PrW H H' D) W1 prs ∧ W1.map (·.1) = ws.take i ∧ (∀ q ∈ W1, ShW W q) ∧ But b H H' ∧ ABag H' b k ns ∧ H' l = some (.lst (ws.map V.str))) ⟨[], [], upd_same, .nil, rfl, (fun _ h => nomatch h), kb01.trans (But.of sD), B1.same sD, sD _ _ hl⟩ (fun i H' _ ⟨_, _, _, _, _, _, _, _, hl'⟩ => SqL.of hl') ?_ ?_
    · rintro i x H2 H3 hi ⟨prs, W1, hD, hpr, hkeys, hsh, kb3, B3, hl3⟩ ⟨rfl, hx⟩
      rw [List.getElem?_map] at hx
      obtain ⟨z, hz, rfl⟩ := Option.map_eq_some_iff.mp hx
      have hzm : z ∈ W.map (·.1) := hws.mem_iff.mp (List.mem_of_getElem? hz)
      obtain ⟨q0, hq0, rfl⟩ := List.mem_map.mp hzm
      have hW3 := hW.but B0 ok.w1 kb3
      obtain ⟨kw3, hkw3, pkw3⟩ := id hW3
      obtain ⟨pa, hpa, _, hpl⟩ := way_at pkw3 ok.nd hq0
      have hpab : pa ≠ b := fun e => by
        obtain ⟨a0, c0, n0, B⟩ := B3
        rw [e, B.at_] at hpl
        have h1 := ok.w1 q0 hq0
        cases hq2 : q0.2 with
        | nil => rw [hq2] at h1; exact absurd h1 (by decide)
        | cons y r =>
          rw [hq2] at hpl
          injection hpl with e1
          injection e1 with e2
          injection e2 with e3
          cases e3
      refine ⟨rfl, _, rfl, _, rfl, _, rfl, _, rfl, d, _, rfl, (by rw [← hpa]; exact DGet.k (k := Sum.inr q0.1) hkw3), b, k, pa, ns, _, rfl, B3, SqL.of hpl, hpab, by rw [List.length_map]; have := ok.w4 q0 hq0; omega, fun H4 l2 ys2 kb4 B4 nl2 hl2 hp2 => ?_⟩
      obtain ⟨ws2, rfl, hws2⟩ := strs_of_perm hp2
      refine ⟨(by show 2 ≤ sizeLine; decide), fun pt npt => ?_⟩
      have spt := same_upd (o := .tup [V.str q0.1, .ref l2]) npt
      have hD5 := spt _ _ (kb4 _ _ hD hDb)
      have hpl2 : prs.length < 100 := by
        have h1 := Paired.length hpr
        have h2 := congrArg List.length hkeys
        rw [List.length_map, List.length_take] at h2
        omega
      have hl2D : l2 ≠ D := fun e => by rw [e, hD] at nl2; cases nl2
      have nl2H : H l2 = none := but_free kb3 B3 nl2
      have tb : ∀ c zs, H3 c = some (.tup zs) → (upd H4 pt (.tup [V.str q0.1, .ref l2])) c = some (.tup zs) := fun c zs e => spt _ _ (kb4 _ _ e fun z => by
        obtain ⟨xs, e2⟩ := abag_ne B3
        rw [z, e2] at e
        cases e)
      refine ⟨_, hD5, by rw [List.length_map]; exact small1000 (by omega), prs ++ [pt], W1 ++ [(q0.1, ws2)], by rw [upd_same, List.map_append]; rfl, ?_, ?_, ?_, ?_, ?_, ?_⟩
      · refine paired_append (paired_imp hpr fun q pr ⟨a, h1, n, aD, h2⟩ => ⟨a, ?_, n, aD, ?_⟩) (.cons ⟨l2, ?_, nl2H, hl2D, ?_⟩ .nil)
        · rw [upd_ne (ne_of (tb _ _ h1) hD5 (by intro z; cases z))]
          exact tb _ _ h1
        · rw [upd_ne aD]
          exact spt _ _ (kb4 _ _ h2 (abag_not B0 n))
        · rw [upd_ne (ne_of upd_same hD5 (by intro z; cases z))]
          exact upd_same
        · rw [upd_ne hl2D]
          exact spt _ _ hl2
      · rw [List.map_append, hkeys, List.take_add_one, hz]
        rfl
      · intro q hq
        rcases List.mem_append.mp hq with hq | hq
        · exact hsh q hq
        · rw [List.mem_singleton.mp hq]
          exact ⟨q0, hq0, rfl, hws2⟩
      · exact (fun c u e hc => by
          rw [upd_ne (ne_of_none e nDH)]
          exact spt _ _ (kb4 _ _ (kb3 _ _ e hc) hc))
      · refine abag_upd (B4.same spt) hDb fun z => ?_
        rw [z, abag_k B0] at nDH
        cases nDH
      · rw [upd_ne hlD]
        exact spt _ _ (kb4 _ _ hl3 (abag_not B0 nlH))
    · rintro H3 ⟨prs, W1, hD, hpr, hkeys, hsh, kb3, B3, hl3⟩
      rw [List.length_map, List.take_length] at hkeys
      obtain ⟨k1, hk1, hsq, hkk⟩ := pr_dict (K := K) hpr
      have w1nd : (W1.map (·.1)).Nodup := by rw [hkeys]; exact wnd
      have w1p : (W1.map (·.1)).Perm (W.map (·.1)) := by rw [hkeys]; exact hws
      refine ⟨D, prs, k1, rfl, SqL.of hD, hsq, fun d1 nd1 => ?_⟩
      rw [mergeK_new k1 [] (by rw [List.nil_append, hkk, List.Nodup, List.pairwise_map]; exact List.Pairwise.imp (fun {x y} hne e => hne (Sum.inr.inj e)) w1nd), List.nil_append]
      have s4 := same_upd (o := .dK k1) nd1
      have kb4 : But b H (upd H3 d1 (.dK k1)) := kb3.trans (But.of s4)
      have B4 := B3.same s4
      have nd1H : H d1 = none := but_free kb3 B3 nd1
      have hd4 : (upd H3 d1 (.dK k1)) d1 = some (.dK k1) := upd_same
      have hk4 : Paired (KvH H (upd H3 d1 (.dK k1))) W1 k1 := paired_imp hk1 fun q kv ⟨e, a, ev, n, h⟩ => ⟨e, a, ev, .inl ⟨n, s4 _ _ h⟩⟩
      generalize (upd H3 d1 (.dK k1)) = H4 at kb4 B4 hd4 hk4
      have hd1b : d1 ≠ b := abag_not B0 nd1H
      have hd1k : d1 ≠ k := fun z => by rw [z, abag_k B0] at nd1H; cases nd1H
      have w1l : W1.length ≤ 4 := by
        have := congrArg List.length hkeys
        rw [List.length_map] at this
        omega
      have k1l : k1.length ≤ 4 := by
        rw [← Paired.length hk4]
        exact w1l
      -- the choosers whose ways become a tuple
      refine ⟨d1, .dK k1, hd4, trivial, fun od => ?_⟩
      have hLd : (upd H4 d1 (.frz od (.dK k1))) d1 = some (.frz od (.dK k1)) := upd_same
      have BL : ABag (upd H4 d1 (.frz od (.dK k1))) b k ns := abag_upd B4 hd1b hd1k
      have back : ∀ H', But b (upd H4 d1 (.frz od (.dK k1))) H' → But b H4 (upd H' d1 (.dK k1)) := fun H' h => unlockB hd4 h
      have nLf : ∀ c, (upd H4 d1 (.frz od (.dK k1))) c = none → H4 c = none := fun c h => by
        by_cases hc : c = d1
        · rw [hc, upd_same] at h
          cases h
        · rwa [upd_ne hc] at h
      generalize (upd H4 d1 (.frz od (.dK k1))) = HL at hLd BL back nLf
      refine ⟨_, rfl, d1, od, rfl, .inl ⟨k1, hLd, fun D2 nD2 => ?_⟩⟩
      have sD2 := same_upd (o := .lst []) nD2
      have hD2b : D2 ≠ b := abag_not BL nD2
      have hD2k : D2 ≠ k := fun z => by rw [z, abag_k BL] at nD2; cases nD2
      have nD24 := nLf _ nD2
      have hD2d : D2 ≠ d1 := fun z => by rw [z, hLd] at nD2; cases nD2
      refine lc_it walk_keys (fun i H' => ∃ zs : List Str, H' D2 = some (.lst (zs.map V.str)) ∧ (∀ z ∈ zs, z ∈ W1.map (·.1)) ∧ zs.length ≤ i ∧ But b HL H' ∧ ABag H' b k ns ∧ H' d1 = some (.frz od (.dK k1))) ⟨[], upd_same, (fun _ h => nomatch h), Nat.le_refl _, But.of sD2, BL.same sD2, sD2 _ _ hLd⟩ (fun i H' _ ⟨_, _, _, _, _, _, h⟩ => h) ?_ ?_
      · rintro i x H5 H6 hi ⟨zs, hD2, hzs, hzl, kb5, B5, hd5⟩ ⟨rfl, kk, v0, hk0, rfl⟩
        obtain ⟨qw, hqw, ek, _⟩ := paired_get hk4 hk0
        cases ek
        refine ⟨rfl, _, rfl, b, k, ns, _, rfl, B5, by decide, by decide, fun H7 dd kb7 B7 e0 e1 => ⟨rfl, _, rfl, ?_⟩⟩
        have hD7 := kb7 _ _ hD2 hD2b
        have hd7 := kb7 _ _ hd5 hd1b
        cases decide (V.int dd = V.int 0) with
        | false => exact iteF ⟨zs, hD7, hzs, Nat.le_succ_of_le hzl, kb5.trans kb7, B7, hd7⟩
        | true =>
          refine iteT ⟨_, rfl, _, hD7, by rw [List.length_map]; exact small1000 (by omega), zs ++ [qw.1], by rw [upd_same, List.map_append]; rfl, fun z hz => ?_, by rw [List.length_append, List.length_singleton]; omega, fun c u e hc => ?_, abag_upd B7 hD2b hD2k, by rw [upd_ne hD2d.symm]; exact hd7⟩
          · rcases List.mem_append.mp hz with hz | hz
            · exact hzs z hz
            · rw [List.mem_singleton.mp hz]
              exact List.mem_map.mpr ⟨qw, List.mem_of_getElem? hqw, rfl⟩
          · rw [upd_ne (ne_of_none e nD2)]
            exact kb7 _ _ (kb5 _ _ e hc) hc
      · rintro H5 ⟨zs, hD2, hzs, hzl, kb5, B5, hd5⟩
        refine ⟨hd5, ?_⟩
        have kbU := back H5 kb5
        have BU : ABag (upd H5 d1 (.dK k1)) b k ns := abag_upd B5 hd1b hd1k
        have hDU : (upd H5 d1 (.dK k1)) D2 = some (.lst (zs.map V.str)) := by rw [upd_ne hD2d]; exact hD2
        have hdU : (upd H5 d1 (.dK k1)) d1 = some (.dK k1) := upd_same
        generalize (upd H5 d1 (.dK k1)) = HU at kbU BU hDU hdU
        have kbHU := kb4.trans kbU
        have hkU : Paired (KvH H HU) W1 k1 := paired_imp hk4 fun q kv ⟨e, h⟩ => ⟨e, h.but kbU hb0 (abag_ne B4)⟩
        have nD2H : H D2 = none := but_free kb4 B4 nD24
        have k1lU : k1.length = W1.length := (Paired.length hkU).symm
        refine ⟨_, rfl, D2, rfl, ⟨_, SqL.of hDU⟩, for_it (walk_list (K := K) (a := D2) (xs := zs.map V.str)) (fun i σ H' => ∃ k1' v3, σ = [some (.ref b), some (.ref d), some (.ref g), v3, some (.ref d1), some (.ref D2), none, none] ∧ But b H H' ∧ ABag H' b k ns ∧ H' d1 = some (.dK k1') ∧ Paired (KvH H H') W1 k1' ∧ H' D2 = some (.lst (zs.map V.str))) ⟨k1, none, rfl, kbHU, BU, hdU, hkU, hDU⟩ (fun i σ H' _ ⟨_, _, _, _, _, _, _, h⟩ => SqL.of h) ?_ ?_⟩
        · rintro i x σ H6 H7 hi ⟨k1', v3, rfl, kb6, B6, hd6, hk6, hD6⟩ ⟨rfl, hx⟩
          rw [List.getElem?_map] at hx
          obtain ⟨z, hz, rfl⟩ := Option.map_eq_some_iff.mp hx
          have hzm := hzs z (List.mem_of_getElem? hz)
          obtain ⟨qw, hqw, rfl, v, hv, a, rfl, hc⟩ := h_at hk6 hzm
          have k1'l : k1'.length ≤ 4 := by rw [← Paired.length hk6]; exact w1l
          have uniq : ∀ q ∈ W1, q.1 = qw.1 → q = qw := fun q hq e => by
            obtain ⟨j1, g1, f1⟩ := List.getElem_of_mem hq
            obtain ⟨j2, g2, f2⟩ := List.getElem_of_mem hqw
            have h1 : (W1.map (·.1))[j1]'(by rw [List.length_map]; exact g1) = (W1.map (·.1))[j2]'(by rw [List.length_map]; exact g2) := by
              rw [List.getElem_map, List.getElem_map, f1, f2, e]
            have := (List.getElem_inj w1nd).mp h1
            subst this
            exact f1.symm.trans f2
          have nxt : ∀ HF pt, Same H7 HF → HF pt = some (.tup (qw.2.map V.str)) → But b H (upd HF d1 (.dK (putK k1' (Sum.inr qw.1) (.ref pt)))) ∧ ABag (upd HF d1 (.dK (putK k1' (Sum.inr qw.1) (.ref pt)))) b k ns ∧ Paired (KvH H (upd HF d1 (.dK (putK k1' (Sum.inr qw.1) (.ref pt))))) W1 (putK k1' (Sum.inr qw.1) (.ref pt)) ∧ (upd HF d1 (.dK (putK k1' (Sum.inr qw.1) (.ref pt)))) D2 = some (.lst (zs.map V.str)) := fun HF pt sF hpt => by
            have hdF := sF _ _ hd6
            refine ⟨fun c u e hcb => ?_, abag_upd (B6.same sF) hd1b hd1k, ?_, ?_⟩
            · rw [upd_ne (ne_of_none e nd1H)]
              exact sF _ _ (kb6 _ _ e hcb)
            · refine h_put hk6 w1nd hzm (fun q hq e => by rw [uniq q hq e]) (by rw [upd_ne (ne_of hpt hdF (by intro z; cases z))]; exact hpt) fun v ys ⟨a, ev, h⟩ => ?_
              have h' : Hnd H HF v ys := ⟨a, ev, h.imp (fun ⟨n, h⟩ => ⟨n, sF _ _ h⟩) (fun h => sF _ _ h)⟩
              exact h'.upd hdF (by intro _ z; cases z) (by intro _ z; cases z)
            · rw [upd_ne hD2d]
              exact sF _ _ hD6
          refine ⟨_, rfl, _, rfl, d1, _, rfl, (by rw [← hv]; exact DGet.k (k := Sum.inr qw.1) hd6), a, qw.2.map V.str, rfl, ?_⟩
          rcases hc with ⟨_, hc⟩ | hc
          · refine .inl ⟨SqL.of hc, fun pt npt => ?_⟩
            obtain ⟨n1, n2, n3, n4⟩ := nxt _ pt (same_upd npt) upd_same
            exact ⟨_, rfl, _, rfl, d1, _, rfl, DPut.k (k := Sum.inr qw.1) (same_upd npt _ _ hd6) (small1000 (by omega)), _, _, rfl, n1, n2, upd_same, n3, n4⟩
          · refine .inr ⟨SqT.of hc, ?_⟩
            obtain ⟨n1, n2, n3, n4⟩ := nxt _ a (Same.refl _) hc
            exact ⟨_, rfl, _, rfl, d1, _, rfl, DPut.k (k := Sum.inr qw.1) hd6 (small1000 (by omega)), _, _, rfl, n1, n2, upd_same, n3, n4⟩
        · rintro σ H6 ⟨k1', v3, rfl, kb6, B6, hd6, hk6, hD6⟩
          refine fun d2 nd2 => ?_
          have s8 := same_upd (o := .dT []) nd2
          have hgb : g ≠ b := fun z => by
            obtain ⟨xs, e⟩ := abag_ne B0
            rw [z, e] at hg
            cases hg
          have nd2H : H d2 = none := but_free kb6 B6 nd2
          have hd2b : d2 ≠ b := abag_not B0 nd2H
          have hd2k : d2 ≠ k := fun z => by rw [z, abag_k B0] at nd2H; cases nd2H
          have hd12 : d1 ≠ d2 := fun z => by rw [← z, hd6] at nd2; cases nd2
          have tb : ∀ {Hy : Hp}, But b H Hy → ∀ c ys, H c = some (.tup ys) → Hy c = some (.tup ys) := fun kb c ys e => kb _ _ e (fun z => by
            obtain ⟨xs, e2⟩ := abag_ne B0
            rw [z, e2] at e
            cases e)
          have kb8 : But b H (upd H6 d2 (.dT [])) := kb6.trans (But.of s8)
          have B8 := B6.same s8
          have hg8 := kb8 _ _ hg hgb
          have he8 : Paired (KvE (upd H6 d2 (.dT []))) es kvs := paired_imp he fun _ _ h => h.tups (tb kb8)
          have hd28 : (upd H6 d2 (.dT [])) d2 = some (.dT []) := upd_same
          have hd18 := s8 _ _ hd6
          have hk8 : Paired (KvH H (upd H6 d2 (.dT []))) W1 k1' := paired_imp hk6 fun q kv ⟨e, h⟩ => ⟨e, h.but (But.of s8) hb0 (abag_ne B6)⟩
          generalize (upd H6 d2 (.dT [])) = H8 at kb8 B8 hg8 he8 hd28 hd18 hk8
          refine ⟨_, rfl, _, rfl, g, kvs, rfl, .inl hg8, fun p bs np hbs => ?_⟩
          have sp := same_upd (o := .lst (bs.map V.ref)) np
          have rows := keys_row he8 hbs
          have bl : bs.length ≤ 256 := by
            rw [← Paired.length rows]
            have := congrArg List.length hks
            rw [List.length_map] at this
            omega
          refine ⟨b, k, p, ns, _, rfl, B8.same sp, SqL.of upd_same, abag_not B8 np, by rw [List.length_map]; exact bl, fun H9 l9 ys9 kb9 B9 nl9 hl9 hp9 => ?_⟩
          obtain ⟨cs, rfl, hcp⟩ := refs_of_perm hp9
          obtain ⟨es', hesp, hcs⟩ := paired_perm hcp rows
          have kb89 : But b H8 H9 := (But.of sp).trans kb9
          have nl9H : H l9 = none := but_free kb8 B8 (sp.free nl9)
          have hl9b : l9 ≠ b := abag_not B0 nl9H
          have hd1l : l9 ≠ d1 := fun z => by
            have := sp _ _ hd18
            rw [← z, nl9] at this
            cases this
          have hd2l : l9 ≠ d2 := fun z => by
            have := sp _ _ hd28
            rw [← z, nl9] at this
            cases this
          have hcl : es'.length = cs.length := Paired.length hcs
          have esnd : (es'.map (·.1)).Nodup := (hesp.map _).nodup_iff.mpr (by rw [hks]; exact snd)
          have csl : cs.length ≤ 256 := by rw [hcp.length_eq]; exact bl
          have tb8 : ∀ {Hy : Hp}, But b H8 Hy → ∀ c ys, H8 c = some (.tup ys) → Hy c = some (.tup ys) := fun kb c ys e => kb _ _ e (fun z => by
            obtain ⟨xs, e2⟩ := abag_ne B8
            rw [z, e2] at e
            cases e)
          refine ⟨l9, rfl, ⟨_, SqL.of hl9⟩, for_it (walk_list (K := K) (a := l9) (xs := cs.map V.ref)) (fun i σ H' => ∃ k2 v7, σ = [some (.ref b), some (.ref d), some (.ref g), v3, some (.ref d1), some (.ref D2), some (.ref d2), v7] ∧ But b H H' ∧ (∀ c ys, H8 c = some (.tup ys) → H' c = some (.tup ys)) ∧ ABag H' b k ns ∧ H' d1 = some (.dK k1') ∧ Paired (KvH H H') W1 k1' ∧ H' d2 = some (.dT k2) ∧ Paired (EvH H H') (es'.take i) k2 ∧ H' l9 = some (.lst (cs.map V.ref))) ?_ ?_ ?_ ?_⟩
          · exact ⟨[], none, rfl, kb8.trans kb89, tb8 kb89, B9, kb89 _ _ hd18 hd1b, paired_imp hk8 fun q kv ⟨e, h⟩ => ⟨e, h.but kb89 hb0 (abag_ne B8)⟩, kb89 _ _ hd28 hd2b, .nil, hl9⟩
          · exact fun i σ H' _ ⟨_, _, _, _, _, _, _, _, _, _, h⟩ => SqL.of h
          · rintro i x σ Ha Hb hi ⟨k2, v7, rfl, kba, ta, Ba, hda, hka, h2a, hea, hla⟩ ⟨rfl, hx⟩
            rw [List.getElem?_map] at hx
            obtain ⟨c, hcx, rfl⟩ := Option.map_eq_some_iff.mp hx
            obtain ⟨e, hei, hc8⟩ := paired_get hcs hcx
            have hee : e ∈ es' := List.mem_of_getElem? hei
            obtain ⟨e0, he0, e01, pa, hv, hpa⟩ := row_at he8 (List.mem_map.mpr ⟨e, hesp.mem_iff.mp hee, rfl⟩)
            have e0e : e0 = e := by
              obtain ⟨j1, g1, f1⟩ := List.getElem_of_mem (hesp.mem_iff.mpr he0)
              obtain ⟨j2, g2, f2⟩ := List.getElem_of_mem hee
              have h1 : (es'.map (·.1))[j1]'(by rw [List.length_map]; exact g1) = (es'.map (·.1))[j2]'(by rw [List.length_map]; exact g2) := by
                rw [List.getElem_map, List.getElem_map, f1, f2, e01]
              have := (List.getElem_inj esnd).mp h1
              subst this
              exact f1.symm.trans f2
            subst e0e
            have k2l : k2.length = i := by
              rw [← Paired.length hea, List.length_take]
              have := (List.getElem?_eq_some_iff.mp hei).1
              omega
            have hnew : kS e0.1 ∉ k2.map (·.1) := by
              have keys : ∀ {l : List Row} {kv : List (List L2.Key × V)}, Paired (EvH H Hb) l kv → kv.map (·.1) = (l.map (·.1)).map kS := by
                intro l kv h
                induction h with
                | nil => rfl
                | cons r _ ih => rw [List.map_cons, List.map_cons, List.map_cons, ih, r.1]
              rw [keys hea]
              intro hm
              obtain ⟨y, hy, ey⟩ := List.mem_map.mp hm
              have ey' : y = e0.1 := by
                have := congrArg (List.map kV) ey
                rw [kS_v, kS_v] at this
                exact List.map_inj_right (fun _ _ h => V.str.inj h) |>.mp this
              rw [ey', List.map_take] at hy
              exact not_take esnd (by rw [List.getElem?_map, hei]; rfl) hy
            have nxt : ∀ (HF : Hp) (v : V), But b Hb HF → ABag HF b k ns → Hnd H HF v (e0.2.map V.int) → But b H (upd HF d2 (.dT (k2 ++ [(kS e0.1, v)]))) ∧ (∀ c ys, H8 c = some (.tup ys) → (upd HF d2 (.dT (k2 ++ [(kS e0.1, v)]))) c = some (.tup ys)) ∧ ABag (upd HF d2 (.dT (k2 ++ [(kS e0.1, v)]))) b k ns ∧ (upd HF d2 (.dT (k2 ++ [(kS e0.1, v)]))) d1 = some (.dK k1') ∧ Paired (KvH H (upd HF d2 (.dT (k2 ++ [(kS e0.1, v)])))) W1 k1' ∧ Paired (EvH H (upd HF d2 (.dT (k2 ++ [(kS e0.1, v)])))) (es'.take (i + 1)) (k2 ++ [(kS e0.1, v)]) ∧ (upd HF d2 (.dT (k2 ++ [(kS e0.1, v)]))) l9 = some (.lst (cs.map V.ref)) := fun HF v kF BF hh => by
              have h2F := kF _ _ h2a hd2b
              have step2 : ∀ v ys w', Hnd H Hb v ys → Hnd H (upd HF d2 (.dT (k2 ++ [(kS e0.1, w')]))) v ys := fun v ys w' h => (h.but kF hb0 (abag_ne Ba)).upd h2F (by intro _ z; cases z) (by intro _ z; cases z)
              have tF : ∀ c ys, Hb c = some (.tup ys) → HF c = some (.tup ys) := fun c ys e => kF _ _ e (fun z => by
                obtain ⟨xs, e2⟩ := abag_ne Ba
                rw [z, e2] at e
                cases e)
              refine ⟨fun c u e hcb => ?_, fun c ys e => ?_, abag_upd BF hd2b hd2k, ?_, paired_imp hka fun q kv ⟨e, h⟩ => ⟨e, step2 _ _ _ h⟩, ?_, ?_⟩
              · rw [upd_ne (ne_of_none e nd2H)]
                exact kF _ _ (kba _ _ e hcb) hcb
              · rw [upd_ne (ne_of (tF _ _ (ta _ _ e)) h2F (by intro z; cases z))]
                exact tF _ _ (ta _ _ e)
              · rw [upd_ne hd12]
                exact kF _ _ hda hd1b
              · rw [List.take_add_one, hei]
                exact paired_append (paired_imp hea fun q kv ⟨e, h⟩ => ⟨e, step2 _ _ _ h⟩) (.cons ⟨rfl, hh.upd h2F (by intro _ z; cases z) (by intro _ z; cases z)⟩ .nil)
              · rw [upd_ne hd2l]
                exact kF _ _ hla hl9b
            refine ⟨_, rfl, b, k, ns, _, rfl, Ba, by decide, by decide, fun HF dd kF BF f0 f1 => ⟨rfl, _, rfl, ?_⟩⟩
            have tF : ∀ c ys, Hb c = some (.tup ys) → HF c = some (.tup ys) := fun c ys e => kF _ _ e (fun z => by
              obtain ⟨xs, e2⟩ := abag_ne Ba
              rw [z, e2] at e
              cases e)
            have hgF := kF _ _ (kba _ _ hg hgb) hgb
            have hcF := tF _ _ (ta _ _ hc8)
            have hpaF := tF _ _ (ta _ _ hpa)
            have h2F := kF _ _ h2a hd2b
            have hget : DGet HF g (.ref c) (some (.ref pa)) := by
              rw [← hv]
              exact DGet.t (k := kS e0.1) hgF (by rw [kS_v]; exact hcF)
            have ile : k2.length ≤ 1000 := by
              have := (List.getElem?_eq_some_iff.mp hei).1
              omega
            cases decide (V.int dd = V.int 0) with
            | true =>
              refine iteT ⟨_, rfl, _, rfl, g, _, rfl, hget, pa, _, rfl, .inr (SqT.of hpaF), fun ln nln => ?_⟩
              have sln := same_upd (o := .lst (e0.2.map V.int)) nln
              have nlnH : H ln = none := but_free (kba.trans kF) BF nln
              obtain ⟨n1, n2, n3, n4, n5, n6, n7⟩ := nxt _ (.ref ln) (kF.trans (But.of sln)) (BF.same sln) ⟨ln, rfl, .inl ⟨nlnH, upd_same⟩⟩
              refine ⟨_, rfl, _, rfl, d2, _, rfl, DPut.t (k := kS e0.1) (sln _ _ h2F) (by rw [kS_v]; exact sln _ _ hcF) (small1000 ile), ?_⟩
              rw [putK_new hnew]
              exact ⟨_, _, rfl, n1, n2, n3, n4, n5, upd_same, n6, n7⟩
            | false =>
              obtain ⟨n1, n2, n3, n4, n5, n6, n7⟩ := nxt _ (.ref pa) kF BF ⟨pa, rfl, .inr hpaF⟩
              refine iteF ⟨_, rfl, _, rfl, g, _, rfl, hget, _, rfl, _, rfl, d2, _, rfl, DPut.t (k := kS e0.1) h2F (by rw [kS_v]; exact hcF) (small1000 ile), ?_⟩
              rw [putK_new hnew]
              exact ⟨_, _, rfl, n1, n2, n3, n4, n5, upd_same, n6, n7⟩
          · rintro σ Hb ⟨k2, v7, rfl, kba, ta, Ba, hda, hka, h2a, hea, hla⟩
            rw [List.length_map, ← hcl, List.take_length] at hea
            refine ⟨_, rfl, _, rfl, (by show 2 ≤ sizeLine; decide), fun T nT => ?_⟩
            have sT := same_upd (o := .tup [.ref d1, .ref d2]) nT
            refine q _ T d1 d2 W1 k1' k2 es' (kba.trans (But.of sT)) (Ba.same sT) upd_same nd1H nd2H hd12 (sT _ _ hda) (paired_imp hka fun q kv ⟨e, h⟩ => ⟨e, h.but (But.of sT) hb0 (abag_ne Ba)⟩) w1p hsh (sT _ _ h2a) (paired_imp hea fun q kv ⟨e, h⟩ => ⟨e, h.but (But.of sT) hb0 (abag_ne Ba)⟩) hesp
end
end HG

namespace HG
open PySem PySem.Spec PyProof.Rows L2 HT
section
variable {prog : Program} {w : World} {A : Around} {E : Value → Shared → Prop} {s : Shared}
theorem sliceApplied_rev {sl : Addr} {vk : Value} {n : Nat} {Q : Int × Int × Nat → Shared → Prop} (hs : s.heap.IsSliceOf sl .none .none vk) (pk : IsPart vk (some (-1)))
    (h : Q ((n : Int) - 1, -1, n) s) : wpAny (model prog w) A (Builtin.Slice.sliceApplied (.ref sl) (pure (n : Int))) Q E s := by
  obtain ⟨os, hos, hcs, hds⟩ := id hs
  unfold Builtin.Slice.sliceApplied Builtin.Slice.sliceFields
  refine wpAny_bind (wpAny_bind (wpAny_field hos hds (x := .none) rfl (wpAny_bind (wpAny_field hos hds (x := .none) rfl (wpAny_bind (wpAny_field hos hds (x := vk) rfl (wpAny_pure ?_)))))))
  refine wpAny_bind (slicePart_ pk ?_)
  show wpAny _ _ (if ((-1 : Int) == 0) = true then _ else _) _ _ s
  rw [if_neg (by decide)]
  refine wpAny_bind (slicePart_none (wpAny_bind (slicePart_none (wpAny_bind (wpAny_pure ?_)))))
  show wpAny _ _ (match Builtin.Slice.sliceAdjust none none (-1) (n : Int) with | (lo, hi) => pure (lo, (-1 : Int), Builtin.Slice.slicePlaces lo hi (-1))) _ _ s
  rw [show Builtin.Slice.sliceAdjust none none (-1) (n : Int) = ((n : Int) - 1, -1) from rfl]
  show wpAny _ _ (pure ((n : Int) - 1, (-1 : Int), Builtin.Slice.slicePlaces ((n : Int) - 1) (-1) (-1))) _ _ s
  have e : Builtin.Slice.slicePlaces ((n : Int) - 1) (-1) (-1) = n := by
    unfold Builtin.Slice.slicePlaces
    have h1 : ¬ ((-1 : Int) > 0) := by decide
    simp only [h1, if_false]
    rw [show (- -1 : Int) = 1 by decide, Int.ediv_one]
    split <;> omega
  rw [e]
  exact wpAny_pure h
theorem getItem_tuple_rev {t sl : Addr} {items : Array Value} {vk : Value} {Q : Value → Shared → Prop} (ht : IsTup s.heap t items) (hs : s.heap.IsSliceOf sl .none .none vk) (pk : IsPart vk (some (-1)))
    (h : Q (.ref s.heap.objs.size) { s with heap := s.heap.push { cls := .type "tuple", data := .seq items.toList.reverse.toArray } })
    (hsz : items.size ≤ sizeLine) : wpAny (model prog w) A (getItem (.ref t) (.ref sl)) Q E s := by
  have htake : sizeOk (.seq items.toList.reverse.toArray) := by
    show items.toList.reverse.toArray.size ≤ sizeLine
    rw [List.size_toArray, List.length_reverse, Array.length_toList]
    exact hsz
  obtain ⟨os, hos, hcs, hds⟩ := id hs
  have hTs : s.TypeIs (.ref sl) "slice" := ⟨os, hos, hcs⟩
  unfold getItem
  try with_reducible refine wpAny_holding ?_
  first | refine wpAny_bind (wpAny_pure ?_) | skip
  refine wpAny_bind (wpAny_sequenceKey ht.typeIs (by decide) ?_)
  refine wpAny_bind (wpAny_callSpecial?_slot (name := Str.ofString "__getitem__") ht.typeIs PyProof.Rows.slot_tuple_getitem
    (wpAny_call_entry PyProof.Rows.slot_tuple_getitem ht.typeIs entry_tuple_getitem ?_ (args_tuple_getitem _ _)))
  show wpAny _ _ (Builtin.Tuple.tupleItemsOf (.ref t) >>= _) _ _ s
  refine wpAny_bind (tupleItemsOf_ ht ?_)
  refine wpAny_bind (wpAny_typeOf hTs ?_)
  rw [if_pos (by decide)]
  refine wpAny_bind (sliceApplied_rev hs pk ?_)
  have hno : ¬ ((((items.size : Int) - 1) == 0 && (-1 : Int) == 1 && items.size == items.size) = true) := by
    intro q
    rw [Bool.and_eq_true, Bool.and_eq_true] at q
    exact absurd q.1.2 (by decide)
  show wpAny _ _ (if (((items.size : Int) - 1) == 0 && (-1 : Int) == 1 && items.size == items.size) = true then _ else _) _ _ s
  rw [if_neg hno]
  have pick : ((List.range items.size).filterMap fun (m : Nat) => items[((items.size : Int) - 1 + (m : Int) * (-1)).toNat]?).toArray = items.toList.reverse.toArray := by
    congr 1
    have e : (List.range items.size).filterMap (fun (m : Nat) => items[((items.size : Int) - 1 + (m : Int) * (-1)).toNat]?) = ((List.range items.size).map fun k => items.size - 1 - k).filterMap (items[·]?) := by
      rw [List.filterMap_map]
      have hc : ∀ (l : List Nat), (∀ m ∈ l, m < items.size) → l.filterMap (fun (m : Nat) => items[((items.size : Int) - 1 + (m : Int) * (-1)).toNat]?) = l.filterMap ((fun x => items[x]?) ∘ fun k => items.size - 1 - k) := by
        intro l
        induction l with
        | nil => intro _; rfl
        | cons m r ih =>
          intro hl
          have hm := hl m List.mem_cons_self
          have e : ((items.size : Int) - 1 + (m : Int) * (-1)).toNat = items.size - 1 - m := by omega
          rw [List.filterMap_cons, List.filterMap_cons, ih fun z hz => hl z (List.mem_cons_of_mem _ hz)]
          have e2 : ((fun x => items[x]?) ∘ fun k => items.size - 1 - k) m = items[items.size - 1 - m]? := rfl
          rw [e, e2]
      exact hc _ fun m hm => List.mem_range.mp hm
    rw [e, PySem.W.krv_range, List.filterMap_reverse, PySem.W.krv_all]
  rw [pick]
  first
    | exact wpAny_bind (m := Builtin.Tuple.tupleExact _) (wpAny_newObj_type (wpAny_pure ⟨_, rfl, wpAny_pure h⟩) htake)
    | exact wpAny_bind (m := Builtin.Tuple.tupleExact _) (wpAny_newObj_type (wpAny_bind (wpAny_pure (wpAny_pure ⟨_, rfl, wpAny_pure h⟩))) htake)
    | exact wpAny_bind (wpAny_bind (m := Builtin.Tuple.tupleExact _) (wpAny_newObj_type (wpAny_pure (wpAny_pure ⟨_, rfl, wpAny_pure h⟩)) htake))
    | exact wpAny_bind (wpAny_bind (m := Builtin.Tuple.tupleExact _) (wpAny_newObj_type (wpAny_pure ⟨_, rfl, wpAny_pure h⟩) htake))
end
section
variable {X : Cx}
/-- t[::-1] of a tuple -/
def tRevT (K : PySem.W.Frag) (te : TE) : TE := fun σ H Q => te σ H fun x H1 => ∃ a xs, x = .ref a ∧ SqT K H1 a xs ∧ ∀ p, H1 p = none → Q (.ref p) (upd H1 p (.tup xs.reverse))
theorem pe_revT {e : Expr} {te : TE} {k : Nat} {p1 p2 p3 pos : Pos} (he : PE X e te) : PE X (.Subscript e (.Slice none none (some (.UnaryOp .USub (.Constant (.int 1) k p1) p2)) p3) pos) (tRevT X.K te) := by
  refine ⟨fun pins s σ H Q I h => ?_⟩
  refine Subscript_ (thn (he.run pins s σ H _ I h) fun v s1 ⟨x, H1, I1, r1, q1⟩ => ?_)
  obtain ⟨a, xs, ex, hx, q⟩ := q1
  subst ex
  cases r1
  have hst : PO X (some (.UnaryOp .USub (.Constant (.int 1) k p1) p2)) (tPart (tUn (rU fun i => .int (-i)) (tC (.int 1)))) := po_some (pe_un un_neg pe_int)
  refine wpAny_Slice (thn (po_none.run pins s1 σ H1 (fun o H2 => o = none ∧ H2 = H1) I1 ⟨rfl, rfl⟩) fun vl s2 ⟨l, H2, I2, pl, el, e2⟩ => ?_)
  subst el e2
  refine thn (po_none.run pins s2 σ H2 (fun o H3 => o = none ∧ H3 = H2) I2 ⟨rfl, rfl⟩) fun vu s3 ⟨u, H3, I3, pu, eu, e3⟩ => ?_
  subst eu e3
  refine thn (hst.run pins s3 σ H3 (fun o H4 => o = some (-1) ∧ H4 = H3) I3 ⟨1, rfl, -1, rfl, rfl, rfl⟩) fun vs s4 ⟨o, H4, I4, ps, eo, e4⟩ => ?_
  subst eo e4
  have I5 : Inv X pins σ H4 { s4 with heap := s4.heap.push { cls := .type "slice", data := .fields #[vl, vu, vs] } } := I4.kept (t' := s4.toks) fun b ob q => Heap.get?_push_of_some _ q
  obtain ⟨its, r, ht, hz⟩ := I5.tuple hx
  have hlen := r.length
  cases pl
  cases pu
  show wpAny (model X.prog X.w) X.A (subscriptTail e (.Slice none none (some (.UnaryOp .USub (.Constant (.int 1) k p1) p2)) p3) (.ref a) (.ref s4.heap.objs.size)) (EP X pins σ Q) X.xe { s4 with heap := s4.heap.push { cls := .type "slice", data := .fields #[.none, .none, vs] } }
  refine tail_any (ops := [.ref a, .ref s4.heap.objs.size]) ht.typeIs (PyProof.Rows.slot_tuple_getitem.lookup) ?_ (by with_unfolding_all rfl)
  refine getItem_tuple_rev ht (Heap.IsSliceOf.new _ .none .none vs) ps ?_ (by rw [List.size_toArray]; omega)
  refine ⟨.ref _, _, I5.laid (t' := s4.toks) (o := .tup xs.reverse) (fun b ob q => Heap.get?_push_of_some _ q) (Nat.le_refl _) ?_, rfl, q _ (I5.hok.fresh (Nat.le_refl _))⟩
  exact ⟨by rw [List.length_reverse]; exact hz, _, r.reverse, IsTup.new _ _⟩
end
/-! ### tuple * 1 -/
theorem tuple_mul1 (l : Addr) (items : Array Value) (n : Nat) (dd : Option Addr) (sl : Array (Option Value)) (u : Tok) :
    Meets (Builtin.«tuple.__mul__» ⟨[.ref l, .int 1 u], []⟩) (fun _ R s => s.heap.get? l = some { cls := .type "tuple", dict := dd, data := .seq items n, slots := sl } ∧
      R (.ok (.ret (Value.ref l))) s) :=
  .of_wp fun prog w A R s h => by
    obtain ⟨hp, g, d, tk, os⟩ := s
    obtain ⟨hl, h⟩ := h
    have f1 := AutoSeq1.idx_int
    wp_walk using wpAny_loadPart' hl
    repeat (first
      | (refine wpAny_ite_false (decide_eq_false (by decide)) ?_; wp_walk using wpAny_loadPart' hl)
      | (refine wpAny_ite_true (decide_eq_true (by rw [show ((1 : Int) == 1) = true from rfl, Bool.or_true])) ?_; wp_walk using wpAny_loadPart' hl))
    exact ⟨_, rfl, h⟩
/-- t * k -/
def rRepA (K : PySem.W.Frag) : R2 := fun x y H Q => ∃ l k xs, x = .ref l ∧ y = .int k ∧ SqT K H l xs ∧ xs ≠ [] ∧ 1 ≤ k ∧ k ≤ 1000 ∧ xs.length ≤ 1000 ∧ ∀ H' p, Same H H' → SqT K H' p (List.replicate k.toNat xs).flatten → Q (.ref p) H'
section
variable {X : Cx}
theorem op_repA : OpR X (binaryOp .Mult) (rRepA X.K) := by
  intro pins s σ H x y v u Q I rx ry h
  obtain ⟨l, k, xs, rfl, rfl, hT, hne, h1, h2, hz, q⟩ := h
  by_cases hk : k = 1
  · subst hk
    cases rx
    obtain ⟨t, rfl⟩ := ry
    obtain ⟨its, r, ⟨⟨cls, dd, data, sl⟩, ho, hc, n, hd⟩, hs⟩ := I.tuple hT
    simp only at hc hd
    subst hc hd
    refine wpAny_binaryOp_repeat_ref (T := "tuple") (U := "int") (by decide) ⟨_, ho, rfl⟩ (fun s' => typeIs_int s' 1 t) noFill_tuple_mul F.fills_int_mul F.slot_int_rmul repeat_tuple F.slot_int_index.lookup
      (call_meets F.slot_int_rmul (typeIs_int s 1 t) F.entry_int_rmul (F.args_int_rmul_2 _ _) (int_rmul_tuple 1 t l its.toArray n dd sl)
        ⟨ho, rfl, ⟨_, ho, rfl⟩, call_meets F.slot_tuple_mul ⟨_, ho, rfl⟩ F.entry_tuple_mul (F.args_tuple_mul_2 _ _) (tuple_mul1 l its.toArray n dd sl t) ⟨ho, ?_⟩⟩)
    refine ⟨.ref l, H, I, rfl, q H l (Same.refl _) ?_⟩
    show SqT X.K H l (List.replicate 1 xs).flatten
    rw [List.replicate_one, List.flatten_cons, List.flatten_nil, List.append_nil]
    exact hT
  · exact op_repT pins s σ H _ _ v u Q I rx ry ⟨l, k, xs, rfl, rfl, hT, hne, by omega, h2, hz, fun p hp => q _ p (same_upd hp) (SqT.of upd_same)⟩
end
end HG

namespace HG
open PySem PySem.Spec PyProof.Rows L2
open C8 (pss_cut tCut)
/-! ### texts' tuples as data -/
def dT (st : List Str) : PyData := .tuple (st.map PyData.str)
theorem eqvAll_strs : ∀ (a b : List Str), PyData.eqvAll (a.map PyData.str) (b.map PyData.str) = decide (a = b)
  | [], [] => by simp [PyData.eqvAll]
  | [], _ :: _ => by simp [PyData.eqvAll]
  | _ :: _, [] => by simp [PyData.eqvAll]
  | x :: xs, y :: ys => by
    rw [List.map_cons, List.map_cons, PyData.eqvAll, eqvAll_strs xs ys, PyData.eqv, show (x == y) = decide (x = y) from (str_beq x y)]
    by_cases h : x = y
    · subst h
      by_cases h2 : xs = ys
      · subst h2
        simp
      · rw [decide_eq_false h2, decide_eq_false (show ¬ (x :: xs = x :: ys) from fun z => h2 (List.cons.inj z).2), Bool.and_false]
    · rw [decide_eq_false h, decide_eq_false (show ¬ (x :: xs = y :: ys) from fun z => h (List.cons.inj z).1), Bool.false_and]
theorem dT_eqv (a b : List Str) : PyData.eqv (dT a) (dT b) = decide (a = b) := by
  unfold dT
  rw [PyData.eqv, eqvAll_strs]
theorem any_dT (sts : List (List Str)) (x : List Str) : ((sts.map dT).any fun z => PyData.eqv z (dT x)) = decide (x ∈ sts) := by
  induction sts with
  | nil => rfl
  | cons a r ih =>
    rw [List.map_cons, List.any_cons, ih, dT_eqv]
    by_cases h : a = x
    · subst h
      simp
    · rw [decide_eq_false h, Bool.false_or]
      by_cases h2 : x ∈ r
      · rw [decide_eq_true h2, decide_eq_true (List.mem_cons_of_mem _ h2)]
      · rw [decide_eq_false h2, decide_eq_false fun z => by rcases List.mem_cons.mp z with z | z; exact h z.symm; exact h2 z]
theorem nm_strOk {z : Str} (h : isNm z = true) : PyData.strOk z = true := by
  unfold isNm at h
  rw [Bool.and_eq_true, Bool.and_eq_true] at h
  have h1 := h.2.1
  unfold Txt.isascii at h1
  unfold PyData.strOk
  rw [Array.all_eq_true] at h1 ⊢
  intro i hi
  have := h1 i hi
  rw [decide_eq_true_iff] at this ⊢
  omega
theorem lay_strs : ∀ {st : List Str}, (∀ z ∈ st, PyData.strOk z = true) → PyData.canLayAll0 (st.map PyData.str) = true
  | [], _ => by simp [PyData.canLayAll0]
  | x :: xs, h => by
    rw [List.map_cons, PyData.canLayAll0, PyData.canLay0, h x List.mem_cons_self, lay_strs fun z hz => h z (List.mem_cons_of_mem _ hz)]
    rfl
theorem depth_strs : ∀ (st : List Str), PyData.depthAll (st.map PyData.str) = 0
  | [] => by simp [PyData.depthAll]
  | x :: xs => by rw [List.map_cons, PyData.depthAll, depth_strs xs, PyData.depth]; rfl
theorem dT_lay {st : List Str} (h : ∀ z ∈ st, isNm z = true) : PyData.canLay0 (dT st) = true := by
  unfold dT
  rw [PyData.canLay0]
  exact lay_strs fun z hz => nm_strOk (h z hz)
theorem dT_depth (st : List Str) : PyData.depth (dT st) = 1 := by
  unfold dT
  rw [PyData.depth, depth_strs]
theorem dT_shaped {st : List Str} (h : ∀ z ∈ st, isNm z = true) : SeqAt.shaped (dT st) = true := by
  unfold SeqAt.shaped
  rw [dT_lay h, dT_depth]
  rfl
theorem layAll_dT : ∀ {sts : List (List Str)}, (∀ st ∈ sts, ∀ z ∈ st, isNm z = true) → PyData.canLayAll0 (sts.map dT) = true
  | [], _ => by simp [PyData.canLayAll0]
  | x :: xs, h => by
    rw [List.map_cons, PyData.canLayAll0, dT_lay (h x List.mem_cons_self), layAll_dT fun z hz => h z (List.mem_cons_of_mem _ hz)]
    rfl
theorem depthAll_dT : ∀ (sts : List (List Str)), PyData.depthAll (sts.map dT) ≤ 1
  | [] => by simp [PyData.depthAll]
  | x :: xs => by
    rw [List.map_cons, PyData.depthAll, dT_depth]
    have := depthAll_dT xs
    omega
theorem tups_shaped {sts : List (List Str)} (h : ∀ st ∈ sts, ∀ z ∈ st, isNm z = true) : SeqAt.shaped (.list (sts.map dT)) = true := by
  unfold SeqAt.shaped
  rw [PyData.canLay0, layAll_dT h, PyData.depth, Bool.true_and, decide_eq_true_iff]
  have := depthAll_dT sts
  omega
theorem dpAll_strs {K : PySem.W.Frag} {H : Hp} : ∀ (st : List Str), DpAll K H (st.map V.str) (st.map PyData.str)
  | [] => .nil
  | x :: xs => .cons (.str x) (dpAll_strs xs)
theorem dp_tup {K : PySem.W.Frag} {H : Hp} {a : Addr} {st : List Str} (h : SqT K H a (st.map V.str)) : Dp K H (.ref a) (dT st) := .tup h (dpAll_strs st)
theorem dp_tups {K : PySem.W.Frag} {H : Hp} {sts : List (List Str)} {vs : List V} (h : TupsAt H sts vs) : DpAll K H vs (sts.map dT) := by
  induction h with
  | nil => exact .nil
  | cons r _ ih =>
    obtain ⟨a, rfl, ha⟩ := r
    exact .cons (dp_tup (SqT.of ha)) ih
theorem hu65_of {k : Nat} {A : Around} (r : Room k A) : A.units + 65 < cLine := by
  have := r.un
  omega
/-! ### near standings -/
structure NearOk (S : List Way) (fs : List (List Str)) : Prop where
  no : ∀ x ∈ fs, x ∉ stds S
  nm : ∀ x ∈ fs, ∀ z ∈ x, isNm z = true
  ln : ∀ x ∈ fs, x.length ≤ 9
  few : fs.length ≤ 100
def spLNear : Sp := fun args H Q _ => ∃ (d a : Addr) (W : List Way) (st : List Str), args = [.ref d, .ref a] ∧ ShL (fun _ => True) H d W ∧ WOk W ∧ H a = some (.tup (st.map V.str)) ∧ st.length ≤ 4 ∧ (∀ z ∈ st, isNm z = true) ∧
  ∀ H' p vs fs, Same H H' → H p = none → H' p = some (.lst vs) → TupsAt H' fs vs → NearOk (sh W) fs → Q (.ref p) H'
def zq : Str := "zq"
theorem zq_nm : isNm zq = true := by decide +kernel
section
variable {P : Program} {w : World} {K : PySem.W.Frag} {mg : Str → Option Value} {base : Heap}
variable {fT fO fN fS fW : Addr} {dT' dO dN dS dW : FuncData}
theorem ok_lnear {f : Addr} {fd : FuncData} (B : BT K mg fT fO dT' dO) (G : GnT K mg fN fS fW dN dS dW) (F : Fun K "_law_near" "_law_near" s_law_near f fd) : FnOk P w K mg base CX0 3 f fd ["_law_ways", "_law_standing"] spLNear := by
  have S : FnScope ["_law_ways", "_law_standing", "_law_names_here", "_law_found", "_law_at", "_law_other", "_law_way", "_law_spot"] ["_law_ways", "_law_standing"] (defScope s_law_near) := ⟨rfl, rfl, rfl, by decide +kernel, rfl, by decide +kernel, by decide +kernel⟩
  have nd := S.nd
  refine F.ok S (fun vs H Q E h => ?_) (fun cdv A outer s H vs Q E hr h => ?_)
  · obtain ⟨d, a, W, st, rfl, _⟩ := h
    rfl
  · obtain ⟨d, a, W, st, rfl, hW0, ok, ha, hst4, hstn, q⟩ := h
    have hu := hu_of hr
    have hu65 := hu65_of hr
    obtain ⟨kvs, hd, hp⟩ := id hW0
    have sok := ok.sok
    refine ⟨_, pss_cons (ps_par (i := 2) (j := 3) (by rfl) nd rfl rfl (by decide) rfl rfl (pa_cons (pe_callB (call_srtD rfl) (by rfl) G.m_sorted (by decide +kernel) (pa_cons (pv 0) pa_nil)) (pa_cons (pe_lst (pa_cons (pe_revT (pv 1)) pa_nil)) pa_nil)) (by rfl))
      (pss_cons (ps_for PassesOwn.never rfl (pi_range1 rfl G.m_range (pa_cons (pe_callB call_len_seq (by rfl) B.ml PySem.boot_len (pa_cons (pv 2) pa_nil)) pa_nil)) (pg_name (i := 4) nd rfl (Or.inr rfl))
        (pss_one (ps_for PassesOwn.never rfl (pi_list (pv 2)) (pg_name (i := 5) nd rfl (Or.inl rfl))
          (pss_one (ps_set (i := 3) nd rfl (Or.inl rfl) (pe_op op_cat (pv 3) (pe_lc (own := [("_law_way", 6)]) (g := gName 6) (tt := tYes) rfl nd (pi_list (pe_op op_cat (pe_dget hu (pv 0) (pv 5) (fun _ _ => rfl)) (pe_lst (pa_cons pe_str pa_nil)))) (blkOk_by (N := ["_law_ways", "_law_standing", "_law_names_here", "_law_found", "_law_at", "_law_other", "_law_way", "_law_spot"]) (sc := defScope s_law_near) (by decide +kernel)) (fun _ _ _ _ _ => pg_name (i := 6) nd rfl (Or.inl rfl)) (fun _ _ _ _ _ => pts_nil)
            (fun _ _ _ _ _ => pe_op op_catB (pe_op op_catB (pe_slice sl_tupB (pv 1) po_none (po_some (pv 4))) (pe_tup (pa_cons (pv 6) pa_nil))) (pe_slice sl_tupB (pv 1) (po_some (pe_op op_add (pv 4) pe_int)) po_none)))))))))
      (pss_one (ps_ret (pe_lc (own := [("_law_spot", 7)]) (g := gName 7) rfl nd (pi_list (pv 3)) (blkOk_by (N := ["_law_ways", "_law_standing", "_law_names_here", "_law_found", "_law_at", "_law_other", "_law_way", "_law_spot"]) (sc := defScope s_law_near) (by decide +kernel)) (fun _ _ _ _ _ => pg_name (i := 7) nd rfl (Or.inl rfl))
        (fun _ _ _ _ _ => pts_one (pt_cmpR (r := rNotInD K) (op_notInD hu65) (pv 7) (pe_call (ok_lstandings G.m_sorted G.W G.bW G.gW G.S) (hr.mono (by decide)) (by rfl) G.gS G.S.kp G.bS .nil pass0 (pa_cons (pv 0) pa_nil)) (by rfl))) (fun _ _ _ _ _ => pv 7))))), ?_⟩
    refine ⟨_, rfl, d, kvs, W.map (·.1), rfl, hd, keysL hp, (by rw [List.length_map]; exact Nat.lt_of_le_of_lt ok.n4 (by decide)), fun np nn => ?_⟩
    have s0 := same_upd (o := .lst ((srt (W.map (·.1))).map V.str)) nn
    refine ⟨_, rfl, a, _, rfl, SqT.of (s0 _ _ ha), fun rp nrp => ?_⟩
    have s1 := same_upd (o := .tup (st.map V.str).reverse) nrp
    refine ⟨(by show 1 ≤ sizeLine; decide), fun lp nlp => ?_⟩
    have s2 := same_upd (o := .lst [V.ref rp]) nlp
    have nlH : H lp = none := (s0.trans s1).free nlp
    have sm : Same H (upd (upd (upd H np (.lst ((srt (W.map (·.1))).map V.str))) rp (.tup (st.map V.str).reverse)) lp (.lst [V.ref rp])) := s0.trans (s1.trans s2)
    have hN : (upd (upd (upd H np (.lst ((srt (W.map (·.1))).map V.str))) rp (.tup (st.map V.str).reverse)) lp (.lst [V.ref rp])) np = some (.lst ((srt (W.map (·.1))).map V.str)) := s2 _ _ (s1 _ _ upd_same)
    have hR : (upd (upd (upd H np (.lst ((srt (W.map (·.1))).map V.str))) rp (.tup (st.map V.str).reverse)) lp (.lst [V.ref rp])) rp = some (.tup (st.reverse.map V.str)) := by
      rw [s2 _ _ upd_same, List.map_reverse]
    have hF : (upd (upd (upd H np (.lst ((srt (W.map (·.1))).map V.str))) rp (.tup (st.map V.str).reverse)) lp (.lst [V.ref rp])) lp = some (.lst [V.ref rp]) := upd_same
    refine ⟨_, _, rfl, ?_⟩
    generalize (upd (upd (upd H np (.lst ((srt (W.map (·.1))).map V.str))) rp (.tup (st.map V.str).reverse)) lp (.lst [V.ref rp])) = H2 at sm hN hR hF
    have hnl : (srt (W.map (·.1))).length = W.length := by rw [srt_len, List.length_map]
    generalize hnm : srt (W.map (·.1)) = nms at hN hnl
    have hnms : ∀ z ∈ nms, ∃ qw ∈ W, qw.1 = z := fun z hz => by
      rw [← hnm] at hz
      exact List.mem_map.mp (srt_mem.mp hz)
    have w4 := ok.n4
    refine ⟨_, rfl, np, _, rfl, .inl (SqL.of hN), W.length, by rw [List.length_map, hnl], by omega, by omega, for_range (lo := 0) (n := W.length) (fun i σ H' => ∃ p vs fs v4 v5, σ = [some (.ref d), some (.ref a), some (.ref np), some (.ref p), v4, v5, none, none] ∧ Same H2 H' ∧ H p = none ∧ H' p = some (.lst vs) ∧ TupsAt H' fs vs ∧ (∀ x ∈ fs, (∀ z ∈ x, isNm z = true) ∧ x.length ≤ 9) ∧ fs.length ≤ 1 + 20 * i) ⟨lp, _, [st.reverse], none, none, rfl, Same.refl _, nlH, hF, .cons ⟨rp, rfl, hR⟩ .nil, fun x hx => ?_, Nat.le_refl _⟩ ?_ ?_⟩
    · rw [List.mem_singleton.mp hx, List.length_reverse]
      exact ⟨fun z hz => hstn z (List.mem_reverse.mp hz), by omega⟩
    · rintro i σ H3 hi ⟨p, vs, fs, v4, v5, rfl, s3, np3, hp3, ht3, hf3, hl3⟩
      rw [Int.zero_add]
      refine ⟨_, rfl, np, rfl, ⟨_, SqL.of (s3 _ _ hN)⟩, for_it (walk_list (K := K) (a := np) (xs := nms.map V.str)) (fun j σ H' => ∃ p vs fs v5, σ = [some (.ref d), some (.ref a), some (.ref np), some (.ref p), some (.int (i : Int)), v5, none, none] ∧ Same H2 H' ∧ H p = none ∧ H' p = some (.lst vs) ∧ TupsAt H' fs vs ∧ (∀ x ∈ fs, (∀ z ∈ x, isNm z = true) ∧ x.length ≤ 9) ∧ fs.length ≤ 1 + 20 * i + 5 * j) ⟨p, vs, fs, v5, rfl, s3, np3, hp3, ht3, hf3, hl3⟩ (fun j σ H' _ ⟨_, _, _, _, _, sx, _⟩ => SqL.of (sx _ _ hN)) ?_ ?_⟩
      · rintro j x σ H4 H5 hj ⟨p, vs, fs, v5, rfl, s5, np5, hp5, ht5, hf5, hl5⟩ ⟨rfl, hx⟩
        rw [List.getElem?_map] at hx
        obtain ⟨z, hz, rfl⟩ := Option.map_eq_some_iff.mp hx
        obtain ⟨qw, hqw, hqz⟩ := hnms z (List.mem_of_getElem? hz)
        have hj4 : j < 4 := by
          rw [List.length_map] at hj
          omega
        have s05 := sm.trans s5
        obtain ⟨aw, hv, _, haw⟩ := way_at (paired_imp hp fun q kv h => h.same s05) ok.nd hqw
        have hg : DGet H5 d (.str z) (some (.ref aw)) := by
          rw [← hqz, ← hv]
          exact DGet.k (k := Sum.inr qw.1) (s05 _ _ hd)
        have hw4 := ok.w4 qw hqw
        refine ⟨_, rfl, _, rfl, _, rfl, d, _, rfl, hg, (by show 1 ≤ sizeLine; decide), fun zp nzp => ?_⟩
        have s6 := same_upd (o := .lst [V.str (Str.ofString "zq")]) nzp
        refine ⟨aw, zp, qw.2.map V.str, _, rfl, rfl, s6 _ _ haw, upd_same, Nat.le_of_lt (small1000 (by rw [List.length_map]; show qw.2.length + 1 ≤ 1000; omega)), fun cp ncp => ?_⟩
        have s7 := same_upd (o := .lst (qw.2.map V.str ++ [V.str (Str.ofString "zq")])) ncp
        have hcp : (upd (upd H5 zp (.lst [V.str (Str.ofString "zq")])) cp (.lst (qw.2.map V.str ++ [V.str (Str.ofString "zq")]))) cp = some (.lst ((qw.2 ++ [zq]).map V.str)) := by
          rw [upd_same, List.map_append]
          rfl
        have s57 := s6.trans s7
        refine ⟨cp, rfl, ⟨_, SqL.of hcp⟩, fun D nD => ?_⟩
        have sD := same_upd (o := .lst []) nD
        generalize (upd (upd H5 zp (.lst [V.str (Str.ofString "zq")])) cp (.lst (qw.2.map V.str ++ [V.str (Str.ofString "zq")]))) = H7 at s57 hcp nD sD
        have hwz : ∀ z ∈ qw.2 ++ [zq], isNm z = true := fun y hy => by
          rcases List.mem_append.mp hy with hy | hy
          · exact ok.wn qw hqw y hy
          · rw [List.mem_singleton.mp hy]
            exact zq_nm
        have hwl : (qw.2 ++ [zq]).length ≤ 5 := by
          rw [List.length_append]
          show qw.2.length + 1 ≤ 5
          omega
        refine lc_it (walk_list (K := K) (a := cp) (xs := (qw.2 ++ [zq]).map V.str)) (fun m H' => ∃ zs, H' D = some (.lst zs) ∧ TupsAt H' (((qw.2 ++ [zq]).take m).map fun w => st.take i ++ [w] ++ st.drop (i + 1)) zs ∧ Same H7 H') ⟨[], upd_same, .nil, sD⟩ (fun m H' _ ⟨_, _, _, s'⟩ => SqL.of (s' _ _ hcp)) ?_ ?_
        · rintro m x H8 H9 hm ⟨zs, hD, hzs, s8⟩ ⟨rfl, hx'⟩
          rw [List.length_map] at hm
          rw [List.getElem?_map] at hx'
          obtain ⟨y, hy, rfl⟩ := Option.map_eq_some_iff.mp hx'
          have ha9 := s8 _ _ (s57 _ _ (s05 _ _ ha))
          refine ⟨rfl, _, rfl, _, rfl, (i : Int), rfl, a, _, rfl, ha9, fun Ha pa sa hpa => ?_⟩
          rw [cut_to] at hpa
          refine ⟨_, rfl, (by show 1 ≤ sizeLine; decide), fun pt npt => ?_⟩
          have st' := same_upd (o := .tup [V.str y]) npt
          refine ⟨pa, pt, _, _, rfl, rfl, st' _ _ hpa, upd_same, (by rw [List.length_take, List.length_map]; show min i st.length + 1 ≤ 1000; omega), fun Hb pb sb hpb => ?_⟩
          refine ⟨_, rfl, _, rfl, _, _, rfl, rfl, ((i + 1 : Nat) : Int), rfl, a, _, rfl, sb _ _ (st' _ _ (sa _ _ ha9)), fun Hc pc sc hpc => ?_⟩
          rw [cut_from] at hpc
          refine ⟨pb, pc, _, _, rfl, rfl, sc _ _ hpb, hpc, (by rw [List.length_append, List.length_take, List.length_drop, List.length_map]; show min i st.length + 1 + _ ≤ 1000; omega), fun Hd pd sd hpd => ?_⟩
          have s9d := sa.trans (st'.trans (sb.trans (sc.trans sd)))
          have hDd := s9d _ _ hD
          refine ⟨zs, hDd, small1000 ?_, _, upd_same, ?_, fun r o e => ?_⟩
          · rw [← Paired.length hzs, List.length_map, List.length_take]
            omega
          · rw [List.take_add_one, hy, List.map_append]
            refine paired_append ((hzs.same s9d).upd hDd) (.cons ⟨pd, rfl, ?_⟩ .nil)
            rw [upd_ne (ne_of hpd hDd (by intro z; cases z)), hpd, List.map_append, List.map_append, List.map_take, List.map_drop]
            rfl
          · rw [upd_ne (ne_of_none e nD)]
            exact s9d _ _ (s8 _ _ e)
        · rintro H8 ⟨zs, hD, hzs, s8⟩
          rw [List.length_map, List.take_length] at hzs
          have hp8 := s8 _ _ (s57 _ _ hp5)
          have hzl : zs.length ≤ 5 := by
            rw [← Paired.length hzs, List.length_map]
            exact hwl
          have hvl : vs.length = fs.length := (Paired.length ht5).symm
          refine ⟨p, D, vs, zs, rfl, rfl, hp8, hD, Nat.le_of_lt (small1000 (by omega)), fun p9 n9 => ?_⟩
          have s9 := same_upd (o := .lst (vs ++ zs)) n9
          refine ⟨p9, vs ++ zs, fs ++ (qw.2 ++ [zq]).map (fun w => st.take i ++ [w] ++ st.drop (i + 1)), _, rfl, s5.trans (s57.trans (s8.trans s9)), sm.free (s5.free (s57.free (s8.free n9))), upd_same, paired_append (ht5.same (s57.trans (s8.trans s9))) (hzs.same s9), fun x hx => ?_, ?_⟩
          · rcases List.mem_append.mp hx with hx | hx
            · exact hf5 x hx
            · obtain ⟨w', hw', rfl⟩ := List.mem_map.mp hx
              refine ⟨fun z hz => ?_, ?_⟩
              · rcases List.mem_append.mp hz with hz | hz
                · rcases List.mem_append.mp hz with hz | hz
                  · exact hstn z (List.mem_of_mem_take hz)
                  · rw [List.mem_singleton.mp hz]
                    exact hwz _ hw'
                · exact hstn z (List.mem_of_mem_drop hz)
              · rw [List.length_append, List.length_append, List.length_take, List.length_drop, List.length_singleton]
                omega
          · rw [List.length_append, List.length_map]
            omega
      · rintro σ H5 ⟨p, vs, fs, v5, rfl, s5, np5, hp5, ht5, hf5, hl5⟩
        rw [List.length_map, hnl] at hl5
        exact ⟨p, vs, fs, _, v5, rfl, s5, np5, hp5, ht5, hf5, by omega⟩
    · rintro σ H3 ⟨p, vs, fs, v4, v5, rfl, s3, np3, hp3, ht3, hf3, hl3⟩
      refine ⟨_, rfl, p, rfl, ⟨_, SqL.of hp3⟩, fun D nD => ?_⟩
      have sD := same_upd (o := .lst []) nD
      have s03 := sm.trans s3
      have hvl : fs.length = vs.length := Paired.length ht3
      refine lc_it (walk_list (K := K) (a := p) (xs := vs)) (fun i H' => ∃ gs, H' D = some (.lst gs) ∧ TupsAt H' ((fs.take i).filter fun x => !decide (x ∈ stds (sh W))) gs ∧ Same H3 H') ⟨[], upd_same, .nil, sD⟩ (fun i H' _ ⟨_, _, _, sx⟩ => SqL.of (sx _ _ hp3)) ?_ ?_
      · rintro i x H4 H5 hi ⟨gs, hD, hgs, s4⟩ ⟨rfl, hx⟩
        obtain ⟨y, hy, c, rfl, hc⟩ := paired_get ht3 hx
        have hym := List.mem_of_getElem? hy
        have hc5 := s4 _ _ hc
        refine ⟨rfl, _, rfl, _, rfl, d, W, rfl, ShL.at ⟨kvs, s4 _ _ (s03 _ _ hd), paired_imp hp fun q kv h => h.same (s03.trans s4)⟩, ok, fun H6 p6 us s6 n6 h6 t6 => ?_⟩
        refine ⟨dT y, (stds (sh W)).map dT, dp_tup (SqT.of (s6 _ _ hc5)), .lst (SqL.of h6) (dp_tups t6), dT_shaped (hf3 y hym).1, tups_shaped (fun z hz => stds_names sok.wn hz), _, rfl, ?_⟩
        rw [any_dT]
        have hD6 := s6 _ _ hD
        cases e : (!decide (y ∈ stds (sh W))) with
        | false =>
          refine iteF ⟨gs, hD6, ?_, s4.trans s6⟩
          rw [List.take_add_one, hy, List.filter_append, show List.filter (fun x => !decide (x ∈ stds (sh W))) (some y).toList = [] by show List.filter _ [y] = []; rw [List.filter_cons, e]; rfl, List.append_nil]
          exact hgs.same s6
        | true =>
          have hgl : gs.length ≤ 100 := by
            rw [← Paired.length hgs]
            exact Nat.le_trans (List.length_filter_le _ _) (by rw [List.length_take]; omega)
          refine iteT ⟨_, rfl, gs, hD6, small1000 (by omega), _, upd_same, ?_, fun r o e => ?_⟩
          · rw [List.take_add_one, hy, List.filter_append, show List.filter (fun x => !decide (x ∈ stds (sh W))) (some y).toList = [y] by show List.filter _ [y] = [y]; rw [List.filter_cons, e]; rfl]
            exact paired_append ((hgs.same s6).upd hD6) (.cons ⟨c, rfl, by rw [upd_ne (ne_of (s6 _ _ hc5) hD6 (by intro z; cases z))]; exact s6 _ _ hc5⟩ .nil)
          · rw [upd_ne (ne_of_none e nD)]
            exact s6 _ _ (s4 _ _ e)
      · rintro H4 ⟨gs, hD, hgs, s4⟩
        rw [← hvl, List.take_length] at hgs
        refine q H4 D gs _ (s03.trans s4) (s03.free nD) hD hgs ⟨fun x hx hm => ?_, fun x hx => (hf3 x (List.mem_filter.mp hx).1).1, fun x hx => (hf3 x (List.mem_filter.mp hx).1).2, ?_⟩
        · have := (List.mem_filter.mp hx).2
          rw [decide_eq_true hm] at this
          cases this
        · refine Nat.le_trans (List.length_filter_le _ _) ?_
          omega
end
end HG

namespace HG
open PySem PySem.Spec PyProof.Rows L2
open C8 (pss_cut tCut)
/-! ### dicts of data: ==, != -/
def SameD (K : PySem.W.Frag) (H : Hp) (a b : Addr) : Prop := ∃ ks ls, H a = some (.dK ks) ∧ H b = some (.dK ls) ∧ ks.length = ls.length ∧ ∀ p ∈ ks, ∃ u d, valV ls p.1 = some u ∧ Dp K H p.2 d ∧ Dp K H u d ∧ SeqAt.shaped d = true
def rDD (K : PySem.W.Frag) (r : Bool) : R2 := fun x y H Q => ∃ a b, x = .ref a ∧ y = .ref b ∧ SameD K H a b ∧ Q (.bl r) H
theorem shaped_lay {d : PyData} (h : SeqAt.shaped d = true) : d.canLay0 = true := by
  unfold SeqAt.shaped at h
  exact (Bool.and_eq_true_iff.mp h).1
section
variable {X : Cx} {pins : List (Addr × Obj)} {σ : L2.St} {H : Hp} {s : Shared}
theorem hitsD (I : Inv X pins σ H s) (hu : X.A.in1.units + 64 < cLine) {ls : List (Key × V)} {vb : List (Key × Value)} (rb : KV ls vb) {ks : List (Key × V)} {va : List (Key × Value)} (ra : KV ks va) :
    (∀ p ∈ ks, ∃ u d, valV ls p.1 = some u ∧ Dp X.K H p.2 d ∧ Dp X.K H u d ∧ SeqAt.shaped d = true) → PySem.W.KeqHits X.A.in1 s vb va true := by
  unfold KV at ra
  induction ra with
  | nil => intro _; exact .nil
  | @cons p q ps qs h t k =>
    intro hp
    obtain ⟨h1, h2⟩ := h
    obtain ⟨u, d, e, d1, d2, sd⟩ := hp p List.mem_cons_self
    have rr : RelO (some u) (valueAt vb p.1) := by rw [← e]; exact rb.val p.1
    obtain ⟨y, hy, ry⟩ := rr.some_of
    obtain ⟨key, v⟩ := q
    have h1' : p.1 = key := h1
    rw [h1'] at hy
    obtain ⟨as, r1⟩ := Dp.reads I d _ v d1 h2
    obtain ⟨bs, r2⟩ := Dp.reads I d u y d2 ry
    have x := PySem.W.keq_at (A := X.A) r1 r2 sd sd hu
    rw [SeqAt.eqv_refl d (shaped_lay sd)] at x
    show PySem.W.KeqHits X.A.in1 s vb ((key, v) :: qs) (true && true)
    exact .hit hy x (k fun p' hm => hp p' (List.mem_cons_of_mem _ hm))
end
section
variable {X : Cx}
theorem op_neDD (hu : X.A.units + 65 < cLine) : OpR X (compareOp .NotEq) (rDD X.K false) := by
  intro pins s σ H x y v u Q I rx ry h
  obtain ⟨a, b, rfl, rfl, ⟨ks, ls, ha, hb, hl, hp⟩, q⟩ := h
  cases (show v = Value.ref a from rx)
  cases (show u = Value.ref b from ry)
  obtain ⟨_, ya, va, ra, da⟩ := (show ObjOk X.prog X.w H s.heap a (.dK ks) from I.hok a _ ha)
  obtain ⟨_, yb, vb, rb, db⟩ := (show ObjOk X.prog X.w H s.heap b (.dK ls) from I.hok b _ hb)
  refine PySem.W.keq_ne (knd := mixKind X.prog X.w) (r := true) ya yb da db (by omega) (fun _ => hitsD I (by show X.A.units + 1 + 64 < cLine; omega) rb ra hp) ?_
  have e : va.length = vb.length := by rw [← ra.length, ← rb.length]; exact hl
  rw [show (!(va.length == vb.length && true)) = false from by rw [e]; simp]
  exact ⟨.bl false, H, I, rfl, q⟩
theorem op_eqDD (hu : X.A.units + 65 < cLine) : OpR X (compareOp .Eq) (rDD X.K true) := by
  intro pins s σ H x y v u Q I rx ry h
  obtain ⟨a, b, rfl, rfl, ⟨ks, ls, ha, hb, hl, hp⟩, q⟩ := h
  cases (show v = Value.ref a from rx)
  cases (show u = Value.ref b from ry)
  obtain ⟨_, ya, va, ra, da⟩ := (show ObjOk X.prog X.w H s.heap a (.dK ks) from I.hok a _ ha)
  obtain ⟨_, yb, vb, rb, db⟩ := (show ObjOk X.prog X.w H s.heap b (.dK ls) from I.hok b _ hb)
  refine PySem.W.keq_eq (knd := mixKind X.prog X.w) (r := true) ya yb da db (by omega) (fun _ => hitsD I (by show X.A.units + 1 + 64 < cLine; omega) rb ra hp) ?_
  have e : va.length = vb.length := by rw [← ra.length, ← rb.length]; exact hl
  rw [show (va.length == vb.length && true) = true from by rw [e]; simp]
  exact ⟨.bl true, H, I, rfl, q⟩
end
/-! ### shapes, sorted twice -/
theorem sh_names (W : List Way) : (sh W).map (·.1) = srt (W.map (·.1)) := by
  unfold sh
  rw [List.map_map]
  exact List.map_id _
theorem srt_srt (l : List Str) : srt (srt l) = srt l := srt_of_perm (srt_perm l)
theorem sh_sh {W : List Way} (ok : WOk W) : sh (sh W) = sh W := by
  have nd := ok.sok.nd
  show (srt ((sh W).map (·.1))).map (fun k => (k, srt (lookW (sh W) k))) = sh W
  rw [sh_names, srt_srt, ← sh_names, List.map_map]
  have : ∀ q ∈ sh W, ((fun k => (k, srt (lookW (sh W) k))) ∘ fun q : Way => q.1) q = q := fun q hq => by
    show (q.1, srt (lookW (sh W) q.1)) = q
    rw [lookW_of nd hq]
    obtain ⟨q0, _, rfl⟩ := sh_of ok.nd hq
    show (q0.1, srt (srt q0.2)) = (q0.1, srt q0.2)
    rw [srt_srt]
  rw [List.map_congr_left this, List.map_id']
theorem strs_shaped {zs : List Str} (h : ∀ z ∈ zs, isNm z = true) : SeqAt.shaped (.list (zs.map PyData.str)) = true := by
  unfold SeqAt.shaped
  rw [PyData.canLay0, lay_strs fun z hz => nm_strOk (h z hz), PyData.depth, depth_strs]
  rfl
theorem eqv_strs {zs : List Str} (h : ∀ z ∈ zs, isNm z = true) : PyData.eqv (.list (zs.map PyData.str)) (.list (zs.map PyData.str)) = true := SeqAt.eqv_refl _ (shaped_lay (strs_shaped h))
theorem dp_strs {K : PySem.W.Frag} {H : Hp} {a : Addr} {zs : List Str} (h : H a = some (.lst (zs.map V.str))) : Dp K H (.ref a) (.list (zs.map PyData.str)) := .lst (SqL.of h) (dpAll_strs zs)
theorem valV_mem {κ : Type} [DecidableEq κ] {kvs : List (κ × V)} {k : κ} {v : V} (h : valV kvs k = some v) : ∃ kv ∈ kvs, kv.2 = v := by
  unfold valV at h
  obtain ⟨kv, h1, h2⟩ := Option.map_eq_some_iff.mp h
  exact ⟨kv, List.mem_of_find?_eq_some h1, h2⟩
theorem kvl_mem {N : Addr → Prop} {H : Hp} {S : List Way} {kvs : List (Key × V)} (h : Paired (KvL N H) S kvs) {kv : Key × V} (m : kv ∈ kvs) : ∃ q ∈ S, KvL N H q kv := by
  obtain ⟨i, hi, ei⟩ := List.getElem_of_mem m
  obtain ⟨q, hq, r⟩ := paired_get h (show kvs[i]? = some kv by rw [List.getElem?_eq_getElem hi, ei])
  exact ⟨q, List.mem_of_getElem? hq, r⟩
theorem shl_same {K : PySem.W.Frag} {N M : Addr → Prop} {H : Hp} {a b : Addr} {S : List Way} (ok : SOk S) (h1 : ShL N H a S) (h2 : ShL M H b S) : SameD K H a b := by
  obtain ⟨ks, ha, p1⟩ := h1
  obtain ⟨ls, hb, p2⟩ := h2
  refine ⟨ks, ls, ha, hb, by rw [← Paired.length p1, ← Paired.length p2], fun p hp => ?_⟩
  obtain ⟨i, hi, ei⟩ := List.getElem_of_mem hp
  obtain ⟨q, hq, ek, c, ev, _, hc⟩ := paired_get p1 (show ks[i]? = some p by rw [List.getElem?_eq_getElem hi, ei])
  have hqm := List.mem_of_getElem? hq
  obtain ⟨c', hv, _, hc'⟩ := way_at p2 ok.nd hqm
  refine ⟨.ref c', .list (q.2.map PyData.str), by rw [ek]; exact hv, ?_, dp_strs hc', strs_shaped (ok.wn q hqm)⟩
  rw [ev]
  exact dp_strs hc
/-! ### _law_shape_right -/
def spShapeR (K : PySem.W.Frag) (C : Addr) : Sp := fun args H Q _ => ∃ (g d : Addr) (W : List Way) (N : Addr → Prop) (γ : List Str → List Int), args = [.ref g, .ref d] ∧ IsG K C N H g (sh W) γ ∧ ShL (fun _ => True) H d W ∧ WOk W ∧ ∀ H', Same H H' → Q (.bl true) H'
section
variable {P : Program} {w : World} {K : PySem.W.Frag} {mg : Str → Option Value} {base : Heap} {C : Addr}
variable {fShape fNames fName fSorted fStds fTable fInts fInt fOne fPut : Addr} {dShape dNames dName dSorted dStds dTable dInts dInt dOne dPut : FuncData}
theorem ok_shape_right {f fSh fCs fWy fK fH : Addr} {fd dSh dCs dWy dK dH : FuncData} (G : GD K mg fShape fNames fName fSorted fStds fTable fInts fInt fOne fPut dShape dNames dName dSorted dStds dTable dInts dInt dOne dPut) (c : GC K C)
    (MSh : Mt K C "shape" "Game.shape" s_Game_shape ["self"] fSh dSh) (MCs : Mt K C "choosers" "Game.choosers" s_Game_choosers ["self"] fCs dCs) (MW : Mt K C "ways" "Game.ways" s_Game_ways ["self", "chooser"] fWy dWy) (MK : MtCheck K C fK dK) (MH : MtHas K C fH dH)
    (F : Fun K "_law_shape_right" "_law_shape_right" s_law_shape_right f fd) : FnOk P w K mg base CX0 5 f fd ["_law_game", "_law_ways"] (spShapeR K C) := by
  have S : FnScope ["_law_game", "_law_ways", "_law_told", "_law_names_here", "_law_chooser", "_law_due"] ["_law_game", "_law_ways"] (defScope s_law_shape_right) := ⟨rfl, rfl, rfl, by decide +kernel, rfl, by decide +kernel, by decide +kernel⟩
  have nd := S.nd
  refine F.ok S (fun vs H Q E h => ?_) (fun cdv A outer s H vs Q E hr h => ?_)
  · obtain ⟨g, d, W, N, γ, rfl, _⟩ := h
    rfl
  · obtain ⟨g, d, W, N, γ, rfl, hG, hW, ok, q⟩ := h
    have hu := hu_of hr
    have hu65 := hu65_of hr
    have hu64 := hr.units
    have sok := ok.sok
    obtain ⟨dx, wa, la, ta, vs, kvs, hGA⟩ := id hG
    obtain ⟨kw, hd, hp⟩ := id hW
    have oShape := ok_shape (P := P) (w := w) (base := base) G c MSh
    have oCh := ok_choosers (P := P) (w := w) (mg := mg) (base := base) G.T c MCs
    have oWays := ok_ways (P := P) (w := w) (base := base) G c MW MK MH
    refine ⟨_, pss_cons (ps_par (i := 2) (j := 3) (by rfl) nd rfl rfl (by decide) rfl rfl (pa_cons (pe_meth0 (pv 0) c.cl MSh.me oShape (hr.mono (by decide)) MSh.b .nil pass0) (pa_cons (pe_callB (call_srtD rfl) (by rfl) G.m_sorted (by decide +kernel) (pa_cons (pv 1) pa_nil)) pa_nil)) (by rfl))
      (pss_cons (ps_set (i := 5) nd rfl (Or.inl rfl) (pe_callTy (call_dictP rfl) (by rfl) G.T.m_dict (by decide +kernel) (pa_cons
        (pe_lc (own := [("_law_chooser", 4)]) (g := gName 4) (tt := tYes) rfl nd (pi_list (pv 3)) (blkOk_by (N := ["_law_game", "_law_ways", "_law_told", "_law_names_here", "_law_chooser", "_law_due"]) (sc := defScope s_law_shape_right) (by decide +kernel)) (fun _ _ _ _ _ => pg_name (i := 4) nd rfl (Or.inl rfl)) (fun _ _ _ _ _ => pts_nil)
          (fun _ _ _ _ _ => pe_tup (pa_cons (pv 4) (pa_cons (pe_callB (id := "sorted") (r := rSrt K) call_srt (by rfl) G.m_sorted (by decide +kernel) (pa_cons (pe_dget hu (pv 1) (pv 4) (fun _ _ => rfl)) pa_nil)) pa_nil)))) pa_nil)))
      (pss_cons (ps_if (PW.pt (pw_or (pt_cmpR (op_neDD hu65) (pv 2) (pv 5) (nomark _)) (pw_or (pt_cmpR (op_neD hu64) (pe_callTy (call_listD rfl) (by rfl) G.T.m_list (by decide +kernel) (pa_cons (pv 2) pa_nil)) (pv 3) (nomark _))
          (pw_or1 (pt_cmpR (op_neD hu64) (pe_meth0 (pv 0) c.cl MCs.me oCh (hr.mono (by decide)) MCs.b .nil pass0) (pv 3) (nomark _)))))) pss_never pss_nil)
      (pss_cons (ps_for PassesOwn.never rfl (pi_list (pv 3)) (pg_name (i := 4) nd rfl (Or.inl rfl))
        (pss_cons (ps_if (PW.pt (pw_or (pt_not (pt_val (pe_callB call_isi6 (by rfl) G.T.m_isinstance (by decide +kernel) (pa_cons (pe_dget hu (pv 2) (pv 4) (fun _ _ => rfl)) (pa_cons (pe_bltn (v := .ty "list") (by rfl) G.T.m_list (by decide +kernel) rfl) pa_nil)))))
            (pw_or1 (pt_cmpR (op_neD hu64) (pe_meth (pv 0) c.cl MW.me oWays (hr.mono (by decide)) MW.b .nil pass0 (pa_cons (pv 4) pa_nil)) (pe_dget hu (pv 5) (pv 4) (fun _ _ => rfl)) (nomark _))))) pss_never pss_nil)
        (pss_cons (ps_expr (pe_bm PySem.F.plainAttrs_list PySem.F.slot_list_append PySem.F.type_list_append mt_append (pe_meth (pv 0) c.cl MW.me oWays (hr.mono (by decide)) MW.b .nil pass0 (pa_cons (pv 4) pa_nil)) (pa_cons pe_str pa_nil)))
        (pss_one (ps_expr (pe_bm PySem.F.plainAttrs_list PySem.F.slot_list_append PySem.F.type_list_append mt_append (pe_dget hu (pv 2) (pv 4) (fun _ _ => rfl)) (pa_cons pe_str pa_nil)))))))
      (pss_cons (ps_expr (pe_bm0 PySem.F.plainAttrs_dict PySem.F.slot_dict_clear PySem.F.type_dict_clear mtd_clear (pv 2)))
      (pss_cons (ps_expr (pe_bm PySem.F.plainAttrs_list PySem.F.slot_list_append PySem.F.type_list_append mt_append (pe_meth0 (pv 0) c.cl MCs.me oCh (hr.mono (by decide)) MCs.b .nil pass0) (pa_cons pe_str pa_nil)))
      (pss_one (ps_ret (pe_cmpR (op_eqDD hu65) (pe_meth0 (pv 0) c.cl MSh.me oShape (hr.mono (by decide)) MSh.b .nil pass0) (pv 5) (nomark _))))))))), ?_⟩
    have hsh := sh_sh ok
    have hnmW : srt (W.map (·.1)) = (sh W).map (·.1) := (sh_names W).symm
    have nmOk : ∀ z ∈ (sh W).map (·.1), isNm z = true := fun z hz => names_nm sok hz
    refine ⟨_, rfl, g, dx, _, rfl, hGA.hg, rfl, g, N, sh W, γ, rfl, hG, sok, fun H1 t s1 nt ht => ?_⟩
    rw [hsh] at ht
    obtain ⟨kvt, ht1, htp1⟩ := id ht
    refine ⟨_, rfl, d, kw, W.map (·.1), rfl, s1 _ _ hd, keysL hp, (by rw [List.length_map]; exact Nat.lt_of_le_of_lt ok.n4 (by decide)), fun np nn => ?_⟩
    rw [hnmW]
    refine ⟨_, _, rfl, ?_⟩
    have s2 := same_upd (o := .lst (((sh W).map (·.1)).map V.str)) nn
    have hN : (upd H1 np (.lst (((sh W).map (·.1)).map V.str))) np = some (.lst (((sh W).map (·.1)).map V.str)) := upd_same
    have ht2 := ht.same s2
    have s02 := s1.trans s2
    have nt1 : H1 np = none := nn
    generalize (upd H1 np (.lst (((sh W).map (·.1)).map V.str))) = H2 at s2 hN ht2 s02
    -- due
    refine ⟨_, rfl, np, rfl, ⟨_, SqL.of hN⟩, fun D nD => ?_⟩
    have sD := same_upd (o := .lst []) nD
    refine lc_it (walk_list (K := K) (a := np) (xs := ((sh W).map (·.1)).map V.str)) (fun i H' => ∃ prs, H' D = some (.lst (prs.map V.ref)) ∧ Paired (PrW H2 H' D) ((sh W).take i) prs ∧ Same H2 H') ⟨[], upd_same, .nil, sD⟩ (fun i H' _ ⟨_, _, _, sx⟩ => SqL.of (sx _ _ hN)) ?_ ?_
    · rintro i x H3 H4 hi ⟨prs, hD, hpr, s3⟩ ⟨rfl, hx⟩
      rw [List.map_map, List.getElem?_map] at hx
      obtain ⟨qi, hqi, rfl⟩ := Option.map_eq_some_iff.mp hx
      obtain ⟨q0, hq0, rfl⟩ := sh_of ok.nd (List.mem_of_getElem? hqi)
      have s04 := s02.trans s3
      obtain ⟨aw, hv, _, haw⟩ := way_at (paired_imp hp fun q kv h => h.same s04) ok.nd hq0
      have hg : DGet H4 d (.str q0.1) (some (.ref aw)) := by
        rw [← hv]
        exact DGet.k (k := Sum.inr q0.1) (s04 _ _ hd)
      have hw4 := ok.w4 q0 hq0
      refine ⟨rfl, _, rfl, _, rfl, _, rfl, d, _, rfl, hg, aw, q0.2, rfl, .inl (SqL.of haw), (by omega), fun lp nlp => ?_⟩
      have s5 := same_upd (o := .lst ((srt q0.2).map V.str)) nlp
      refine ⟨(by show 2 ≤ sizeLine; decide), fun pt npt => ?_⟩
      have s6 := same_upd (o := .tup [V.str q0.1, .ref lp]) npt
      have hD6 := s6 _ _ (s5 _ _ hD)
      have hl6 := s6 _ _ (show (upd H4 lp (.lst ((srt q0.2).map V.str))) lp = some (.lst ((srt q0.2).map V.str)) from upd_same)
      have hlD : lp ≠ D := ne_of_none hD nlp |>.symm
      have hptD : pt ≠ D := ne_of_none (s5 _ _ hD) npt |>.symm
      have hprl : prs.length ≤ 4 := by
        rw [← Paired.length hpr, List.length_take]
        have := sok.n4
        omega
      refine ⟨_, hD6, by rw [List.length_map]; exact small1000 (by omega), prs ++ [pt], by rw [upd_same, List.map_append]; rfl, ?_, fun r o e => ?_⟩
      · rw [List.take_add_one, hqi]
        refine paired_append (paired_imp hpr fun q pr ⟨a, h1, n, aD, h2⟩ => ⟨a, ?_, n, aD, ?_⟩) (.cons ⟨lp, ?_, s3.free nlp, hlD, ?_⟩ .nil)
        · have e1 := s6 _ _ (s5 _ _ h1)
          rw [upd_ne (ne_of e1 hD6 (by intro z; cases z))]
          exact e1
        · rw [upd_ne aD]
          exact s6 _ _ (s5 _ _ h2)
        · rw [upd_ne hptD]
          exact upd_same
        · rw [upd_ne hlD]
          exact hl6
      · rw [upd_ne (ne_of_none e nD)]
        exact s6 _ _ (s5 _ _ (s3 _ _ e))
    · rintro H3 ⟨prs, hD, hpr, s3⟩
      rw [List.length_map, List.length_map, List.take_length] at hpr
      obtain ⟨k1, hk1, hsq, hkk⟩ := pr_dict (K := K) hpr
      refine ⟨D, prs, k1, rfl, SqL.of hD, hsq, fun u nu => ?_⟩
      rw [mergeK_new k1 [] (by rw [List.nil_append, hkk, List.Nodup, List.pairwise_map]; exact List.Pairwise.imp (fun {x y} hne e => hne (Sum.inr.inj e)) sok.nd), List.nil_append]
      have s4 := same_upd (o := .dK k1) nu
      have hu4 : ShL (fun a => H2 a = none) (upd H3 u (.dK k1)) u (sh W) := ⟨k1, upd_same, paired_imp hk1 fun q kv ⟨e, a, ev, n, h⟩ => ⟨e, a, ev, n, s4 _ _ h⟩⟩
      have nu2 : H2 u = none := s3.free nu
      have s24 := s3.trans s4
      generalize (upd H3 u (.dK k1)) = H4 at s4 hu4 s24
      have s04 := s02.trans s24
      have ht4 := ht2.same s24
      have hN4 := s24 _ _ hN
      have s14 : Same H1 H4 := s2.trans s24
      have htd := s14 _ _ ht1
      have htp : Paired (KvL (fun a => H a = none) H4) (sh W) kvt := paired_imp htp1 fun _ _ q => q.same s14
      -- the tests
      refine ⟨_, rfl, _, rfl, t, u, rfl, rfl, shl_same sok ht4 hu4, _, rfl, iteF ?_⟩
      refine ⟨_, rfl, t, kvt, rfl, .inl htd, fun p1 n1 => ?_⟩
      rw [paired_keys (paired_imp htp fun _ _ q => q.at)]
      have s5 := same_upd (o := .lst (((sh W).map (·.1)).map V.str)) n1
      refine ⟨_, rfl, _, _, dp_strs upd_same, dp_strs (s5 _ _ hN4), strs_shaped nmOk, strs_shaped nmOk, _, rfl, ?_⟩
      rw [eqv_strs nmOk]
      refine iteF ?_
      have hG5 := hG.same (s04.trans s5)
      have hGA5 := hGA.same (s04.trans s5)
      refine ⟨_, rfl, g, dx, _, rfl, hGA5.hg, rfl, g, N, sh W, γ, rfl, hG5, fun p2 n2 => ?_⟩
      have s6 := same_upd (o := .lst ((names (sh W)).map V.str)) n2
      refine ⟨_, rfl, _, _, dp_strs upd_same, dp_strs (s6 _ _ (s5 _ _ hN4)), strs_shaped nmOk, strs_shaped nmOk, _, rfl, ?_⟩
      rw [show PyData.eqv (.list ((names (sh W)).map PyData.str)) (.list (((sh W).map (·.1)).map PyData.str)) = true from eqv_strs nmOk]
      refine iteF ?_
      have s46 := s5.trans s6
      generalize (upd (upd H4 p1 (.lst (((sh W).map (·.1)).map V.str))) p2 (.lst ((names (sh W)).map V.str))) = H6 at s46
      have s06 := s04.trans s46
      have s16 := s14.trans s46
      have s26 := s24.trans s46
      have offH : ∀ c, H c ≠ none → ∀ kv ∈ kvt, kv.2 ≠ .ref c := fun c hc kv hkv e => by
        obtain ⟨q, _, _, a, ea, n, _⟩ := kvl_mem htp1 hkv
        rw [ea] at e
        cases e
        exact hc n
      have off1 : ∀ c, H1 c = none → ∀ kv ∈ kvt, kv.2 ≠ .ref c := fun c hc kv hkv e => by
        obtain ⟨q, _, _, a, ea, _, h⟩ := kvl_mem htp1 hkv
        rw [ea] at e
        cases e
        rw [hc] at h
        cases h
      have off2 : ∀ c, H2 c = none → ∀ kv ∈ kvt, kv.2 ≠ .ref c := fun c hc => off1 c (s2.free hc)
      have offT : ∀ kv ∈ kvt, kv.2 ≠ .ref t := fun kv hkv e => by
        obtain ⟨q, _, _, a, ea, _, h⟩ := kvl_mem htp1 hkv
        rw [ea] at e
        cases e
        rw [ht1] at h
        cases h
      have ht6 := s16 _ _ ht1
      have hN6 := s46 _ _ hN4
      have hu6 := hu4.same s46
      obtain ⟨kvu, hud, hup⟩ := id hu6
      have nu1 : H1 u = none := s2.free nu2
      refine ⟨_, rfl, np, rfl, ⟨_, SqL.of hN6⟩, for_it (walk_list (K := K) (a := np) (xs := ((sh W).map (·.1)).map V.str)) (fun i σ H' => ∃ v4, σ = [some (.ref g), some (.ref d), some (.ref t), some (.ref np), v4, some (.ref u)] ∧
          (∀ c o, H6 c = some o → (∀ kv ∈ kvt, kv.2 ≠ .ref c) → H' c = some o) ∧ (∀ kv ∈ kvt, ∃ a xs, kv.2 = .ref a ∧ H' a = some (.lst xs) ∧ xs.length ≤ 4 + i))
        ⟨_, rfl, fun _ _ e _ => e, fun kv hkv => ?_⟩ (fun i σ H' _ ⟨_, _, kp, _⟩ => SqL.of (kp _ _ hN6 (off1 np nt1))) ?_ ?_⟩
      · obtain ⟨qi, hqi, _, a, ea, _, h⟩ := kvl_mem htp1 hkv
        refine ⟨a, _, ea, s16 _ _ h, ?_⟩
        rw [List.length_map]
        have := sok.w4 qi hqi
        omega
      · rintro i x σ H7 H8 hi ⟨v4, rfl, kp, lk⟩ ⟨rfl, hx⟩
        rw [List.map_map, List.getElem?_map] at hx
        obtain ⟨qi, hqi, rfl⟩ := Option.map_eq_some_iff.mp hx
        have hqm := List.mem_of_getElem? hqi
        have hi4 : i < 4 := by
          have h1 := (List.getElem?_eq_some_iff.mp hqi).1
          have h2 := sok.n4
          omega
        have sH : Same H H8 := fun c o e => kp c o (s06 _ _ e) (offH c (by rw [e]; exact Option.some_ne_none _))
        obtain ⟨at', hv, _, _⟩ := way_at htp1 sok.nd hqm
        obtain ⟨kv0, hkv0, ekv0⟩ := valV_mem hv
        obtain ⟨a0, xs0, ea0, ha0, hl0⟩ := lk kv0 hkv0
        rw [ekv0] at ea0
        cases ea0
        have htd8 := kp _ _ ht6 offT
        have hgt : DGet H8 t (.str qi.1) (some (.ref at')) := by
          rw [← hv]
          exact DGet.k (k := Sum.inr qi.1) htd8
        have hG8 := hG.same sH
        have hGA8 := hGA.same sH
        have hud8 := kp _ _ hud (off1 u nu1)
        obtain ⟨au, hvu, nau, hau⟩ := way_at hup sok.nd hqm
        have hau8 := kp _ _ hau (off2 au nau)
        refine ⟨_, rfl, _, rfl, t, _, rfl, hgt, _, _, _, rfl, AnyV.lst ha0, by decide, _, rfl, iteF ?_⟩
        refine ⟨_, rfl, g, dx, _, rfl, hGA8.hg, rfl, _, rfl, g, qi, N, sh W, γ, rfl, hG8, sok, hqm, fun p3 n3 => ?_⟩
        have s9 := same_upd (o := .lst (qi.2.map V.str)) n3
        have hgu : DGet (upd H8 p3 (.lst (qi.2.map V.str))) u (.str qi.1) (some (.ref au)) := by
          rw [← hvu]
          exact DGet.k (k := Sum.inr qi.1) (s9 _ _ hud8)
        refine ⟨_, rfl, _, rfl, u, _, rfl, hgu, _, _, dp_strs upd_same, dp_strs (s9 _ _ hau8), strs_shaped (sok.wn qi hqm), strs_shaped (sok.wn qi hqm), _, rfl, ?_⟩
        rw [eqv_strs (sok.wn qi hqm)]
        refine iteF ?_
        have sH9 := sH.trans s9
        have w4 := sok.w4 qi hqm
        refine ⟨_, rfl, g, dx, _, rfl, (hGA.same sH9).hg, rfl, _, rfl, g, qi, N, sh W, γ, rfl, hG.same sH9, sok, hqm, fun p4 n4 => ?_⟩
        have s10 := same_upd (o := .lst (qi.2.map V.str)) n4
        refine ⟨.inl ⟨rfl, _, SqL.of upd_same⟩, p4, _, _, rfl, rfl, upd_same, small1000 (by rw [List.length_map]; omega), ?_⟩
        have s11 : Same (upd H8 p3 (.lst (qi.2.map V.str))) (upd (upd (upd H8 p3 (.lst (qi.2.map V.str))) p4 (.lst (qi.2.map V.str))) p4 (.lst (qi.2.map V.str ++ [V.str (Str.ofString "zz")]))) := fun c o e => by
          rw [upd_ne (ne_of_none e n4)]
          exact s10 _ _ e
        have s8 := s9.trans s11
        generalize (upd (upd (upd H8 p3 (.lst (qi.2.map V.str))) p4 (.lst (qi.2.map V.str))) p4 (.lst (qi.2.map V.str ++ [V.str (Str.ofString "zz")]))) = H9 at s11 s8
        have hgt9 : DGet H9 t (.str qi.1) (some (.ref at')) := by
          rw [← hv]
          exact DGet.k (k := Sum.inr qi.1) (s8 _ _ htd8)
        refine ⟨_, rfl, _, rfl, t, _, rfl, hgt9, .inl ⟨rfl, _, SqL.of (s8 _ _ ha0)⟩, at', _, _, rfl, rfl, s8 _ _ ha0, small1000 (by omega), _, rfl, fun c o e hc => ?_, fun kv hkv => ?_⟩
        · rw [upd_ne (fun z => hc kv0 hkv0 (by rw [ekv0, z]))]
          exact s8 _ _ (kp c o e hc)
        · obtain ⟨a, xs, ea, ha, hl⟩ := lk kv hkv
          by_cases hz : a = at'
          · subst hz
            refine ⟨a, _, ea, upd_same, ?_⟩
            rw [List.length_append, List.length_singleton]
            omega
          · exact ⟨a, xs, ea, by rw [upd_ne hz]; exact s8 _ _ ha, by omega⟩
      · rintro σ H7 ⟨v4, rfl, kp, lk⟩
        have sH : Same H H7 := fun c o e => kp c o (s06 _ _ e) (offH c (by rw [e]; exact Option.some_ne_none _))
        have htd7 := kp _ _ ht6 offT
        have hu7 : ShL (fun a => H2 a = none) H7 u (sh W) := ⟨kvu, kp _ _ hud (off1 u nu1), paired_imp hup fun q kv ⟨e, a, ev, n, h⟩ => ⟨e, a, ev, n, kp _ _ h (off2 a n)⟩⟩
        refine ⟨_, rfl, .inr (.inr (.inl ⟨rfl, .inl ⟨kvt, htd7⟩⟩)), t, kvt, rfl, rfl, htd7, ?_⟩
        have s8 : Same H (upd H7 t (.dK [])) := fun c o e => by
          rw [upd_ne (ne_of_none e nt)]
          exact sH _ _ e
        have hu8 : ShL (fun a => H2 a = none) (upd H7 t (.dK [])) u (sh W) := by
          obtain ⟨kx, hx1, hx2⟩ := hu7
          refine ⟨kx, ?_, paired_imp hx2 fun q kv ⟨e, a, ev, n, h⟩ => ⟨e, a, ev, n, ?_⟩⟩
          · rw [upd_ne (ne_of_none (s2 _ _ ht1) nu2).symm]
            exact hx1
          · rw [upd_ne (ne_of h htd7 (by intro z; cases z))]
            exact h
        generalize (upd H7 t (.dK [])) = H8 at s8 hu8
        refine ⟨_, rfl, g, dx, _, rfl, (hGA.same s8).hg, rfl, g, N, sh W, γ, rfl, hG.same s8, fun p5 n5 => ?_⟩
        refine ⟨.inl ⟨rfl, _, SqL.of upd_same⟩, p5, _, _, rfl, rfl, upd_same, small1000 (by rw [List.length_map]; unfold names; rw [List.length_map]; have := sok.n4; omega), ?_⟩
        have s9 : Same H8 (upd (upd H8 p5 (.lst ((names (sh W)).map V.str))) p5 (.lst ((names (sh W)).map V.str ++ [V.str (Str.ofString "zz")]))) := fun c o e => by
          rw [upd_ne (ne_of_none e n5), upd_ne (ne_of_none e n5)]
          exact e
        have sH9 := s8.trans s9
        refine ⟨_, rfl, g, dx, _, rfl, (hGA.same sH9).hg, rfl, g, N, sh W, γ, rfl, hG.same sH9, sok, fun H9 t' s10 nt' ht' => ?_⟩
        rw [hsh] at ht'
        exact ⟨_, rfl, t', u, rfl, rfl, shl_same sok ht' (hu8.same (s9.trans s10)), q _ (sH9.trans s10)⟩
end
end HG

namespace HG
open PySem PySem.Spec PyProof.Rows L2 HT
open C8 (pss_cut tCut)
/-! ### ints as data -/
theorem dpAll_ints {K : PySem.W.Frag} {H : Hp} : ∀ (ns : List Int), DpAll K H (ns.map V.int) (ns.map PyData.int)
  | [] => .nil
  | x :: xs => .cons (.int x) (dpAll_ints xs)
theorem lay_ints : ∀ ns : List Int, PyData.canLayAll0 (ns.map PyData.int) = true
  | [] => by simp [PyData.canLayAll0]
  | x :: xs => by
    rw [List.map_cons, PyData.canLayAll0, lay_ints xs, PyData.canLay0]
    rfl
theorem depth_ints : ∀ ns : List Int, PyData.depthAll (ns.map PyData.int) = 0
  | [] => by simp [PyData.depthAll]
  | x :: xs => by
    rw [List.map_cons, PyData.depthAll, depth_ints xs, PyData.depth]
    rfl
theorem tupI_shaped (ns : List Int) : SeqAt.shaped (.tuple (ns.map PyData.int)) = true := by
  unfold SeqAt.shaped
  rw [PyData.canLay0, lay_ints, PyData.depth, depth_ints]
  rfl
theorem dp_row {K : PySem.W.Frag} {H : Hp} {a : Addr} {ns : List Int} (h : SqT K H a (ns.map V.int)) : Dp K H (.ref a) (.tuple (ns.map PyData.int)) := .tup h (dpAll_ints ns)
theorem eqv_row (ns : List Int) : PyData.eqv (.tuple (ns.map PyData.int)) (.tuple (ns.map PyData.int)) = true := SeqAt.eqv_refl _ (shaped_lay (tupI_shaped ns))
theorem eqv_tups {sts : List (List Str)} (h : ∀ st ∈ sts, ∀ z ∈ st, isNm z = true) : PyData.eqv (.list (sts.map dT)) (.list (sts.map dT)) = true := SeqAt.eqv_refl _ (shaped_lay (tups_shaped h))
theorem atI_end {α : Type} {xs : List α} {v : α} (h : xs[xs.length - 1]? = some v) : atI xs (-1) = some v := by
  have hne : xs ≠ [] := by
    rintro rfl
    simp at h
  have e := List.dropLast_concat_getLast hne
  have e2 : xs.getLast hne = v := by
    rw [List.getLast_eq_getElem]
    obtain ⟨_, e3⟩ := List.getElem?_eq_some_iff.mp h
    exact e3
  rw [← e, e2]
  exact atI_last _ _
theorem cut_but (xs : List V) : cutV xs none (some (-1)) = xs.take (xs.length - 1) := by
  unfold cutV
  rw [show HT.sIx xs.length 0 none = 0 from rfl, List.drop_zero, Nat.sub_zero, show HT.sIx xs.length xs.length (some (-1)) = ((-1) + (xs.length : Int)).toNat from rfl]
  congr 1
  omega
/-! ### no standings -/
theorem map_str_inj {a b : List Str} (h : a.map V.str = b.map V.str) : a = b := List.map_inj_right (fun x y e => V.str.inj e) |>.mp h
theorem inG_no {S : List Way} {xs : List V} (h : ∀ st ∈ stds S, xs ≠ st.map V.str) : inG S xs = false := by
  unfold inG
  rw [decide_eq_false fun m => ?_, Bool.and_false]
  obtain ⟨st, hst, e⟩ := List.mem_map.mp m
  exact h st hst e.symm
theorem inG_len {S : List Way} {xs : List V} (h : xs.length ≠ S.length) : inG S xs = false := inG_no fun st hst e => h (by rw [e, List.length_map, stds_mem hst])
theorem inG_nm {S : List Way} {xs : List V} {x : V} (h : x ∈ xs) (n : nameV x = false) : inG S xs = false := by
  unfold inG
  rw [show xs.all nameV = false from List.all_eq_false.mpr ⟨x, h, by rw [n]; exact Bool.false_ne_true⟩, Bool.false_and]
def OddV (K : PySem.W.Frag) (S : List Way) (H : Hp) (x : V) : Prop := (∃ a xs, x = .ref a ∧ H a = some (.tup xs) ∧ xs.length ≤ 10000 ∧ (∀ y ∈ xs, ∃ t, AnyV K H y t) ∧ inG S xs = false) ∨ (∃ t, AnyV K H x t ∧ t ≠ .tup)
theorem OddV.same {K : PySem.W.Frag} {S : List Way} {H H' : Hp} {x : V} (h : OddV K S H x) (s : Same H H') : OddV K S H' x := by
  rcases h with ⟨a, xs, e, h, l, n, g⟩ | ⟨t, h, n⟩
  · exact .inl ⟨a, xs, e, s _ _ h, l, fun y hy => let ⟨t, q⟩ := n y hy; ⟨t, q.same s⟩, g⟩
  · exact .inr ⟨t, h.same s, n⟩
theorem rep_mem {n : Nat} {xs : List V} {y : V} (h : y ∈ (List.replicate n xs).flatten) : y ∈ xs := by
  obtain ⟨l, hl, hy⟩ := List.mem_flatten.mp h
  rw [(List.mem_replicate.mp hl).2] at hy
  exact hy
theorem rep_has {n : Nat} {xs : List V} {y : V} (hn : 1 ≤ n) (h : y ∈ xs) : y ∈ (List.replicate n xs).flatten := List.mem_flatten.mpr ⟨xs, List.mem_replicate.mpr ⟨by omega, rfl⟩, h⟩
theorem rep_len (n : Nat) (xs : List V) : ((List.replicate n xs).flatten).length = n * xs.length := by
  induction n with
  | zero => simp
  | succ n ih => rw [List.replicate_succ, List.flatten_cons, List.length_append, ih, Nat.succ_mul]; omega
/-- t * k, the tuple as it lies -/
def rRepB : R2 := fun x y H Q => ∃ l k xs, x = .ref l ∧ y = .int k ∧ H l = some (.tup xs) ∧ xs ≠ [] ∧ 1 ≤ k ∧ k ≤ 1000 ∧ xs.length ≤ 1000 ∧ ∀ H' p, Same H H' → H' p = some (.tup (List.replicate k.toNat xs).flatten) → Q (.ref p) H'
theorem op_repB {X : Cx} : OpR X (binaryOp .Mult) rRepB := by
  intro pins s σ H x y v u Q I rx ry h
  obtain ⟨l, k, xs, rfl, rfl, hT, hne, h1, h2, hz, q⟩ := h
  by_cases hk : k = 1
  · subst hk
    cases rx
    obtain ⟨t, rfl⟩ := ry
    obtain ⟨its, r, ⟨⟨cls, dd, data, sl⟩, ho, hc, n, hd⟩, hs⟩ := I.tuple (SqT.of hT)
    simp only at hc hd
    subst hc hd
    refine wpAny_binaryOp_repeat_ref (T := "tuple") (U := "int") (by decide) ⟨_, ho, rfl⟩ (fun s' => typeIs_int s' 1 t) noFill_tuple_mul F.fills_int_mul F.slot_int_rmul repeat_tuple F.slot_int_index.lookup
      (call_meets F.slot_int_rmul (typeIs_int s 1 t) F.entry_int_rmul (F.args_int_rmul_2 _ _) (int_rmul_tuple 1 t l its.toArray n dd sl)
        ⟨ho, rfl, ⟨_, ho, rfl⟩, call_meets F.slot_tuple_mul ⟨_, ho, rfl⟩ F.entry_tuple_mul (F.args_tuple_mul_2 _ _) (tuple_mul1 l its.toArray n dd sl t) ⟨ho, ?_⟩⟩)
    refine ⟨.ref l, H, I, rfl, q H l (Same.refl _) ?_⟩
    show H l = some (.tup (List.replicate 1 xs).flatten)
    rw [List.replicate_one, List.flatten_cons, List.flatten_nil, List.append_nil]
    exact hT
  · exact op_repT pins s σ H _ _ v u Q I rx ry ⟨l, k, xs, rfl, rfl, SqT.of hT, hne, by omega, h2, hz, fun p hp => q _ p (same_upd hp) upd_same⟩
/-- the gains, row by row -/
def GnAt (H : Hp) (gd : Addr) (W : List Way) (γ : List Str → List Int) : Prop := ∃ kvs, H gd = some (.dT kvs) ∧ ∀ st ∈ stds (sh W), (γ st).length = W.length ∧ ∃ a, valV kvs (kS st) = some (.ref a) ∧ H a = some (.tup ((γ st).map V.int))
theorem GnAt.same {H H' : Hp} {gd : Addr} {W : List Way} {γ : List Str → List Int} (h : GnAt H gd W γ) (s : Same H H') : GnAt H' gd W γ := by
  obtain ⟨kvs, e, h⟩ := h
  exact ⟨kvs, s _ _ e, fun st hst => let ⟨l, a, v, q⟩ := h st hst; ⟨l, a, v, s _ _ q⟩⟩
theorem GnAt.get {K : PySem.W.Frag} {H : Hp} {gd c : Addr} {W : List Way} {γ : List Str → List Int} {st : List Str} (h : GnAt H gd W γ) (hst : st ∈ stds (sh W)) (hc : H c = some (.tup (st.map V.str))) : ∃ a, DGet H gd (.ref c) (some (.ref a)) ∧ H a = some (.tup ((γ st).map V.int)) := by
  obtain ⟨kvs, e, h⟩ := h
  obtain ⟨_, a, v, q⟩ := h st hst
  refine ⟨a, ?_, q⟩
  rw [← v]
  exact DGet.t (k := kS st) e (by rw [kS_v]; exact hc)
/-! ### _law_standings_right -/
def spStdsR (K : PySem.W.Frag) (C : Addr) : Sp := fun args H Q _ => ∃ (g d gd : Addr) (W : List Way) (N : Addr → Prop) (γ : List Str → List Int), args = [.ref g, .ref d, .ref gd] ∧ IsG K C N H g (sh W) γ ∧ ShL (fun _ => True) H d W ∧ WOk W ∧ GnAt H gd W γ ∧ ∀ H', Same H H' → Q (.bl true) H'
section
variable {P : Program} {w : World} {K : PySem.W.Frag} {mg : Str → Option Value} {base : Heap} {C : Addr}
variable {fShape fNames fName fSorted fStds fTable fInts fInt fOne fPut : Addr} {dShape dNames dName dSorted dStds dTable dInts dInt dOne dPut : FuncData}
variable {fT fO fN fS fW fNr : Addr} {dT' dO dN dS dW dNr : FuncData}
theorem ok_standings_right {f fSt fGs fGn fIt fLn fK fH fE fI fT' : Addr} {fd dSt dGs dGn dIt dLn dK dH dE dI dT'' : FuncData} (G : GD K mg fShape fNames fName fSorted fStds fTable fInts fInt fOne fPut dShape dNames dName dSorted dStds dTable dInts dInt dOne dPut) (c : GC K C)
    (MSt : Mt K C "standings" "Game.standings" s_Game_standings ["self"] fSt dSt) (MGs : Mt K C "gains" "Game.gains" s_Game_gains ["self", "standing"] fGs dGs) (MGn : Mt K C "gain" "Game.gain" s_Game_gain ["self", "chooser", "standing"] fGn dGn)
    (MIt : MtIter K C fIt dIt) (ML : MtLen K C fLn dLn) (MK : MtCheck K C fK dK) (MH : MtHas K C fH dH) (MS : MtStand K C fE dE) (MI : MtIn K C fI dI) (MT : MtSeat K C fT' dT'') (mi : mg "iter" = none)
    (B : BT K mg fT fO dT' dO) (GL : GnT K mg fN fS fW dN dS dW) (FNr : Fun K "_law_near" "_law_near" s_law_near fNr dNr) (bNr : Binds K dNr ["_law_ways", "_law_standing"] []) (gNr : mg "_law_near" = some (.ref fNr))
    (F : Fun K "_law_standings_right" "_law_standings_right" s_law_standings_right f fd) : FnOk P w K mg base CX0 6 f fd ["_law_game", "_law_ways", "_law_gains_here"] (spStdsR K C) := by
  have S : FnScope ["_law_game", "_law_ways", "_law_gains_here", "_law_standings_here", "_law_found", "_law_standing", "_law_told", "_law_odd", "_law_chooser", "_law_thing"] ["_law_game", "_law_ways", "_law_gains_here"] (defScope s_law_standings_right) := ⟨rfl, rfl, rfl, by decide +kernel, rfl, by decide +kernel, by decide +kernel⟩
  have nd := S.nd
  refine F.ok S (fun vs H Q E h => ?_) (fun cdv A outer s H vs Q E hr h => ?_)
  · obtain ⟨g, d, gd, W, N, γ, rfl, _⟩ := h
    rfl
  · obtain ⟨g, d, gd, W, N, γ, rfl, hG, hW, ok, hgn, q⟩ := h
    have hu := hu_of hr
    have hu65 := hu65_of hr
    have hu64 := hr.units
    have sok := ok.sok
    obtain ⟨dx, wa, la, ta, vs0, kvs0, hGA⟩ := id hG
    obtain ⟨kw, hd, hp⟩ := id hW
    have oLS := ok_lstandings (P := P) (w := w) (base := base) GL.m_sorted GL.W GL.bW GL.gW GL.S
    have oNr := ok_lnear (P := P) (w := w) (base := base) B GL FNr
    have oSt := ok_standings (P := P) (w := w) (mg := mg) (base := base) G.T c MSt
    have oGs := ok_gains (P := P) (w := w) (base := base) G c MGs MS MI
    have oGn := ok_gain (P := P) (w := w) (base := base) G c MGn MS MI MK MH MT
    have oIn := ok_in (P := P) (w := w) (base := base) G c MI
    have oLn := ok_len (P := P) (w := w) (mg := mg) (base := base) G.T c ML
    refine ⟨_, pss_cons (ps_set (i := 3) nd rfl (Or.inl rfl) (pe_call oLS (hr.mono (by decide)) (by rfl) GL.gS GL.S.kp GL.bS .nil pass0 (pa_cons (pv 1) pa_nil)))
      (pss_cons (ps_set (i := 4) nd rfl (Or.inl rfl) (pe_meth0 (pv 0) c.cl MSt.me oSt (hr.mono (by decide)) MSt.b .nil pass0))
      (pss_cons (ps_if (PW.pt (pw_or (pt_cmpR (op_neD hu64) (pv 4) (pv 3) (nomark _)) (pw_or (pt_cmpR (op_neD hu64) (pe_callTy (call_listG G.T mi c MIt ML rfl (hr.mono (by decide))) (by rfl) G.T.m_list (by decide +kernel) (pa_cons (pv 0) pa_nil)) (pv 3) (nomark _))
          (pw_or1 (pt_cmpR op_ne (pe_callB (call_lenOwn (n := 1) (E := E0) ML.me.at_ ML.me.fn oLn (hr.mono (by decide)) ML.b pass0) (by rfl) G.T.m_len PySem.boot_len (pa_cons (pv 0) pa_nil)) (pe_callB call_len_seq (by rfl) G.T.m_len PySem.boot_len (pa_cons (pv 3) pa_nil)) (nomark _)))))) pss_never pss_nil)
      (pss_cons (ps_expr (pe_bm PySem.F.plainAttrs_list PySem.F.slot_list_append PySem.F.type_list_append mt_append (pv 4) (pa_cons pe_non pa_nil)))
      (pss_cons (ps_for PassesOwn.never rfl (pi_list (pv 3)) (pg_name (i := 5) nd rfl (Or.inr rfl))
        (pss_cons (ps_if (PW.pt (pw_or (pt_cmpR (op_notInOwn (E := E0) MI.me.at_ MI.me.fn oIn (hr.mono (by decide)) MI.b pass0) (pv 5) (pv 0) (by rfl)) (pw_or1 (pt_cmpR (op_neD hu64) (pe_meth (pv 0) c.cl MGs.me oGs (hr.mono (by decide)) MGs.b .nil pass0 (pa_cons (pv 5) pa_nil)) (pe_dget hu (pv 2) (pv 5) (fun _ _ => rfl)) (nomark _))))) pss_never pss_nil)
        (pss_cons (ps_setLc (i := 6) (own := [("_law_chooser", 8)]) (g := gName 8) (tt := tYes) rfl nd rfl rfl (sw_true rfl rfl rfl (by decide +kernel)) (pi_list (pe_callB (call_srtD rfl) (by rfl) G.m_sorted (by decide +kernel) (pa_cons (pv 1) pa_nil))) (blkOk_by (N := ["_law_game", "_law_ways", "_law_gains_here", "_law_standings_here", "_law_found", "_law_standing", "_law_told", "_law_odd", "_law_chooser", "_law_thing"]) (sc := defScope s_law_standings_right) (by decide +kernel)) (fun _ _ _ _ _ => pg_name (i := 8) nd rfl (Or.inl rfl)) (fun _ _ _ _ _ => pts_nil)
          (fun _ _ _ _ _ => pe_meth (pv 0) c.cl MGn.me oGn (hr.mono (by decide)) MGn.b .nil pass0 (pa_cons (pv 8) (pa_cons (pv 5) pa_nil))))
        (pss_one (ps_if (PW.pt (pw_or (pt_cmpR (op_neD hu64) (pe_callTy call_tup (by rfl) G.T.m_tuple (by decide +kernel) (pa_cons (pv 6) pa_nil)) (pe_dget hu (pv 2) (pv 5) (fun _ _ => rfl)) (nomark _)) (pw_or1 (pt_not (pt_val (pe_callB call_isi6 (by rfl) G.T.m_isinstance (by decide +kernel) (pa_cons (pe_meth (pv 0) c.cl MGs.me oGs (hr.mono (by decide)) MGs.b .nil pass0 (pa_cons (pv 5) pa_nil)) (pa_cons (pe_bltn (v := .ty "tuple") (by rfl) G.T.m_tuple (by decide +kernel) rfl) pa_nil)))))))) pss_never pss_nil)))))
      (pss_cons (ps_set (i := 7) nd rfl (Or.inl rfl) (pe_op op_cat (pe_call oNr (hr.mono (by decide)) (by rfl) gNr FNr.kp bNr .nil pass0 (pa_cons (pv 1) (pa_cons (pe_ix ix_list (pv 3) (pe_un un_neg pe_int) (fun _ _ => rfl)) pa_nil))) (pe_call oNr (hr.mono (by decide)) (by rfl) gNr FNr.kp bNr .nil pass0 (pa_cons (pv 1) (pa_cons (pe_ix ix_list (pv 3) pe_int (fun _ _ => rfl)) pa_nil)))))
      (pss_cons (ps_set (i := 7) nd rfl (Or.inl rfl) (pe_op op_cat (pv 7) (pe_lst (pa_cons pe_non (pa_cons pe_int (pa_cons pe_str (pa_cons (pe_tup pa_nil) (pa_cons (pe_lst pa_nil) (pa_cons (pe_callTy call_list_of (by rfl) G.T.m_list (by decide +kernel) (pa_cons (pe_ix ix_list (pv 3) pe_int (fun _ _ => rfl)) pa_nil))
          (pa_cons (pe_op op_catB (pe_ix ix_list (pv 3) pe_int (fun _ _ => rfl)) (pe_tup (pa_cons pe_str pa_nil))) (pa_cons (pe_slice sl_tupB (pe_ix ix_list (pv 3) pe_int (fun _ _ => rfl)) po_none (po_some (pe_un un_neg pe_int))) (pa_cons (pe_op op_repB (pe_tup (pa_cons pe_str pa_nil)) (pe_callB call_lenD (by rfl) G.T.m_len PySem.boot_len (pa_cons (pv 1) pa_nil))) pa_nil))))))))))))
      (pss_cons (ps_set (i := 7) nd rfl (Or.inl rfl) (pe_op op_cat (pv 7) (pe_lst (pa_cons (pe_op op_repB (pe_tup (pa_cons pe_non pa_nil)) (pe_callB call_lenD (by rfl) G.T.m_len PySem.boot_len (pa_cons (pv 1) pa_nil))) (pa_cons (pe_op op_repB (pe_tup (pa_cons (pe_lst pa_nil) pa_nil)) (pe_callB call_lenD (by rfl) G.T.m_len PySem.boot_len (pa_cons (pv 1) pa_nil)))
          (pa_cons pe_dnewK (pa_cons pe_bl (pa_cons (pe_tup (pa_cons (pe_ix ix_list (pv 3) pe_int (fun _ _ => rfl)) pa_nil)) pa_nil))))))))
      (pss_one (ps_ret (pe_cmpR (op_eqD hu64) (pe_lc (own := [("_law_thing", 9)]) (g := gName 9) rfl nd (pi_list (pv 7)) (blkOk_by (N := ["_law_game", "_law_ways", "_law_gains_here", "_law_standings_here", "_law_found", "_law_standing", "_law_told", "_law_odd", "_law_chooser", "_law_thing"]) (sc := defScope s_law_standings_right) (by decide +kernel)) (fun _ _ _ _ _ => pg_name (i := 9) nd rfl (Or.inl rfl))
          (fun _ _ _ _ _ => pts_one (pt_cmpR (r := rInOwn C (spIn K C) E0 false) (op_inOwn (E := E0) MI.me.at_ MI.me.fn oIn (hr.mono (by decide)) MI.b pass0) (pv 9) (pv 0) (by rfl))) (fun _ _ _ _ _ => pv 9)) (pe_lst pa_nil) (nomark _))))))))))), ?_⟩
    have stn : ∀ st ∈ stds (sh W), ∀ z ∈ st, isNm z = true := fun st hst => stds_names sok.wn hst
    have few := sok.few
    have sne := stds_ne sok
    have shl : (sh W).length = W.length := sh_len W
    have n1 := ok.n1
    have n4 := ok.n4
    have kwl : kw.length = W.length := (Paired.length hp).symm
    refine ⟨_, rfl, d, W, rfl, ShL.at hW, ok, fun H1 np vs s1 nn hN ts => ?_⟩
    refine ⟨_, rfl, g, dx, _, rfl, (hGA.same s1).hg, rfl, g, N, sh W, γ, rfl, hG.same s1, fun fp us nf tu => ?_⟩
    have s2 := same_upd (o := .lst us) nf
    have hF2 : (upd H1 fp (.lst us)) fp = some (.lst us) := upd_same
    have hN2 := s2 _ _ hN
    have ts2 := ts.same s2
    have tu2 := tu.same s2
    have nfH : H fp = none := s1.free nf
    have npf : np ≠ fp := ne_of_none hN nf
    have s02 := s1.trans s2
    generalize (upd H1 fp (.lst us)) = H2 at s2 hF2 hN2 ts2 tu2 s02
    refine ⟨_, rfl, _, rfl, _, _, .lst (SqL.of hF2) (dp_tups tu2), .lst (SqL.of hN2) (dp_tups ts2), tups_shaped stn, tups_shaped stn, _, rfl, ?_⟩
    rw [eqv_tups stn]
    refine iteF ⟨_, rfl, g, N, sh W, γ, rfl, hG.same s02, sok, fun H3 p3 v3 s3 n3 h3 t3 => ?_⟩
    refine ⟨_, rfl, _, _, .lst (SqL.of h3) (dp_tups t3), .lst (SqL.of (s3 _ _ hN2)) (dp_tups (ts2.same s3)), tups_shaped stn, tups_shaped stn, _, rfl, ?_⟩
    rw [eqv_tups stn]
    have s03 := s02.trans s3
    refine iteF ⟨_, rfl, g, dx, _, rfl, (hGA.same s03).hg, ⟨g, N, sh W, γ, rfl, hG.same s03, (stds (sh W)).length, rfl, Nat.le_of_lt (small1000 (by omega)), ?_⟩⟩
    have hvl : (stds (sh W)).length = vs.length := Paired.length ts
    refine ⟨_, rfl, np, vs, rfl, .inl (SqL.of (s3 _ _ hN2)), rfl, _, rfl, ?_⟩
    rw [← hvl, decide_eq_true rfl]
    refine iteF ?_
    have hF3 := s3 _ _ hF2
    have hul : (stds (sh W)).length = us.length := Paired.length tu
    refine ⟨_, rfl, .inl ⟨rfl, _, SqL.of hF3⟩, fp, _, _, rfl, rfl, hF3, small1000 (by omega), ?_⟩
    have s4 : Same H (upd H3 fp (.lst (us ++ [V.non]))) := fun c o e => by
      rw [upd_ne (ne_of_none e nfH)]
      exact s03 _ _ e
    have hN4 : (upd H3 fp (.lst (us ++ [V.non]))) np = some (.lst vs) := by
      rw [upd_ne npf]
      exact s3 _ _ hN2
    have ts4 : TupsAt (upd H3 fp (.lst (us ++ [V.non]))) (stds (sh W)) vs := (ts2.same s3).upd hF3
    generalize (upd H3 fp (.lst (us ++ [V.non]))) = H4 at s4 hN4 ts4
    refine ⟨_, rfl, np, rfl, ⟨_, SqL.of hN4⟩, for_it (walk_list (K := K) (a := np) (xs := vs)) (fun i σ H' => ∃ v5 v6, σ = [some (.ref g), some (.ref d), some (.ref gd), some (.ref np), some (.ref fp), v5, v6, none, none, none] ∧ Same H4 H')
        ⟨_, _, rfl, Same.refl _⟩ (fun i σ H' _ ⟨_, _, _, sx⟩ => SqL.of (sx _ _ hN4)) ?_ ?_⟩
    · rintro i x σ H7 H8 hi ⟨v5, v6, rfl, s7⟩ ⟨rfl, hx⟩
      obtain ⟨st, hst, cc, rfl, hc⟩ := paired_get ts4 hx
      have hstm := List.mem_of_getElem? hst
      have stl : st.length = W.length := by rw [stds_mem hstm, shl]
      have s07 := s4.trans s7
      have hc8 := s7 _ _ hc
      refine ⟨_, rfl, _, rfl, g, dx, _, rfl, (hGA.same s07).hg, ⟨g, .ref cc, N, sh W, γ, rfl, hG.same s07, .inl ⟨cc, _, rfl, hc8, by rw [List.length_map]; omega, names_any (stn st hstm), fun H9 s9 => ?_⟩⟩⟩
      rw [inG_yes sok hstm]
      refine ⟨_, rfl, _, rfl, iteF ?_⟩
      have s09 := s07.trans s9
      have hc9 := s9 _ _ hc8
      refine ⟨_, rfl, g, dx, _, rfl, (hGA.same s09).hg, rfl, _, rfl, g, cc, st, N, sh W, γ, rfl, hG.same s09, sok, hc9, hstm, fun H10 b10 s10 hb10 => ?_⟩
      have s010 := s09.trans s10
      have hc10 := s10 _ _ hc9
      obtain ⟨ra, hget, hra⟩ := (hgn.same s010).get (K := K) hstm hc10
      refine ⟨_, rfl, _, rfl, gd, _, rfl, hget, _, _, dp_row hb10, dp_row (SqT.of hra), tupI_shaped _, tupI_shaped _, _, rfl, ?_⟩
      rw [eqv_row]
      refine iteF ?_
      refine ⟨_, rfl, d, kw, W.map (·.1), rfl, s010 _ _ hd, keysL hp, (by rw [List.length_map]; exact Nat.lt_of_le_of_lt n4 (by decide)), fun sp nsp => ⟨sp, rfl, ⟨_, SqL.of upd_same⟩, fun D nD => ?_⟩⟩
      have s11 := same_upd (o := .lst ((srt (W.map (·.1))).map V.str)) nsp
      have hsp : (upd H10 sp (.lst ((srt (W.map (·.1))).map V.str))) sp = some (.lst ((srt (W.map (·.1))).map V.str)) := upd_same
      have s011 := s010.trans s11
      have hc11 := s11 _ _ hc10
      have sD := same_upd (o := .lst []) nD
      generalize (upd H10 sp (.lst ((srt (W.map (·.1))).map V.str))) = H11 at s11 hsp s011 hc11 nD sD
      have hgl : (γ st).length = W.length := let ⟨_, _, h⟩ := hgn; (h st hstm).1
      refine lc_it (walk_list (K := K) (a := sp) (xs := (srt (W.map (·.1))).map V.str)) (fun j H' => H' D = some (.lst (((γ st).take j).map V.int)) ∧ Same H11 H') ⟨upd_same, sD⟩ (fun j H' _ ⟨_, sx⟩ => SqL.of (sx _ _ hsp)) ?_ ?_
      · rintro j y H12 H13 hj ⟨hD, s12⟩ ⟨rfl, hy⟩
        rw [List.getElem?_map] at hy
        obtain ⟨z, hz, rfl⟩ := Option.map_eq_some_iff.mp hy
        have hz' : (names (sh W))[j]? = some z := by
          unfold names
          rw [sh_names]
          exact hz
        have hjl : j < (γ st).length := by
          rw [hgl]
          rw [List.length_map, srt_len, List.length_map] at hj
          exact hj
        have s012 := s011.trans s12
        refine ⟨rfl, _, rfl, g, dx, _, rfl, (hGA.same s012).hg, rfl, _, rfl, _, rfl, g, cc, z, j, (γ st)[j], st, N, sh W, γ, rfl, hG.same s012, sok, s12 _ _ hc11, hstm, hz', List.getElem?_eq_getElem hjl, fun H14 s14 => ?_⟩
        have hD14 := s14 _ _ hD
        refine ⟨_, hD14, small1000 (by rw [List.length_map, List.length_take]; omega), ?_, fun r o e => ?_⟩
        · rw [upd_same, List.take_add_one, List.getElem?_eq_getElem hjl, List.map_append]
          rfl
        · rw [upd_ne (ne_of_none e nD)]
          exact s14 _ _ (s12 _ _ e)
      · rintro H12 ⟨hD, s12⟩
        rw [List.length_map, srt_len, List.length_map, ← hgl, List.take_length] at hD
        have s012 := s011.trans s12
        refine ⟨_, rfl, D, _, rfl, .inl ⟨SqL.of hD, fun tp ntp => ?_⟩⟩
        have s13 := same_upd (o := .tup ((γ st).map V.int)) ntp
        have s013 := s012.trans s13
        have hc13 := s13 _ _ (s12 _ _ hc11)
        obtain ⟨ra, hget, hra⟩ := (hgn.same s013).get (K := K) hstm hc13
        refine ⟨_, rfl, _, rfl, gd, _, rfl, hget, _, _, dp_row (SqT.of upd_same), dp_row (SqT.of hra), tupI_shaped _, tupI_shaped _, _, rfl, ?_⟩
        rw [eqv_row]
        refine iteF ⟨_, rfl, g, dx, _, rfl, (hGA.same s013).hg, rfl, _, rfl, g, cc, st, N, sh W, γ, rfl, hG.same s013, sok, hc13, hstm, fun H14 b14 s14 hb14 => ?_⟩
        refine ⟨_, .tup, _, rfl, AnyV.ofT hb14, by decide, _, rfl, iteF ?_⟩
        exact ⟨_, _, rfl, s7.trans (s9.trans (s10.trans (s11.trans (s12.trans (s13.trans s14)))))⟩
    · rintro σ H7 ⟨v5, v6, rfl, s7⟩
      have s07 := s4.trans s7
      have hN7 := s7 _ _ hN4
      have ts7 := ts4.same s7
      have hl0 : 0 < vs.length := by omega
      obtain ⟨st0, hst0, c0, ec0, hc0⟩ := paired_get ts7 (List.getElem?_eq_getElem hl0)
      obtain ⟨st1, hst1, c1, ec1, hc1⟩ := paired_get ts7 (List.getElem?_eq_getElem (show vs.length - 1 < vs.length by omega))
      have h0 : vs[0]? = some (.ref c0) := by rw [List.getElem?_eq_getElem hl0, ec0]
      have h1 : vs[vs.length - 1]? = some (.ref c1) := by rw [List.getElem?_eq_getElem (show vs.length - 1 < vs.length by omega), ec1]
      have m0 := List.mem_of_getElem? hst0
      have m1 := List.mem_of_getElem? hst1
      have l0 : st0.length = W.length := by rw [stds_mem m0, shl]
      have l1 : st1.length = W.length := by rw [stds_mem m1, shl]
      refine ⟨_, rfl, _, rfl, 1, rfl, np, _, _, _, rfl, rfl, SqL.of hN7, atI_end h1, d, c1, W, st1, rfl, hW.same s07, ok, hc1, by omega, stn st1 m1, fun H8 p8 v8 f8 s8 n8 h8 t8 no8 => ?_⟩
      have s08 := s07.trans s8
      refine ⟨_, rfl, _, rfl, np, _, _, _, rfl, rfl, SqL.of (s8 _ _ hN7), atI_nat (j := 0) h0, d, c0, W, st0, rfl, hW.same s08, ok, s8 _ _ hc0, by omega, stn st0 m0, fun H9 p9 v9 f9 s9 n9 h9 t9 no9 => ?_⟩
      have s09 := s08.trans s9
      have v8l : f8.length = v8.length := Paired.length t8
      have v9l : f9.length = v9.length := Paired.length t9
      have few8 := no8.few
      have few9 := no9.few
      refine ⟨p8, p9, v8, v9, rfl, rfl, s9 _ _ h8, h9, Nat.le_of_lt (small1000 (by omega)), fun q1 nq1 => ?_⟩
      have s10 := same_upd (o := .lst (v8 ++ v9)) nq1
      have nearOdd : ∀ {fs : List (List Str)} {us : List V} {H' : Hp}, NearOk (sh W) fs → TupsAt H' fs us → ∀ x ∈ us, OddV K (sh W) H' x := fun {fs us H'} no t x hx => by
        obtain ⟨j, hj, ej⟩ := List.getElem_of_mem hx
        obtain ⟨f, hf, a, rfl, ha⟩ := paired_get t (show us[j]? = some x by rw [List.getElem?_eq_getElem hj, ej])
        have hm := List.mem_of_getElem? hf
        refine .inl ⟨a, _, rfl, ha, by rw [List.length_map]; have := no.ln f hm; omega, names_any (no.nm f hm), inG_no fun st' hst' e => ?_⟩
        exact no.no f hm (by rw [map_str_inj e]; exact hst')
      have od1 : ∀ x ∈ v8 ++ v9, OddV K (sh W) (upd H9 q1 (.lst (v8 ++ v9))) x := fun x hx => by
        rcases List.mem_append.mp hx with hx | hx
        · exact (nearOdd no8 t8 x hx).same (s9.trans s10)
        · exact (nearOdd no9 t9 x hx).same s10
      have l10 : (v8 ++ v9).length ≤ 200 := by
        rw [List.length_append]
        omega
      have hq1 : (upd H9 q1 (.lst (v8 ++ v9))) q1 = some (.lst (v8 ++ v9)) := upd_same
      have s010 := s09.trans s10
      have s710 := s8.trans (s9.trans s10)
      generalize (v8 ++ v9) = x1 at hq1 od1 l10 s10 s010 s710
      generalize (upd H9 q1 (.lst x1)) = H10 at hq1 od1 s10 s010 s710
      -- more odd things
      have hN10 := s710 _ _ hN7
      have hc10 := s710 _ _ hc0
      refine ⟨_, rfl, (by show 0 ≤ sizeLine; decide), fun ta nta => ?_⟩
      have sa := same_upd (o := .tup []) nta
      refine ⟨(by show 0 ≤ sizeLine; decide), fun tb ntb => ?_⟩
      have sb := same_upd (o := .lst []) ntb
      have sab := sa.trans sb
      have hTa := sb _ _ (show (upd H10 ta (.tup [])) ta = some (.tup []) from upd_same)
      have hTb : (upd (upd H10 ta (.tup [])) tb (.lst [])) tb = some (.lst []) := upd_same
      generalize (upd (upd H10 ta (.tup [])) tb (.lst [])) = Hb at sab hTa hTb
      refine ⟨_, rfl, np, _, _, _, rfl, rfl, SqL.of (sab _ _ hN10), atI_nat (j := 0) h0, c0, _, rfl, .inr (SqT.of (sab _ _ hc10)), fun tc ntc => ?_⟩
      have sc := same_upd (o := .lst (st0.map V.str)) ntc
      have hTc : (upd Hb tc (.lst (st0.map V.str))) tc = some (.lst (st0.map V.str)) := upd_same
      have sac := sab.trans sc
      generalize (upd Hb tc (.lst (st0.map V.str))) = Hc at sc hTc sac
      refine ⟨_, rfl, np, _, _, _, rfl, rfl, SqL.of (sac _ _ hN10), atI_nat (j := 0) h0, (by show 1 ≤ sizeLine; decide), fun td ntd => ?_⟩
      have sd := same_upd (o := .tup [V.str (Str.ofString "a")]) ntd
      refine ⟨c0, td, _, _, rfl, rfl, sd _ _ (sac _ _ hc10), upd_same, by rw [List.length_map]; show st0.length + 1 ≤ 1000; omega, fun He te se hTe => ?_⟩
      have sce := sd.trans se
      have sae := sac.trans sce
      refine ⟨_, rfl, np, _, _, _, rfl, rfl, SqL.of (sae _ _ hN10), atI_nat (j := 0) h0, 1, rfl, -1, rfl, c0, _, rfl, sae _ _ hc10, fun Hf tf sf hTf => ?_⟩
      rw [cut_but] at hTf
      have saf := sae.trans sf
      refine ⟨(by show 1 ≤ sizeLine; decide), fun tg ntg => ?_⟩
      have sg := same_upd (o := .tup [V.str (Str.ofString "")]) ntg
      have s0g := s010.trans (saf.trans sg)
      refine ⟨_, rfl, d, kw, rfl, s0g _ _ hd, tg, kw.length, _, rfl, rfl, upd_same, (fun z => nomatch z), by omega, by omega, by decide, fun Hh th sh' hTh => ?_⟩
      have sah := saf.trans (sg.trans sh')
      have sbh := sab.trans (sc.trans (sce.trans (sf.trans (sg.trans sh'))))
      have hkw1 : 1 ≤ kw.length := by omega
      have hk2 : ((kw.length : Int)).toNat = kw.length := rfl
      rw [hk2] at hTh
      have oddA : ∀ x ∈ [V.non, V.int 3, V.str (Str.ofString "a"), V.ref ta, V.ref tb, V.ref tc, V.ref te, V.ref tf, V.ref th], OddV K (sh W) Hh x := by
        intro x hx
        simp only [List.mem_cons, List.not_mem_nil, or_false] at hx
        rcases hx with rfl | rfl | rfl | rfl | rfl | rfl | rfl | rfl | rfl
        · exact .inr ⟨_, AnyV.non, by decide⟩
        · exact .inr ⟨_, AnyV.int 3, by decide⟩
        · exact .inr ⟨_, AnyV.str _ (by decide +kernel), by decide⟩
        · exact .inl ⟨ta, [], rfl, (sc.trans (sce.trans (sf.trans (sg.trans sh')))) _ _ hTa, by decide, (fun _ z => nomatch z), inG_len (by show 0 ≠ _; omega)⟩
        · exact .inr ⟨_, AnyV.lst ((sc.trans (sce.trans (sf.trans (sg.trans sh')))) _ _ hTb), by decide⟩
        · exact .inr ⟨_, AnyV.lst ((sce.trans (sf.trans (sg.trans sh'))) _ _ hTc), by decide⟩
        · refine .inl ⟨te, _, rfl, (sf.trans (sg.trans sh')) _ _ hTe, by rw [List.length_append, List.length_map]; show st0.length + 1 ≤ 10000; omega, fun y hy => ?_, inG_len (by rw [List.length_append, List.length_map]; show st0.length + 1 ≠ _; omega)⟩
          rcases List.mem_append.mp hy with hy | hy
          · exact names_any (stn st0 m0) y hy
          · rw [List.mem_singleton.mp hy]
            exact ⟨_, AnyV.str _ (by decide +kernel)⟩
        · refine .inl ⟨tf, _, rfl, (sg.trans sh') _ _ hTf, by rw [List.length_take, List.length_map]; omega, fun y hy => names_any (stn st0 m0) y (List.mem_of_mem_take hy), inG_len (by rw [List.length_take, List.length_map]; omega)⟩
        · refine .inl ⟨th, _, rfl, hTh, by rw [rep_len]; show kw.length * 1 ≤ 10000; omega, fun y hy => ?_, inG_nm (x := V.str (Str.ofString "")) (rep_has hkw1 (List.mem_singleton.mpr rfl)) (by decide +kernel)⟩
          rw [List.mem_singleton.mp (rep_mem hy)]
          exact ⟨_, AnyV.str _ (by decide +kernel)⟩
      refine ⟨(by show 9 ≤ sizeLine; decide), fun lp nlp => ?_⟩
      have sl := same_upd (o := .lst [V.non, V.int 3, V.str (Str.ofString "a"), V.ref ta, V.ref tb, V.ref tc, V.ref te, V.ref tf, V.ref th]) nlp
      refine ⟨q1, lp, x1, _, rfl, rfl, sl _ _ (sah _ _ hq1), upd_same, Nat.le_of_lt (small1000 (by show x1.length + 9 ≤ 1000; omega)), fun q2 nq2 => ?_⟩
      have s2q := same_upd (o := .lst (x1 ++ [V.non, V.int 3, V.str (Str.ofString "a"), V.ref ta, V.ref tb, V.ref tc, V.ref te, V.ref tf, V.ref th])) nq2
      have sll := sl.trans s2q
      have od2 : ∀ x ∈ x1 ++ [V.non, V.int 3, V.str (Str.ofString "a"), V.ref ta, V.ref tb, V.ref tc, V.ref te, V.ref tf, V.ref th], OddV K (sh W) (upd (upd Hh lp (.lst [V.non, V.int 3, V.str (Str.ofString "a"), V.ref ta, V.ref tb, V.ref tc, V.ref te, V.ref tf, V.ref th])) q2 (.lst (x1 ++ [V.non, V.int 3, V.str (Str.ofString "a"), V.ref ta, V.ref tb, V.ref tc, V.ref te, V.ref tf, V.ref th]))) x := fun x hx => by
        rcases List.mem_append.mp hx with hx | hx
        · exact (od1 x hx).same (sah.trans sll)
        · exact (oddA x hx).same sll
      have l11 : (x1 ++ [V.non, V.int 3, V.str (Str.ofString "a"), V.ref ta, V.ref tb, V.ref tc, V.ref te, V.ref tf, V.ref th]).length ≤ 209 := by
        rw [List.length_append]
        show x1.length + 9 ≤ 209
        omega
      have hq2 : (upd (upd Hh lp (.lst [V.non, V.int 3, V.str (Str.ofString "a"), V.ref ta, V.ref tb, V.ref tc, V.ref te, V.ref tf, V.ref th])) q2 (.lst (x1 ++ [V.non, V.int 3, V.str (Str.ofString "a"), V.ref ta, V.ref tb, V.ref tc, V.ref te, V.ref tf, V.ref th]))) q2 = some (.lst (x1 ++ [V.non, V.int 3, V.str (Str.ofString "a"), V.ref ta, V.ref tb, V.ref tc, V.ref te, V.ref tf, V.ref th])) := upd_same
      have s10i := sah.trans sll
      generalize (x1 ++ [V.non, V.int 3, V.str (Str.ofString "a"), V.ref ta, V.ref tb, V.ref tc, V.ref te, V.ref tf, V.ref th]) = x2 at od2 l11 hq2 sll s10i
      generalize (upd (upd Hh lp (.lst [V.non, V.int 3, V.str (Str.ofString "a"), V.ref ta, V.ref tb, V.ref tc, V.ref te, V.ref tf, V.ref th])) q2 (.lst x2)) = Hi at od2 hq2 sll s10i
      have s0i := s010.trans s10i
      have hNi := s10i _ _ hN10
      have hci := s10i _ _ hc10
      -- the last odd things
      refine ⟨_, rfl, (by show 1 ≤ sizeLine; decide), fun ua nua => ?_⟩
      have sua := same_upd (o := .tup [V.non]) nua
      refine ⟨_, rfl, d, kw, rfl, sua _ _ (s0i _ _ hd), ua, kw.length, _, rfl, rfl, upd_same, (fun z => nomatch z), by omega, by omega, by decide, fun Hj ub sj hUb => ?_⟩
      rw [hk2] at hUb
      have sij := sua.trans sj
      refine ⟨(by show 0 ≤ sizeLine; decide), fun uc nuc => ?_⟩
      have suc := same_upd (o := .lst []) nuc
      have hUc : (upd Hj uc (.lst [])) uc = some (.lst []) := upd_same
      have sik := sij.trans suc
      have hUb' := suc _ _ hUb
      generalize (upd Hj uc (.lst [])) = Hk at suc hUc sik hUb'
      refine ⟨(by show 1 ≤ sizeLine; decide), fun ud nud => ?_⟩
      have sud := same_upd (o := .tup [V.ref uc]) nud
      refine ⟨_, rfl, d, kw, rfl, sud _ _ (sik _ _ (s0i _ _ hd)), ud, kw.length, _, rfl, rfl, upd_same, (fun z => nomatch z), by omega, by omega, (by show 1 ≤ 1000; decide), fun Hm ue sm hUe => ?_⟩
      rw [hk2] at hUe
      have skm := sud.trans sm
      have sim := sik.trans skm
      refine fun uf nuf => ?_
      have suf := same_upd (o := .dK []) nuf
      have hUf : (upd Hm uf (.dK [])) uf = some (.dK []) := upd_same
      have sin := sim.trans suf
      have hUe' := suf _ _ hUe
      have skn := skm.trans suf
      generalize (upd Hm uf (.dK [])) = Hn at suf hUf sin hUe' skn
      refine ⟨_, rfl, np, _, _, _, rfl, rfl, SqL.of (sin _ _ hNi), atI_nat (j := 0) h0, (by show 1 ≤ sizeLine; decide), fun ug nug => ?_⟩
      have sug := same_upd (o := .tup [V.ref c0]) nug
      have hUg : (upd Hn ug (.tup [V.ref c0])) ug = some (.tup [V.ref c0]) := upd_same
      have sio := sin.trans sug
      have sko := skn.trans sug
      generalize (upd Hn ug (.tup [V.ref c0])) = Ho at sug hUg sio sko
      have oddB : ∀ x ∈ [V.ref ub, V.ref ue, V.ref uf, V.bl true, V.ref ug], OddV K (sh W) Ho x := by
        intro x hx
        simp only [List.mem_cons, List.not_mem_nil, or_false] at hx
        rcases hx with rfl | rfl | rfl | rfl | rfl
        · refine .inl ⟨ub, _, rfl, sko _ _ hUb', by rw [rep_len]; show kw.length * 1 ≤ 10000; omega, fun y hy => ?_, inG_nm (x := V.non) (rep_has hkw1 (List.mem_singleton.mpr rfl)) rfl⟩
          rw [List.mem_singleton.mp (rep_mem hy)]
          exact ⟨_, AnyV.non⟩
        · refine .inl ⟨ue, _, rfl, sug _ _ hUe', by rw [rep_len]; show kw.length * 1 ≤ 10000; omega, fun y hy => ?_, inG_nm (x := V.ref uc) (rep_has hkw1 (List.mem_singleton.mpr rfl)) rfl⟩
          rw [List.mem_singleton.mp (rep_mem hy)]
          exact ⟨_, AnyV.lst (sko _ _ hUc)⟩
        · exact .inr ⟨_, AnyV.dK (sug _ _ hUf), by decide⟩
        · exact .inr ⟨_, AnyV.bl true, by decide⟩
        · refine .inl ⟨ug, _, rfl, hUg, (by show 1 ≤ 10000; decide), fun y hy => ?_, inG_nm (x := V.ref c0) (List.mem_singleton.mpr rfl) rfl⟩
          rw [List.mem_singleton.mp hy]
          exact ⟨_, AnyV.tup (sio _ _ hci)⟩
      refine ⟨(by show 5 ≤ sizeLine; decide), fun lq nlq => ?_⟩
      have slq := same_upd (o := .lst [V.ref ub, V.ref ue, V.ref uf, V.bl true, V.ref ug]) nlq
      refine ⟨q2, lq, x2, _, rfl, rfl, slq _ _ (sio _ _ hq2), upd_same, Nat.le_of_lt (small1000 (by show x2.length + 5 ≤ 1000; omega)), fun q3 nq3 => ?_⟩
      have s3q := same_upd (o := .lst (x2 ++ [V.ref ub, V.ref ue, V.ref uf, V.bl true, V.ref ug])) nq3
      have slp := slq.trans s3q
      have od3 : ∀ x ∈ x2 ++ [V.ref ub, V.ref ue, V.ref uf, V.bl true, V.ref ug], OddV K (sh W) (upd (upd Ho lq (.lst [V.ref ub, V.ref ue, V.ref uf, V.bl true, V.ref ug])) q3 (.lst (x2 ++ [V.ref ub, V.ref ue, V.ref uf, V.bl true, V.ref ug]))) x := fun x hx => by
        rcases List.mem_append.mp hx with hx | hx
        · exact (od2 x hx).same (sio.trans slp)
        · exact (oddB x hx).same slp
      have hq3 : (upd (upd Ho lq (.lst [V.ref ub, V.ref ue, V.ref uf, V.bl true, V.ref ug])) q3 (.lst (x2 ++ [V.ref ub, V.ref ue, V.ref uf, V.bl true, V.ref ug]))) q3 = some (.lst (x2 ++ [V.ref ub, V.ref ue, V.ref uf, V.bl true, V.ref ug])) := upd_same
      have s0p := s0i.trans (sio.trans slp)
      generalize (x2 ++ [V.ref ub, V.ref ue, V.ref uf, V.bl true, V.ref ug]) = x3 at od3 hq3 slp s0p
      generalize (upd (upd Ho lq (.lst [V.ref ub, V.ref ue, V.ref uf, V.bl true, V.ref ug])) q3 (.lst x3)) = Hp' at od3 hq3 slp s0p
      refine ⟨_, rfl, q3, rfl, ⟨_, SqL.of hq3⟩, fun D nD => ?_⟩
      have sD := same_upd (o := .lst []) nD
      refine lc_it (walk_list (K := K) (a := q3) (xs := x3)) (fun i H' => H' D = some (.lst []) ∧ Same Hp' H') ⟨upd_same, sD⟩ (fun i H' _ ⟨_, sx⟩ => SqL.of (sx _ _ hq3)) ?_ ?_
      · rintro i x Hr Ht hi ⟨hD, sr⟩ ⟨rfl, hx⟩
        have s0t := s0p.trans sr
        refine ⟨rfl, _, rfl, _, rfl, g, dx, _, rfl, (hGA.same s0t).hg, ⟨g, x, N, sh W, γ, rfl, hG.same s0t, ?_⟩⟩
        rcases (od3 x (List.mem_of_getElem? hx)).same sr with ⟨a, xs, e, h, l, n, ig⟩ | ⟨t, h, n⟩
        · refine .inl ⟨a, xs, e, h, l, n, fun H' s' => ?_⟩
          rw [ig]
          exact ⟨_, rfl, _, rfl, iteF ⟨s' _ _ hD, sr.trans s'⟩⟩
        · exact .inr ⟨t, h, n, fun H' s' => ⟨_, rfl, _, rfl, iteF ⟨s' _ _ hD, sr.trans s'⟩⟩⟩
      · rintro Hr ⟨hD, sr⟩
        refine ⟨(by show 0 ≤ sizeLine; decide), fun le nle => ?_⟩
        have sle := same_upd (o := .lst []) nle
        exact ⟨.list [], .list [], .lst (SqL.of (sle _ _ hD)) .nil, .lst (SqL.of upd_same) .nil, rfl, rfl, q _ (s0p.trans (sr.trans sle))⟩
end
end HG

namespace HG
open PySem PySem.Spec PyProof.Rows L2 HT
open C8 (pss_cut tCut)
/-! ### what stands while the bag changes -/
theorem seqT_but {K : PySem.W.Frag} {H H' : Hp} {b a : Addr} {xs : List V} (kb : But b H H') (hb : ∃ ys, H b = some (.lst ys)) (h : SqT K H a xs) : SqT K H' a xs := by
  obtain ⟨ys, hb⟩ := hb
  rcases h with (h | ⟨o, h⟩) | h
  · exact .inl (.inl (kb _ _ h (ne_of h hb (by intro z; cases z))))
  · exact .inl (.inr ⟨o, kb _ _ h (ne_of h hb (by intro z; cases z))⟩)
  · exact .inr h
theorem GameAt.but {K : PySem.W.Frag} {C : Addr} {N : Addr → Prop} {H H' : Hp} {g : Addr} {S : List Way} {γ : List Str → List Int} {dx w l t : Addr} {vs : List V} {kvs : List (List Key × V)} {b k : Addr} {ns : List Int} (G : GameAt K C N H g S γ dx w l t vs kvs) (ok : SOk S) (B : ABag H b k ns) (kb : But b H H') :
    GameAt K C N H' g S γ dx w l t vs kvs where
  hg := by
    obtain ⟨ys, hb⟩ := abag_ne B
    exact kb _ _ G.hg (ne_of G.hg hb (by intro z; cases z))
  ng := G.ng
  hw := G.hw.but B ok.w1 kb
  nw := G.nw
  hl := by
    refine kb _ _ G.hl fun z => ?_
    obtain ⟨a0, c0, n0, B⟩ := B
    have h := G.hl
    rw [z, B.at_] at h
    have hv := HO.lst.inj (Option.some.inj h)
    have p := G.hs
    rw [← hv] at p
    have l1 := Paired.length p
    have l2 := stds_ne ok
    obtain ⟨_, _, _, e, _⟩ := paired_get p (show [V.int a0, .int c0, .int n0, .ref k][0]? = some (V.int a0) from rfl)
    cases e
  nl := G.nl
  hs := G.hs.tups fun c xs h => by
    obtain ⟨ys, hb⟩ := abag_ne B
    exact kb _ _ h (ne_of h hb (by intro z; cases z))
  ht := by
    obtain ⟨ys, hb⟩ := abag_ne B
    exact kb _ _ G.ht (ne_of G.ht hb (by intro z; cases z))
  nt := G.nt
  hk := paired_imp G.hk fun st kv ⟨e, a, ev, h⟩ => ⟨e, a, ev, seqT_but kb (abag_ne B) h⟩
theorem IsG.but {K : PySem.W.Frag} {C : Addr} {N : Addr → Prop} {H H' : Hp} {g : Addr} {S : List Way} {γ : List Str → List Int} {b k : Addr} {ns : List Int} (G : IsG K C N H g S γ) (ok : SOk S) (B : ABag H b k ns) (kb : But b H H') : IsG K C N H' g S γ :=
  let ⟨dx, w, l, t, vs, kvs, h⟩ := G; ⟨dx, w, l, t, vs, kvs, h.but ok B kb⟩
theorem GnAt.but {H H' : Hp} {gd b k : Addr} {ns : List Int} {W : List Way} {γ : List Str → List Int} (h : GnAt H gd W γ) (B : ABag H b k ns) (kb : But b H H') : GnAt H' gd W γ := by
  obtain ⟨ys, hb⟩ := abag_ne B
  obtain ⟨kvs, e, h⟩ := h
  exact ⟨kvs, kb _ _ e (ne_of e hb (by intro z; cases z)), fun st hst => let ⟨l, a, v, q⟩ := h st hst; ⟨l, a, v, kb _ _ q (ne_of q hb (by intro z; cases z))⟩⟩
/-! ### the due changes, chooser by chooser -/
def dueTo (S : List Way) (st : List Str) (i : Nat) : List Ch := (chs (S.take i)).filter (mayDo S st)
theorem dueTo_all (S : List Way) (st : List Str) : dueTo S st S.length = due S st := by
  unfold dueTo due
  rw [List.take_length]
theorem dueTo_more {S : List Way} {st : List Str} {i : Nat} {q : Way} {z : Str} (nd : (names S).Nodup) (hq : S[i]? = some q) (hz : st[i]? = some z) : dueTo S st (i + 1) = dueTo S st i ++ (q.2.filter fun v => !decide (v = z)).map fun v => (q.1, v) := by
  unfold dueTo
  rw [chs_more hq, List.filter_append, List.filter_map]
  congr 2
  refine List.filter_congr fun v _ => ?_
  exact mayDo_at nd hq hz
theorem chs_tups {H : Hp} {cs : List Ch} {vs : List V} (h : Paired (ChAt H) cs vs) : TupsAt H (cs.map fun c => [c.1, c.2]) vs := by
  induction h with
  | nil => exact .nil
  | cons r _ ih =>
    obtain ⟨a, e, q⟩ := r
    exact .cons ⟨a, e, q⟩ ih
theorem due_len {S : List Way} (ok : SOk S) (st : List Str) : (due S st).length ≤ 16 := by
  have h1 := chs_len ok.w4
  have h2 := ok.n4
  exact Nat.le_trans (List.length_filter_le _ _) (by omega)
theorem due_nm {S : List Way} (ok : SOk S) {st : List Str} : ∀ x ∈ (due S st).map (fun c => [c.1, c.2]), ∀ z ∈ x, isNm z = true := by
  intro x hx z hz
  obtain ⟨c, hc, rfl⟩ := List.mem_map.mp hx
  obtain ⟨q, hq, e, hv⟩ := mem_chs.mp (List.mem_filter.mp hc).1
  simp only [List.mem_cons, List.not_mem_nil, or_false] at hz
  rcases hz with rfl | rfl
  · rw [← e]
    exact ok.nm q hq
  · exact ok.wn q hq _ hv
theorem dueTo_len {S : List Way} (ok : SOk S) (st : List Str) (i : Nat) : (dueTo S st i).length ≤ 16 := by
  have h1 := chs_len (S := S.take i) fun q hq => ok.w4 q (List.mem_of_mem_take hq)
  have h2 := ok.n4
  have h3 : (S.take i).length ≤ S.length := List.length_take_le' ..
  exact Nat.le_trans (List.length_filter_le _ _) (by omega)
/-! ### _law_changes_right -/
def spChangesR (K : PySem.W.Frag) (C : Addr) : Sp := fun args H Q _ => ∃ (b k g d gd : Addr) (ns : List Int) (W : List Way) (N : Addr → Prop) (γ : List Str → List Int), args = [.ref b, .ref g, .ref d, .ref gd] ∧ ABag H b k ns ∧ IsG K C N H g (sh W) γ ∧ ShL (fun _ => True) H d W ∧ WOk W ∧ GnAt H gd W γ ∧
  ∀ H', But b H H' → ABag H' b k ns → Q (.bl true) H'
section
variable {P : Program} {w : World} {K : PySem.W.Frag} {mg : Str → Option Value} {base : Heap} {C : Addr}
variable {fShape fNames fName fSorted fStds fTable fInts fInt fOne fPut : Addr} {dShape dNames dName dSorted dStds dTable dInts dInt dOne dPut : FuncData}
variable {fT fO fN fS fW fM fCh : Addr} {dT' dO dN dS dW dM dCh : FuncData}
abbrev NsC : List Str := ["_law_bag_here", "_law_game", "_law_ways", "_law_gains_here", "_law_names_here", "_law_standing", "_law_due", "_law_at", "_law_chooser", "_law_way", "_law_found", "_law_goal", "_law_change"]
theorem ok_changes_right {f fCg fGo fOw fE fI fC fH fT' : Addr} {fd dCg dGo dOw dE dI dC dH dT'' : FuncData} (G : GD K mg fShape fNames fName fSorted fStds fTable fInts fInt fOne fPut dShape dNames dName dSorted dStds dTable dInts dInt dOne dPut) (GH : GDC K mg fCh dCh) (c : GC K C)
    (MCg : Mt K C "changes" "Game.changes" s_Game_changes ["self", "standing"] fCg dCg) (MGo : MtGoal K C fGo dGo) (MOw : Mt K C "own" "Game.own" s_Game_own ["self", "standing", "change"] fOw dOw)
    (MS : MtStand K C fE dE) (MI : MtIn K C fI dI) (MC : MtCan K C fC dC) (MH : MtHas K C fH dH) (MT : MtSeat K C fT' dT'') (me : mg "enumerate" = none)
    (B : BT K mg fT fO dT' dO) (GL : GnT K mg fN fS fW dN dS dW) (M : MxT K mg fM dM)
    (F : Fun K "_law_changes_right" "_law_changes_right" s_law_changes_right f fd) : FnOk P w K mg base CX0 7 f fd ["_law_bag_here", "_law_game", "_law_ways", "_law_gains_here"] (spChangesR K C) := by
  have S : FnScope NsC ["_law_bag_here", "_law_game", "_law_ways", "_law_gains_here"] (defScope s_law_changes_right) := ⟨rfl, rfl, rfl, by decide +kernel, rfl, by decide +kernel, by decide +kernel⟩
  have nd := S.nd
  refine F.ok S (fun vs H Q E h => ?_) (fun cdv A outer s H vs Q E hr h => ?_)
  · obtain ⟨b, k, g, d, gd, ns, W, N, γ, rfl, _⟩ := h
    rfl
  · obtain ⟨b, k, g, d, gd, ns, W, N, γ, rfl, B0, hG, hW, ok, hgn, q⟩ := h
    have hu := hu_of hr
    have hu65 := hu65_of hr
    have hu64 := hr.units
    have sok := ok.sok
    have oLS := ok_lstandings (P := P) (w := w) (base := base) GL.m_sorted GL.W GL.bW GL.gW GL.S
    have oT := ok_take (P := P) (w := w) (base := base) B.T B.ml B.mi
    have oM := ok_mixed (P := P) (w := w) (base := base) B M.F
    have oCg := ok_changes (P := P) (w := w) (base := base) G GH c MCg MS MI MC MH MT
    have oGo := ok_goal (P := P) (w := w) (base := base) G GH c MGo MS MI MC MH MT
    have oOw := ok_own (P := P) (w := w) (base := base) G GH c MOw MGo MS MI MC MH MT
    refine ⟨_, pss_cons (ps_set (i := 4) nd rfl (Or.inl rfl) (pe_callB (call_srtD rfl) (by rfl) G.m_sorted (by decide +kernel) (pa_cons (pv 2) pa_nil)))
      (pss_cons (ps_for PassesOwn.never rfl (pi_list (pe_slice sl_list (pe_call oM (hr.mono (by decide)) (by rfl) M.g M.F.kp M.b .nil pass0 (pa_cons (pv 0) (pa_cons (pe_call oLS (hr.mono (by decide)) (by rfl) GL.gS GL.S.kp GL.bS .nil pass0 (pa_cons (pv 2) pa_nil)) pa_nil))) po_none (po_some pe_int))) (pg_name (i := 5) nd rfl (Or.inr rfl))
        (pss_cons (ps_set (i := 6) nd rfl (Or.inl rfl) (pe_lst pa_nil))
        (pss_cons (ps_for PassesOwn.never rfl (pi_enum (by rfl) me (pa_cons (pv 4) pa_nil)) (pg_tup rfl (pgs_cons (pg_name (i := 7) nd rfl (Or.inr rfl)) (pgs_cons (pg_name (i := 8) nd rfl (Or.inr rfl)) pgs_nil)))
          (pss_one (ps_set (i := 6) nd rfl (Or.inl rfl) (pe_op op_cat (pv 6) (pe_lc (own := [("_law_way", 9)]) (g := gName 9) rfl nd (pi_list (pe_callB call_srt (by rfl) G.m_sorted (by decide +kernel) (pa_cons (pe_dget hu (pv 2) (pv 8) (fun _ _ => rfl)) pa_nil))) (blkOk_by (N := NsC) (sc := defScope s_law_changes_right) (by decide +kernel)) (fun _ _ _ _ _ => pg_name (i := 9) nd rfl (Or.inl rfl))
            (fun _ _ _ _ _ => pts_one (pt_cmpR op_ne (pv 9) (pe_ix (r := rIxT K) ix_tup (pv 5) (pv 7) (fun _ _ => rfl)) (nomark _))) (fun _ _ _ _ _ => pe_tup (pa_cons (pv 8) (pa_cons (pv 9) pa_nil))))))))
        (pss_cons (ps_set (i := 10) nd rfl (Or.inl rfl) (pe_meth (pv 1) c.cl MCg.me oCg (hr.mono (by decide)) MCg.b .nil pass0 (pa_cons (pv 5) pa_nil)))
        (pss_cons (ps_if (pt_cmpR (op_neD hu64) (pv 10) (pv 6) (nomark _)) pss_never pss_nil)
        (pss_cons (ps_expr (pe_bm PySem.F.plainAttrs_list PySem.F.slot_list_append PySem.F.type_list_append mt_append (pv 10) (pa_cons (pe_tup (pa_cons pe_str (pa_cons pe_str pa_nil))) pa_nil)))
        (pss_one (ps_for PassesOwn.never rfl (pi_list (pv 6)) (pg_tup rfl (pgs_cons (pg_name (i := 8) nd rfl (Or.inr rfl)) (pgs_cons (pg_name (i := 9) nd rfl (Or.inl rfl)) pgs_nil)))
          (pss_cons (ps_set (i := 7) nd rfl (Or.inr rfl) (pe_bm PySem.F.plainAttrs_list PySem.F.slot_list_index PySem.F.type_list_index mt_index (pv 4) (pa_cons (pv 8) pa_nil)))
          (pss_cons (ps_set (i := 11) nd rfl (Or.inl rfl) (pe_op op_catB (pe_op op_catB (pe_slice sl_tupB (pv 5) po_none (po_some (pv 7))) (pe_tup (pa_cons (pv 9) pa_nil))) (pe_slice sl_tupB (pv 5) (po_some (pe_op op_add (pv 7) pe_int)) po_none)))
          (pss_cons (ps_set (i := 12) nd rfl (Or.inl rfl) (pe_ifExp (pt_cmpR op_eq (pe_call oT (hr.mono (by decide)) (by rfl) B.gT B.T.kp B.bT .nil pass0 (pa_cons (pv 0) (pa_cons pe_int pa_nil))) pe_int (nomark _)) (pe_lst (pa_cons (pv 8) (pa_cons (pv 9) pa_nil))) (pe_tup (pa_cons (pv 8) (pa_cons (pv 9) pa_nil)))))
          (pss_one (ps_if (PW.pt (pw_or (pt_cmpR (op_neD hu64) (pe_meth (pv 1) c.cl MGo.me oGo (hr.mono (by decide)) MGo.b .nil pass0 (pa_cons (pv 5) (pa_cons (pv 12) pa_nil))) (pv 11) (nomark _))
              (pw_or1 (pt_cmpR op_ne (pe_meth (pv 1) c.cl MOw.me oOw (hr.mono (by decide)) MOw.b .nil pass0 (pa_cons (pv 5) (pa_cons (pv 12) pa_nil))) (pe_op op_sub (pe_ix ix_tup (pe_dget hu (pv 3) (pv 11) (fun _ _ => rfl)) (pv 7) (fun _ _ => rfl)) (pe_ix ix_tup (pe_dget hu (pv 3) (pv 5) (fun _ _ => rfl)) (pv 7) (fun _ _ => rfl))) (nomark _))))) pss_never pss_nil)))))))))))))
      (pss_one (ps_ret pe_bl))), ?_⟩
    obtain ⟨dx, wa, la, ta, vs0, kvs0, hGA⟩ := id hG
    obtain ⟨kw, hd, hp⟩ := id hW
    have stn : ∀ st ∈ stds (sh W), ∀ z ∈ st, isNm z = true := fun st hst => stds_names sok.wn hst
    have few := sok.few
    have shl : (sh W).length = W.length := sh_len W
    have n4 := ok.n4
    have kwl : kw.length = W.length := (Paired.length hp).symm
    have hnmW : srt (W.map (·.1)) = names (sh W) := (sh_names W).symm
    have snl : (names (sh W)).length = W.length := by unfold names; rw [List.length_map, shl]
    refine ⟨_, rfl, d, kw, W.map (·.1), rfl, hd, keysL hp, (by rw [List.length_map]; exact Nat.lt_of_le_of_lt n4 (by decide)), fun np nn => ?_⟩
    rw [hnmW]
    have s1 := same_upd (o := .lst ((names (sh W)).map V.str)) nn
    have hN : (upd H np (.lst ((names (sh W)).map V.str))) np = some (.lst ((names (sh W)).map V.str)) := upd_same
    have B1 := B0.same s1
    have npb : np ≠ b := abag_not B0 nn
    have kb1 : But b H (upd H np (.lst ((names (sh W)).map V.str))) := But.of s1
    generalize (upd H np (.lst ((names (sh W)).map V.str))) = H1 at s1 hN B1 kb1
    refine ⟨_, rfl, _, rfl, d, W, rfl, ShL.at (hW.same s1), ok, fun H2 sp us s2 nsp hsp ts => ?_⟩
    have B2 := B1.same s2
    have spb : sp ≠ b := abag_not B1 nsp
    refine ⟨b, k, sp, ns, us, rfl, B2, SqL.of hsp, spb, by rw [← Paired.length ts]; omega, fun H3 mp ys kb3 B3 nmp hmp hperm => ?_⟩
    refine ⟨9, rfl, mp, ys, rfl, SqL.of hmp, fun lp nlp => ?_⟩
    rw [show cutV ys none (some 9) = ys.take 9 from cut_to ys 9]
    have s4 := same_upd (o := .lst (ys.take 9)) nlp
    have hL : (upd H3 lp (.lst (ys.take 9))) lp = some (.lst (ys.take 9)) := upd_same
    have kb13 : But b H1 H3 := (But.of s2).trans kb3
    have kb4 : But b H (upd H3 lp (.lst (ys.take 9))) := kb1.trans (kb13.trans (But.of s4))
    have B4 := B3.same s4
    have lpb : lp ≠ b := abag_not B3 nlp
    have hN4 : (upd H3 lp (.lst (ys.take 9))) np = some (.lst ((names (sh W)).map V.str)) := s4 _ _ (kb13 _ _ hN npb)
    have tb : ∀ (H H' : Hp), But b H H' → ABag H b k ns → ∀ c xs, H c = some (.tup xs) → H' c = some (.tup xs) := fun H H' kb B c xs e => by
      obtain ⟨zs, hb⟩ := abag_ne B
      exact kb _ _ e (ne_of e hb (by intro z; cases z))
    have hLm : ∀ x ∈ ys.take 9, ∃ st c, x = .ref c ∧ st ∈ stds (sh W) ∧ (upd H3 lp (.lst (ys.take 9))) c = some (.tup (st.map V.str)) := fun x hx => by
      have hx' := hperm.mem_iff.mp (List.mem_of_mem_take hx)
      obtain ⟨j, hj, ej⟩ := List.getElem_of_mem hx'
      obtain ⟨st, hst, c, e, h⟩ := paired_get ts (show us[j]? = some x by rw [List.getElem?_eq_getElem hj, ej])
      exact ⟨st, c, e, List.mem_of_getElem? hst, s4 _ _ (tb _ _ kb3 B2 _ _ h)⟩
    generalize (upd H3 lp (.lst (ys.take 9))) = H4 at s4 hL kb4 B4 hN4 hLm
    refine ⟨lp, rfl, ⟨_, SqL.of hL⟩, for_it (walk_list (K := K) (a := lp) (xs := ys.take 9)) (fun i σ H' => ∃ v5 v6 v7 v8 v9 v10 v11 v12, σ = [some (.ref b), some (.ref g), some (.ref d), some (.ref gd), some (.ref np), v5, v6, v7, v8, v9, v10, v11, v12] ∧ But b H4 H' ∧ ABag H' b k ns)
        ⟨_, _, _, _, _, _, _, _, rfl, But.of (Same.refl _), B4⟩ (fun i σ H' _ ⟨_, _, _, _, _, _, _, _, _, kb, _⟩ => SqL.of (kb _ _ hL lpb)) ?_ ?_⟩
    · rintro i x σ H5' H5 hi ⟨v5, v6, v7, v8, v9, v10, v11, v12, rfl, kb5, B5⟩ ⟨rfl, hx⟩
      obtain ⟨st, cc, rfl, hstm, hc4⟩ := hLm x (List.mem_of_getElem? hx)
      have hc5 := tb _ _ kb5 B4 _ _ hc4
      have stl : st.length = W.length := by rw [stds_mem hstm, shl]
      have kb05 := kb4.trans kb5
      have hG5 := hG.but sok B0 kb05
      have hGA5 := hGA.but sok B0 kb05
      have hW5 := hW.but B0 ok.w1 kb05
      have hgn5 := hgn.but B0 kb05
      have hN5 := kb5 _ _ hN4 npb
      obtain ⟨kw5, hd5, hp5⟩ := id hW5
      refine ⟨(by show 0 ≤ sizeLine; decide), fun e0 ne0 => ?_⟩
      have s6 := same_upd (o := .lst []) ne0
      refine ⟨_, rfl, np, _, rfl, SqL.of (s6 _ _ hN5), for_enum (K := K) (a := np) (xs := (names (sh W)).map V.str) (fun j σ H' => ∃ dp es v7 v8 v9, σ = [some (.ref b), some (.ref g), some (.ref d), some (.ref gd), some (.ref np), some (.ref cc), some (.ref dp), v7, v8, v9, v10, v11, v12] ∧ Same H5 H' ∧ H5 dp = none ∧ H' dp = some (.lst es) ∧ Paired (ChAt H') (dueTo (sh W) st j) es)
        ⟨e0, [], _, _, _, rfl, s6, ne0, upd_same, by rw [show dueTo (sh W) st 0 = [] from rfl]; exact .nil⟩ (fun j σ H' ⟨_, _, _, _, _, _, sx, _⟩ => SqL.of (sx _ _ hN5)) ?_ ?_⟩
      · rintro j y t σ H6 hj ⟨dp, es, v7, v8, v9, rfl, s6, ndp, hdp, hes⟩ nt
        rw [List.getElem?_map] at hj
        obtain ⟨zn, hzn, rfl⟩ := Option.map_eq_some_iff.mp hj
        unfold names at hzn
        rw [List.getElem?_map] at hzn
        obtain ⟨qj, hqj, rfl⟩ := Option.map_eq_some_iff.mp hzn
        have hqm := List.mem_of_getElem? hqj
        obtain ⟨q0, hq0, rfl⟩ := sh_of ok.nd hqm
        have hjl : j < st.length := by
          rw [stl, ← shl]
          exact (List.getElem?_eq_some_iff.mp hqj).1
        have hz : st[j]? = some st[j] := List.getElem?_eq_getElem hjl
        have st' := same_upd (o := .tup [.int (j : Nat), .str q0.1]) nt
        have s7 := s6.trans st'
        refine ⟨t, _, rfl, SqT.of upd_same, rfl, _, _, rfl, _, _, rfl, rfl, ?_⟩
        obtain ⟨aw, hv, _, haw⟩ := way_at (paired_imp hp5 fun q kv h => h.same s7) ok.nd hq0
        have hg : DGet (upd H6 t (.tup [.int (j : Nat), .str q0.1])) d (.str q0.1) (some (.ref aw)) := by
          rw [← hv]
          exact DGet.k (k := Sum.inr q0.1) (s7 _ _ hd5)
        have hdp7 := st' _ _ hdp
        have hc7 := s7 _ _ hc5
        have hes7 : Paired (ChAt (upd H6 t (.tup [.int (j : Nat), .str q0.1]))) (dueTo (sh W) st j) es := paired_imp hes fun _ _ h => h.same st'
        generalize (upd H6 t (.tup [.int (j : Nat), .str q0.1])) = H7 at st' s7 hg haw hdp7 hc7 hes7
        have w4 := ok.w4 q0 hq0
        refine ⟨_, rfl, _, rfl, _, rfl, d, _, rfl, hg, aw, q0.2, rfl, .inl (SqL.of haw), (by omega), fun wp nwp => ⟨wp, rfl, ⟨_, SqL.of upd_same⟩, fun D nD => ?_⟩⟩
        have s8 := same_upd (o := .lst ((srt q0.2).map V.str)) nwp
        have hwp : (upd H7 wp (.lst ((srt q0.2).map V.str))) wp = some (.lst ((srt q0.2).map V.str)) := upd_same
        have hdp8 := s8 _ _ hdp7
        have hc8 := s8 _ _ hc7
        have hes8 : Paired (ChAt (upd H7 wp (.lst ((srt q0.2).map V.str)))) (dueTo (sh W) st j) es := paired_imp hes7 fun _ _ h => h.same s8
        have s58 := s7.trans s8
        generalize (upd H7 wp (.lst ((srt q0.2).map V.str))) = H8 at s8 hwp hdp8 hc8 hes8 s58 nD
        have sD := same_upd (o := .lst []) nD
        have srl : (srt q0.2).length ≤ 4 := by
          rw [srt_len]
          exact w4
        refine lc_it (walk_list (K := K) (a := wp) (xs := (srt q0.2).map V.str)) (fun m H' => ∃ fs, H' D = some (.lst fs) ∧ Paired (ChAt H') ((((srt q0.2).take m).filter fun v => !decide (v = st[j])).map fun v => (q0.1, v)) fs ∧ Same H8 H') ⟨[], upd_same, .nil, sD⟩ (fun m H' _ ⟨_, _, _, sx⟩ => SqL.of (sx _ _ hwp)) ?_ ?_
        · rintro m y H9 H10 hm ⟨fs, hD, hfs, s9⟩ ⟨rfl, hy⟩
          rw [List.getElem?_map] at hy
          obtain ⟨v, hv', rfl⟩ := Option.map_eq_some_iff.mp hy
          have hfl : fs.length ≤ 4 := by
            rw [← Paired.length hfs, List.length_map]
            refine Nat.le_trans (List.length_filter_le _ _) ?_
            rw [List.length_take]
            omega
          refine ⟨rfl, _, rfl, _, rfl, _, rfl, cc, _, _, _, rfl, rfl, SqT.of (s9 _ _ hc8), atI_nat (j := j) (by rw [List.getElem?_map, hz]; rfl), rfl, _, rfl, ?_⟩
          have ed : decide (V.str v = V.str st[j]) = decide (v = st[j]) := by
            by_cases h : v = st[j]
            · rw [decide_eq_true h, decide_eq_true (by rw [h])]
            · rw [decide_eq_false h, decide_eq_false fun z => h (V.str.inj z)]
          rw [ed]
          have tk : (srt q0.2).take (m + 1) = (srt q0.2).take m ++ [v] := by
            rw [List.take_add_one, hv']
            rfl
          cases e : decide (v = st[j]) with
          | true =>
            refine iteF ⟨fs, hD, ?_, s9⟩
            rw [tk, List.filter_append, List.map_append, show List.filter (fun v => !decide (v = st[j])) [v] = [] by rw [List.filter_cons, e]; rfl, List.map_nil, List.append_nil]
            exact hfs
          | false =>
            refine iteT ⟨_, rfl, _, rfl, (by show 2 ≤ sizeLine; decide), fun tp ntp => ?_⟩
            have stp := same_upd (o := .tup [V.str q0.1, V.str v]) ntp
            have hD' := stp _ _ hD
            refine ⟨fs, hD', small1000 (by omega), _, upd_same, ?_, fun r o e' => ?_⟩
            · rw [tk, List.filter_append, List.map_append, show List.filter (fun v => !decide (v = st[j])) [v] = [v] by rw [List.filter_cons, e]; rfl]
              refine paired_append (paired_imp hfs fun c' v' ⟨a, e1, h1⟩ => ⟨a, e1, ?_⟩) (.cons ⟨tp, rfl, ?_⟩ .nil)
              · have h2 := stp _ _ h1
                rw [upd_ne (ne_of h2 hD' (by intro z; cases z))]
                exact h2
              · rw [upd_ne (ne_of upd_same hD' (by intro z; cases z))]
                exact upd_same
            · rw [upd_ne (ne_of_none e' nD)]
              exact stp _ _ (s9 _ _ e')
        · rintro H9 ⟨fs, hD, hfs, s9⟩
          rw [List.length_map, List.take_length] at hfs
          have hel : es.length ≤ 16 := by
            rw [← Paired.length hes]
            exact dueTo_len sok st j
          have hfl : fs.length ≤ 4 := by
            rw [← Paired.length hfs, List.length_map]
            exact Nat.le_trans (List.length_filter_le _ _) srl
          refine ⟨dp, D, es, fs, rfl, rfl, s9 _ _ hdp8, hD, Nat.le_of_lt (small1000 (by omega)), fun p9 n9 => ?_⟩
          have s10 := same_upd (o := .lst (es ++ fs)) n9
          refine ⟨p9, _, _, _, _, rfl, s58.trans (s9.trans s10), s58.free (s9.free n9), upd_same, ?_⟩
          rw [dueTo_more sok.nd hqj hz]
          exact paired_append (paired_imp hes8 fun _ _ h => h.same (s9.trans s10)) (paired_imp hfs fun _ _ h => h.same s10)
      · rintro σ H6 ⟨dp, es, v7, v8, v9, rfl, s6, ndp, hdp, hes⟩
        rw [List.length_map, snl, ← shl, dueTo_all] at hes
        have hel : es.length ≤ 16 := by
          rw [← Paired.length hes]
          exact due_len sok st
        have dpb : dp ≠ b := abag_not B5 ndp
        refine ⟨_, rfl, g, dx, _, rfl, (hGA5.same s6).hg, rfl, _, rfl, g, cc, st, N, sh W, γ, rfl, hG5.same s6, sok, s6 _ _ hc5, hstm, fun H7 fp es' s7 nfp hfp hes' => ?_⟩
        refine ⟨_, rfl, _, rfl, _, _, .lst (SqL.of hfp) (dp_tups (chs_tups hes')), .lst (SqL.of (s7 _ _ hdp)) (dp_tups ((chs_tups hes).same s7)), tups_shaped (due_nm sok), tups_shaped (due_nm sok), _, rfl, ?_⟩
        rw [eqv_tups (due_nm sok)]
        refine iteF ?_
        refine ⟨_, rfl, .inl ⟨rfl, _, SqL.of hfp⟩, (by show 2 ≤ sizeLine; decide), fun tz ntz => ?_⟩
        have stz := same_upd (o := .tup [V.str (Str.ofString "zz"), V.str (Str.ofString "zz")]) ntz
        refine ⟨fp, _, _, rfl, rfl, stz _ _ hfp, small1000 (by rw [← Paired.length hes', Paired.length hes]; omega), ?_⟩
        have s68 : Same H6 (upd (upd H7 tz (.tup [V.str (Str.ofString "zz"), V.str (Str.ofString "zz")])) fp (.lst (es' ++ [V.ref tz]))) := fun c o e => by
          rw [upd_ne (ne_of_none e nfp)]
          exact stz _ _ (s7 _ _ e)
        generalize (upd (upd H7 tz (.tup [V.str (Str.ofString "zz"), V.str (Str.ofString "zz")])) fp (.lst (es' ++ [V.ref tz]))) = H8 at s68
        have hdp8 := s68 _ _ hdp
        have hes8 : Paired (ChAt H8) (due (sh W) st) es := paired_imp hes fun _ _ h => h.same s68
        have s58 := s6.trans s68
        have B8 := B5.same s58
        have kb58 : But b H5 H8 := But.of s58
        have hN8 := s58 _ _ hN5
        have hc8 := s58 _ _ hc5
        refine ⟨_, rfl, dp, rfl, ⟨_, SqL.of hdp8⟩, for_it (walk_list (K := K) (a := dp) (xs := es)) (fun i σ H' => ∃ v7 v8 v9 v11 v12, σ = [some (.ref b), some (.ref g), some (.ref d), some (.ref gd), some (.ref np), some (.ref cc), some (.ref dp), v7, v8, v9, some (.ref fp), v11, v12] ∧ But b H8 H' ∧ ABag H' b k ns)
          ⟨_, _, _, _, _, rfl, But.of (Same.refl _), B8⟩ (fun i σ H' _ ⟨_, _, _, _, _, _, kb, _⟩ => SqL.of (kb _ _ hdp8 dpb)) ?_ ?_⟩
        · rintro m x σ H9' H9 hm ⟨v7, v8, v9, v11, v12, rfl, kb9, B9⟩ ⟨rfl, hx⟩
          obtain ⟨⟨cn, cv⟩, hcv, pa, rfl, hpa⟩ := paired_get hes8 hx
          have hpa9 := tb _ _ kb9 B8 _ _ hpa
          have hcm := List.mem_filter.mp (List.mem_of_getElem? hcv)
          obtain ⟨qj, hqm, eqn, hv⟩ := mem_chs.mp hcm.1
          have eqn' : qj.1 = cn := eqn
          subst eqn'
          have hv' : cv ∈ qj.2 := hv
          obtain ⟨j, hjl, ej⟩ := List.getElem_of_mem hqm
          have hqj : (sh W)[j]? = some qj := by rw [List.getElem?_eq_getElem hjl, ej]
          have hjs : j < st.length := by
            rw [stl, ← shl]
            exact hjl
          have hz : st[j]? = some st[j] := List.getElem?_eq_getElem hjs
          have ne : cv ≠ st[j] := by
            have h := hcm.2
            rw [mayDo_at sok.nd hqj hz] at h
            intro z
            rw [decide_eq_true z] at h
            cases h
          have hset : st.set j cv ∈ stds (sh W) := stds_set hstm hqj hv'
          have hnj : (names (sh W))[j]? = some qj.1 := by
            unfold names
            rw [List.getElem?_map, hqj]
            rfl
          obtain ⟨hl1, _⟩ : (γ (st.set j cv)).length = W.length ∧ True := let ⟨_, _, h⟩ := hgn; ⟨(h _ hset).1, trivial⟩
          obtain ⟨hl2, _⟩ : (γ st).length = W.length ∧ True := let ⟨_, _, h⟩ := hgn; ⟨(h _ hstm).1, trivial⟩
          have hm' : (γ (st.set j cv))[j]? = some ((γ (st.set j cv))[j]'(by omega)) := List.getElem?_eq_getElem (by omega)
          have hn' : (γ st)[j]? = some ((γ st)[j]'(by omega)) := List.getElem?_eq_getElem (by omega)
          refine ⟨pa, _, rfl, SqT.of hpa9, rfl, _, _, rfl, _, _, rfl, rfl, ?_⟩
          have hN9 := kb9 _ _ hN8 npb
          have hc9 := tb _ _ kb9 B8 _ _ hc8
          refine ⟨_, rfl, .inl ⟨rfl, _, SqL.of hN9⟩, _, rfl, np, _, .str qj.1, j, .str qj.1, rfl, rfl, SqL.of hN9, rfl, flat_strs _, by rw [List.getElem?_map, hnj]; rfl, by rw [str_beq]; exact decide_eq_true rfl, fun m' z' hm2 hz' => ?_, ?_⟩
          · rw [List.getElem?_map] at hz'
            obtain ⟨u, hu', rfl⟩ := Option.map_eq_some_iff.mp hz'
            rw [str_beq]
            refine decide_eq_false fun e => ?_
            subst e
            obtain ⟨h1, e1⟩ := List.getElem?_eq_some_iff.mp hu'
            obtain ⟨h2, e2⟩ := List.getElem?_eq_some_iff.mp hnj
            have := (List.getElem_inj sok.nd).mp (e1.trans e2.symm)
            omega
          · refine ⟨_, rfl, _, rfl, (j : Int), rfl, cc, _, rfl, hc9, fun Ha ga sa hga => ?_⟩
            rw [cut_to] at hga
            refine ⟨_, rfl, (by show 1 ≤ sizeLine; decide), fun pt npt => ?_⟩
            have spt := same_upd (o := .tup [V.str cv]) npt
            refine ⟨ga, pt, _, _, rfl, rfl, spt _ _ hga, upd_same, (by rw [List.length_take, List.length_map]; show min j st.length + 1 ≤ 1000; omega), fun Hb gb sb hgb => ?_⟩
            refine ⟨_, rfl, _, rfl, _, _, rfl, rfl, ((j + 1 : Nat) : Int), rfl, cc, _, rfl, sb _ _ (spt _ _ (sa _ _ hc9)), fun Hc gc sc hgc => ?_⟩
            rw [cut_from] at hgc
            refine ⟨gb, gc, _, _, rfl, rfl, sc _ _ hgb, hgc, (by rw [List.length_append, List.length_take, List.length_drop, List.length_map]; show min j st.length + 1 + _ ≤ 1000; omega), fun Hg gp sd hgo => ?_⟩
            have sg : Same H9 Hg := sa.trans (spt.trans (sb.trans (sc.trans sd)))
            have hgo' : Hg gp = some (.tup ((st.set j cv).map V.str)) := by
              rw [hgo, List.set_eq_take_append_cons_drop, if_pos hjs, List.map_append, List.map_take, List.map_cons, List.map_drop, List.append_assoc]
              rfl
            have Bg := B9.same sg
            refine ⟨_, rfl, b, k, ns, _, rfl, Bg, by decide, by decide, fun H10 dd kb10 B10 _ _ => ⟨rfl, _, rfl, ?_⟩⟩
            have kbT : But b H H10 := kb05.trans (kb58.trans (kb9.trans ((But.of sg).trans kb10)))
            have hG10 := hG.but sok B0 kbT
            have hGA10 := hGA.but sok B0 kbT
            have hgn10 := hgn.but B0 kbT
            have hgo10 := tb _ _ kb10 Bg _ _ hgo'
            have hc10 := tb _ _ kb10 Bg _ _ (sg _ _ hc9)
            have D : ∀ (px : Addr) {H' : Hp}, Same H10 H' → SeqV K H' (.ref px) [.str qj.1, .str cv] → Doable K C H' g cc (.ref px) cv j qj st[j] st N (sh W) γ := fun px {H'} s hx => ⟨hG10.same s, sok, hx, hqj, hv', s _ _ hc10, hstm, hz, ne⟩
            cases decide (V.int dd = V.int 0) with
            | true =>
              refine iteT ⟨_, rfl, _, rfl, (by show 2 ≤ sizeLine; decide), fun px npx => ?_⟩
              have sx := same_upd (o := .lst [V.str qj.1, V.str cv]) npx
              have hx : SeqV K (upd H10 px (.lst [V.str qj.1, V.str cv])) (.ref px) [.str qj.1, .str cv] := .lst (SqL.of upd_same) (AnyV.lst upd_same)
              refine ⟨_, rfl, g, dx, _, rfl, (hGA10.same sx).hg, rfl, _, rfl, _, rfl, g, cc, .ref px, cv, j, qj, st[j], st, N, sh W, γ, rfl, D px sx hx, fun H13 p13 s13 h13 => ?_⟩
              refine ⟨_, rfl, _, _, dp_tup (SqT.of h13), dp_tup (SqT.of (s13 _ _ (sx _ _ hgo10))), dT_shaped (stn _ hset), dT_shaped (stn _ hset), _, rfl, ?_⟩
              rw [dT_eqv, decide_eq_true rfl]
              have s03 := sx.trans s13
              refine iteF ⟨_, rfl, g, dx, _, rfl, (hGA10.same s03).hg, rfl, _, rfl, _, rfl, g, cc, .ref px, cv, j, qj, st[j], st, N, sh W, γ, _, _, rfl, D px s03 (hx.same s13), hm', hn', fun H14 s14 => ?_⟩
              have s04 := s03.trans s14
              have hgn14 := hgn10.same s04
              obtain ⟨r1, hget1, hr1⟩ := hgn14.get (K := K) hset (s04 _ _ hgo10)
              obtain ⟨r2, hget2, hr2⟩ := hgn14.get (K := K) hstm (s04 _ _ hc10)
              refine ⟨_, rfl, _, rfl, gd, _, rfl, hget1, _, rfl, r1, _, _, _, rfl, rfl, SqT.of hr1, atI_nat (j := j) (by rw [List.getElem?_map, hm']; rfl), _, rfl, _, rfl, gd, _, rfl, hget2, _, rfl, r2, _, _, _, rfl, rfl, SqT.of hr2, atI_nat (j := j) (by rw [List.getElem?_map, hn']; rfl), _, _, rfl, rfl, rfl, _, rfl, ?_⟩
              rw [decide_eq_true rfl]
              exact iteF ⟨_, _, _, _, _, rfl, kb9.trans ((But.of sg).trans (kb10.trans (But.of s04))), B10.same s04⟩
            | false =>
              refine iteF ⟨_, rfl, _, rfl, (by show 2 ≤ sizeLine; decide), fun px npx => ?_⟩
              have sx := same_upd (o := .tup [V.str qj.1, V.str cv]) npx
              have hx : SeqV K (upd H10 px (.tup [V.str qj.1, V.str cv])) (.ref px) [.str qj.1, .str cv] := .tup (SqT.of upd_same) (AnyV.tup upd_same)
              refine ⟨_, rfl, g, dx, _, rfl, (hGA10.same sx).hg, rfl, _, rfl, _, rfl, g, cc, .ref px, cv, j, qj, st[j], st, N, sh W, γ, rfl, D px sx hx, fun H13 p13 s13 h13 => ?_⟩
              refine ⟨_, rfl, _, _, dp_tup (SqT.of h13), dp_tup (SqT.of (s13 _ _ (sx _ _ hgo10))), dT_shaped (stn _ hset), dT_shaped (stn _ hset), _, rfl, ?_⟩
              rw [dT_eqv, decide_eq_true rfl]
              have s03 := sx.trans s13
              refine iteF ⟨_, rfl, g, dx, _, rfl, (hGA10.same s03).hg, rfl, _, rfl, _, rfl, g, cc, .ref px, cv, j, qj, st[j], st, N, sh W, γ, _, _, rfl, D px s03 (hx.same s13), hm', hn', fun H14 s14 => ?_⟩
              have s04 := s03.trans s14
              have hgn14 := hgn10.same s04
              obtain ⟨r1, hget1, hr1⟩ := hgn14.get (K := K) hset (s04 _ _ hgo10)
              obtain ⟨r2, hget2, hr2⟩ := hgn14.get (K := K) hstm (s04 _ _ hc10)
              refine ⟨_, rfl, _, rfl, gd, _, rfl, hget1, _, rfl, r1, _, _, _, rfl, rfl, SqT.of hr1, atI_nat (j := j) (by rw [List.getElem?_map, hm']; rfl), _, rfl, _, rfl, gd, _, rfl, hget2, _, rfl, r2, _, _, _, rfl, rfl, SqT.of hr2, atI_nat (j := j) (by rw [List.getElem?_map, hn']; rfl), _, _, rfl, rfl, rfl, _, rfl, ?_⟩
              rw [decide_eq_true rfl]
              exact iteF ⟨_, _, _, _, _, rfl, kb9.trans ((But.of sg).trans (kb10.trans (But.of s04))), B10.same s04⟩
        · rintro σ H9 ⟨v7, v8, v9, v11, v12, rfl, kb9, B9⟩
          exact ⟨_, _, _, _, _, _, _, _, rfl, kb5.trans (kb58.trans kb9), B9⟩
    · rintro σ H5 ⟨v5, v6, v7, v8, v9, v10, v11, v12, rfl, kb5, B5⟩
      exact q H5 (kb4.trans kb5) B5
end
end HG

namespace HG
open PySem PySem.Spec PyProof.Rows L2
/-! ### promises that hold where no repr is under way -/
structure FnG (P : Program) (w : World) (K : PySem.W.Frag) (mg : Str → Option Value) (base : Heap) (CX : CXT) (k : Nat) (f : Addr) (fd : FuncData) (ps : List Str) (sp : Sp) : Prop where
  many : ∀ vs H Q E, sp vs H Q E → vs.length = ps.length
  go : ∀ {A : Around} {outer : List Env} {s : Shared} {H : Hp} {args : Args} {us : List Value} {vs : List V} {Q : VK} {E : XK}, A.guards = some [] → Room k A → Env0 P w K mg base A outer s H →
    BindsTo s fd args (ps.zip us) → Vals vs us → sp vs H Q E → codeAny (model P w) A (.call (.ref f) args) (CR CX outer P w H s Q E) s
section
variable {P : Program} {w : World} {K : PySem.W.Frag} {mg : Str → Option Value} {base : Heap}
theorem okG {x qual : Str} {st : Stmt} {f : Addr} {fd : FuncData} {N ps : List Str} {k : Nat} {sp : Sp} (D : Fun K x qual st f fd) (S : FnScope N ps (defScope st)) (many : ∀ vs H Q E, sp vs H Q E → vs.length = ps.length)
    (body : ∀ (cdv : Value) (A : Around) (outer : List Env) (s : Shared) (H : Hp) (vs : List V) (Q : VK) (E : XK), A.guards = some [] → Room k (A.deeper (envOfC qual (defScope st) s.heap.objs.size f cdv)) → sp vs H Q E →
      ∃ t, PSs (cxOf CX0 P w K mg base N qual (defScope st) f cdv A outer s H E).nox (defBody st) t ∧ t { nx := fun _ H' => Q .non H', rt := Q } (start N vs) H) :
    FnG P w K mg base CX0 (k + 1) f fd ps sp := by
  obtain ⟨c0, d0, k0, o0, m0, a0, code, t0, l0, e0, look, hcode⟩ := D.ex
  subst e0
  refine ⟨many, fun {A outer s H args us vs Q E} hgd room env hbind hv hsp => ?_⟩
  have cnt := many _ _ _ _ hsp
  have kin : K.In s.heap := env.mod.kin.keeps fun b o z => (env.bs b o z).1
  have nolim : s.heap.NoLimit := env.mod.nolimit.keeps fun b o z => (env.bs b o z).1
  have kinds : ∀ y ∈ ps.zip us, (defScope st).names.lookup y.1 = some .local ∨ ((defScope st).names.lookup y.1 = some .cell ∧ ((cellsFrom (s.heap.objs.size + 1) (defScope st).names []).lookup y.1).isSome = true) := by
    rintro ⟨n, v⟩ hy
    exact (S.par n (List.of_mem_zip hy).1).imp_right fun z => ⟨z, PySem.W.cellsFrom_some _ _ _ (.inl z)⟩
  refine codeAny_call_function room.depth (kin _ _ look) rfl S.co S.gen rfl (PySem.W.codeRec_of kin hcode) (hbind _ _ _ _ (wpAny_newFunctionEnv_cells S.kind kinds fun en he s1 x => ?_))
  subst he
  obtain ⟨t, ht, hq⟩ := body code A outer s H vs Q E hgd (room.deeper _) hsp
  have inv : Inv (cxOf CX0 P w K mg base N qual (defScope st) f code A outer s H E) [] (start N vs) H s1 := inv_start S room.hd env cnt hv x
  refine ⟨nolim.keeps x.toInCall.keep, codeAny_func (wpAny_mono (ht.nox.run [] s1 (start N vs) H _ inv hq) (fun fl s' hs => ?_) fun _ _ z => z)⟩
  cases fl with
  | next =>
    obtain ⟨σ', H', J, q⟩ := hs
    exact ⟨V.non, H', J.os, J.bare, J.base, J.hok, rfl, q⟩
  | ret u =>
    obtain ⟨v, σ', H', J, rv, q⟩ := hs
    exact ⟨v, H', J.os, J.bare, J.base, J.hok, rv, q⟩
  | brk => exact hs.elim fun _ z => z.elim fun _ z => z.2.elim
  | cont => exact hs.elim fun _ z => z.elim fun _ z => z.2.elim
end
section
variable {X : Cx} {CX : CXT} {k : Nat} {f : Addr} {fd : FuncData} {ps : List Str} {sp : Sp} {dvs : List V} {ds : List Value} {E : XK} {x : Str} {p pos : Pos} {e : Expr} {es : List Expr} {t : TA}
theorem go_fn {pins : List (Addr × Obj)} {σ : L2.St} {H : Hp} {s : Shared} {Q : VK} {us : List Value} {vs : List V} (F : FnG X.prog X.w X.K X.mg X.base CX k f fd ps sp) (hgd : X.A.guards = some []) (hr : Room k X.A) (hb : Binds X.K fd ps ds) (hd : Vals dvs ds) (hx : Passes CX X E)
    (I : Inv X pins σ H s) (r : Vals vs us) (h : sp (vs ++ dvs) H Q E) : wpAny (model X.prog X.w) X.A (call (.ref f) us) (EP X pins σ Q) X.xe s := by
  have rr := r.append hd
  have cnt : (us ++ ds).length = ps.length := rr.length ▸ F.many _ _ _ _ h
  refine wpAny_call (codeAny_mono (F.go hgd hr I.env0 (hb s us I.kIn cnt) rr h) ?_)
  rintro (er | fl) s' hq
  · exact hx pins σ H s er s' I hq
  · cases fl with
    | ret u => exact I.after hq
    | next => exact (show False from hq).elim
    | brk => exact (show False from hq).elim
    | cont => exact (show False from hq).elim
theorem pe_callG (F : FnG X.prog X.w X.K X.mg X.base CX k f fd ps sp) (hgd : X.A.guards = some []) (hr : Room k X.A) (hg : Gl X x) (hm : X.mg x = some (.ref f)) (hk : PySem.W.keepIn X.K (.ref f) = true) (hb : Binds X.K fd ps ds) (hd : Vals dvs ds) (hx : Passes CX X E)
    (ha : PA X (e :: es) t) (hdb : (x == ("__debug__" : Str)) = false := by decide) (he : starEach (e :: es) X.env = (false, eval e X.env) :: starEach es X.env := by rfl) (hpl : (backTo pos (starEach es X.env)).any (·.1) = false := by rfl) :
    PE X (.Call (.Name x p) (e :: es) [] pos) (tCall sp dvs E t) := by
  constructor
  intro pins s σ H Q I h
  refine wpAny_Call_Name_kw (ld_glob I hg hm (PySem.W.callWith_K (h₀ := X.base) I.ok.mod.kin hk (thn (ha.run pos pins s σ H _ I h) ?_) he hpl) hdb)
  rintro us s1 ⟨vs, H1, I1, r, q⟩
  exact ⟨I1.kIn, go_fn F hgd hr hb hd hx I1 r q⟩
end
/-! ### repr of data, dicts too -/
def kD : Key → PyData
  | .inl i => .int i
  | .inr z => .str z
def kTD (ks : List Key) : PyData := .tuple (ks.map kD)
mutual
inductive Shw (K : PySem.W.Frag) (H : Hp) : V → PyData → Prop
  | flat {v : V} {d : PyData} : Dp K H v d → Shw K H v d
  | lst {a : Addr} {xs : List V} {ds : List PyData} : H a = some (.lst xs) → ShwAll K H xs ds → Shw K H (.ref a) (.list ds)
  | tup {a : Addr} {xs : List V} {ds : List PyData} : H a = some (.tup xs) → ShwAll K H xs ds → Shw K H (.ref a) (.tuple ds)
  | dK {a : Addr} {kvs : List (Key × V)} {ds : List PyData} : H a = some (.dK kvs) → ShwAll K H (kvs.map (·.2)) ds → Shw K H (.ref a) (.dict ((kvs.map fun kv => kD kv.1).zip ds))
  | dT {a : Addr} {kvs : List (List Key × V)} {ds : List PyData} : H a = some (.dT kvs) → ShwAll K H (kvs.map (·.2)) ds → Shw K H (.ref a) (.dict ((kvs.map fun kv => kTD kv.1).zip ds))
inductive ShwAll (K : PySem.W.Frag) (H : Hp) : List V → List PyData → Prop
  | nil : ShwAll K H [] []
  | cons {v : V} {vs : List V} {d : PyData} {ds : List PyData} : Shw K H v d → ShwAll K H vs ds → ShwAll K H (v :: vs) (d :: ds)
end
theorem ShwAll.len {K : PySem.W.Frag} {H : Hp} : ∀ {vs : List V} {ds : List PyData}, ShwAll K H vs ds → vs.length = ds.length
  | _, _, .nil => rfl
  | _, _, .cons _ t => congrArg (· + 1) t.len
mutual
theorem dp_nodict {K : PySem.W.Frag} {H : Hp} : ∀ {v : V} {d : PyData}, Dp K H v d → d.hasDict = false
  | _, _, .non => by simp only [PyData.hasDict]
  | _, _, .bl _ => by simp only [PyData.hasDict]
  | _, _, .int _ => by simp only [PyData.hasDict]
  | _, _, .str _ => by simp only [PyData.hasDict]
  | _, _, .lst _ h => by simp only [PyData.hasDict]; exact dpAll_nodict h
  | _, _, .tup _ h => by simp only [PyData.hasDict]; exact dpAll_nodict h
theorem dpAll_nodict {K : PySem.W.Frag} {H : Hp} : ∀ {vs : List V} {ds : List PyData}, DpAll K H vs ds → PyData.hasDictAll ds = false
  | _, _, .nil => by simp only [PyData.hasDictAll]
  | _, _, .cons h t => by simp only [PyData.hasDictAll, dp_nodict h, dpAll_nodict t, Bool.or_self]
end
def RR (P : Program) (w : World) (h : Heap) (v : Value) (d : PyData) : Prop := ∃ as bs, Reads h v d as ∧ ReadAtMost h d.depth bs ∧ ReprK P w bs h d.depth v d.shown
def RA (P : Program) (w : World) (h : Heap) (vs : List Value) (ds : List PyData) : Prop := ∃ as bs, ReadsAll h vs ds as ∧ ReadAtMost h (PyData.depthAll ds) bs ∧ ReprAllK P w bs h (PyData.depthAll ds) vs (PyData.shownAll ds)
section
variable {P : Program} {w : World} {h : Heap}
theorem ra_nil : RA P w h [] [] := ⟨[], [], .nil, (fun _ z => nomatch z), by simp only [PyData.shownAll]; exact .nil⟩
theorem ra_cons {v : Value} {d : PyData} {vs : List Value} {ds : List PyData} (r : RR P w h v d) (t : RA P w h vs ds) : RA P w h (v :: vs) (d :: ds) := by
  obtain ⟨a1, b1, r1, m1, k1⟩ := r
  obtain ⟨a2, b2, r2, m2, k2⟩ := t
  refine ⟨_, b1 ++ b2, .cons r1 r2, ?_, ?_⟩
  · simp only [PyData.depthAll]
    exact (m1.mono (Nat.le_max_left _ _)).append (m2.mono (Nat.le_max_right _ _))
  · simp only [PyData.depthAll, PyData.shownAll]
    exact .cons ((k1.more fun b hb => List.mem_append_left _ hb).level_le (Nat.le_max_left _ _)) (k2.more_le (fun b hb => List.mem_append_right _ hb) (Nat.le_max_right _ _))
theorem rr_list {a : Addr} {o : Obj} {l : List Value} {n : Nat} {ds : List PyData} (ho : h.get? a = some o) (hc : o.cls = .type "list") (hd : o.data = .seq l.toArray n) (t : RA P w h l ds) : RR P w h (.ref a) (.list ds) := by
  obtain ⟨as, bs, r, m, k⟩ := t
  have rd : Reads h (.ref a) (.list ds) _ := .list ho hc hd (by simpa using r)
  have na : a ∉ bs := not_mem_of_deeper rd (by simp only [PyData.depth]; omega) m
  refine ⟨_, a :: bs, rd, ReadAtMost.cons rd (by simp only [PyData.depth]; omega) m, ?_⟩
  simp only [PyData.depth, PyData.shown]
  cases l with
  | nil =>
    cases r
    simp only [PyData.shownAll, listText_nil]
    exact ReprK.listEmpty ho hc hd
  | cons x l => exact ReprK.list ho hc hd na (by simpa using k.length_eq) fun i y e => k.item i y (by simpa using e)
theorem rr_tuple {a : Addr} {o : Obj} {l : List Value} {n : Nat} {ds : List PyData} (ho : h.get? a = some o) (hc : o.cls = .type "tuple") (hd : o.data = .seq l.toArray n) (t : RA P w h l ds) : RR P w h (.ref a) (.tuple ds) := by
  obtain ⟨as, bs, r, m, k⟩ := t
  have rd : Reads h (.ref a) (.tuple ds) _ := .tuple ho hc hd (by simpa using r)
  have na : a ∉ bs := not_mem_of_deeper rd (by simp only [PyData.depth]; omega) m
  refine ⟨_, a :: bs, rd, ReadAtMost.cons rd (by simp only [PyData.depth]; omega) m, ?_⟩
  simp only [PyData.depth, PyData.shown]
  exact ReprK.tuple ho hc hd na (by simpa using k)
theorem zip_fst {α β : Type} {l : List α} {m : List β} (e : l.length = m.length) : (l.zip m).map (·.1) = l := List.map_fst_zip (Nat.le_of_eq e)
theorem zip_snd {α β : Type} {l : List α} {m : List β} (e : l.length = m.length) : (l.zip m).map (·.2) = m := List.map_snd_zip (Nat.le_of_eq e.symm)
theorem rr_dict {a : Addr} {o : Obj} {es : Array DictEntry} {n : Nat} {ks vs : List PyData} (ho : h.get? a = some o) (hc : o.cls = .type "dict") (hd : o.data = .dict es n) (hs : (a == sysModules) = false) (el : ks.length = vs.length)
    (tk : RA P w h (es.toList.map (·.key)) ks) (tv : RA P w h (es.toList.map (·.val)) vs) : RR P w h (.ref a) (.dict (ks.zip vs)) := by
  obtain ⟨a1, b1, r1, m1, k1⟩ := tk
  obtain ⟨a2, b2, r2, m2, k2⟩ := tv
  have hk : (ks.zip vs).map (·.1) = ks := zip_fst el
  have hv : (ks.zip vs).map (·.2) = vs := zip_snd el
  have l1 := PyData.depthAll_keys_le (ks.zip vs)
  have l2 := PyData.depthAll_vals_le (ks.zip vs)
  rw [hk] at l1
  rw [hv] at l2
  have rd : Reads h (.ref a) (.dict (ks.zip vs)) _ := .dict ho hc hd (by rw [hk]; exact r1) (by rw [hv]; exact r2)
  have m : ReadAtMost h (PyData.depthKv (ks.zip vs)) (b1 ++ b2) := (m1.mono l1).append (m2.mono l2)
  have na : a ∉ b1 ++ b2 := not_mem_of_deeper rd (by simp only [PyData.depth]; omega) m
  refine ⟨_, a :: (b1 ++ b2), rd, ReadAtMost.cons rd (by simp only [PyData.depth]; omega) m, ?_⟩
  simp only [PyData.depth, PyData.shown, PyData.shownKv_eq]
  rw [hk, hv]
  exact ReprK.dict ho hc hd hs na (ReprEntriesK.of_two es.toList _ _ (k1.more_le (fun b hb => List.mem_append_left _ hb) l1) (k2.more_le (fun b hb => List.mem_append_right _ hb) l2))
theorem rr_flat {v : Value} {d : PyData} {as : List Addr} (r : Reads h v d as) (hs : d.showable = true) (hn : d.hasDict = false) (hz : d.shown.length ≤ sizeLine) : RR P w h v d := by
  obtain ⟨bs, m, k⟩ := ReprK.of_reads (prog := P) (w := w) r hs (fun z => by rw [hn] at z; cases z) hz
  exact ⟨as, bs, r, m, k⟩
end
section
variable {X : Cx} {pins : List (Addr × Obj)} {σ : L2.St} {H : Hp} {s : Shared}
theorem rr_key {h : Heap} {k : Key} {v : Value} (e : keyIs k v = true) (hs : (kD k).showable = true) (hz : (kD k).shown.length ≤ sizeLine) : RR X.prog X.w h v (kD k) := by
  rcases keyIs_shape e with ⟨i, t, rfl, rfl⟩ | ⟨z, t, rfl, rfl⟩
  · exact rr_flat (.int i t) hs (by simp only [kD, PyData.hasDict]) hz
  · exact rr_flat (.str z t) hs (by simp only [kD, PyData.hasDict]) hz
theorem ra_keysK {h : Heap} : ∀ {es : List DictEntry} {vs : List (Key × Value)}, Pairs (mixKind X.prog X.w) es vs → PyData.showableAll (vs.map fun kv => kD kv.1) = true → (∀ t ∈ PyData.shownAll (vs.map fun kv => kD kv.1), t.length ≤ sizeLine) →
    RA X.prog X.w h (es.map (·.key)) (vs.map fun kv => kD kv.1)
  | _, _, .nil, _, _ => ra_nil
  | _, _, .cons a b c, hs, hz => by
    simp only [List.map_cons, PyData.showableAll, Bool.and_eq_true] at hs
    simp only [List.map_cons, PyData.shownAll, List.mem_cons] at hz
    exact ra_cons (rr_key a hs.1 (hz _ (.inl rfl))) (ra_keysK c hs.2 fun t ht => hz t (.inr ht))
theorem pairs_vals : ∀ {es : List DictEntry} {vs : List (Key × Value)}, Pairs (mixKind X.prog X.w) es vs → es.map (·.val) = vs.map (·.2)
  | _, _, .nil => rfl
  | _, _, .cons a b c => by rw [List.map_cons, List.map_cons, pairs_vals c, b]
theorem kv_vals : ∀ {kvs : List (Key × V)} {vs : List (Key × Value)}, KV kvs vs → Vals (kvs.map (·.2)) (vs.map (·.2))
  | _, _, .nil => .nil
  | _, _, .cons a b => .cons a.2 (kv_vals b)
theorem vals_kD {h0 : Heap} : ∀ (ks : List Key) {us : List Value}, Vals (ks.map kV) us → ReadsAll h0 us (ks.map kD) [] 
  | [], _, .nil => .nil
  | .inl i :: ks, _, .cons a b => by
    obtain ⟨t, rfl⟩ := a
    exact .cons (as := []) (bs := []) (.int i t) (vals_kD ks b)
  | .inr z :: ks, _, .cons a b => by
    obtain ⟨t, rfl⟩ := a
    exact .cons (as := []) (bs := []) (.str z t) (vals_kD ks b)
theorem kDs_nodict : ∀ ks : List Key, PyData.hasDictAll (ks.map kD) = false
  | [] => by simp only [List.map_nil, PyData.hasDictAll]
  | .inl i :: ks => by simp only [List.map_cons, PyData.hasDictAll, kDs_nodict ks, kD, PyData.hasDict, Bool.or_self]
  | .inr i :: ks => by simp only [List.map_cons, PyData.hasDictAll, kDs_nodict ks, kD, PyData.hasDict, Bool.or_self]
theorem ra_keysT (I : Inv X pins σ H s) : ∀ {kvs : List (List Key × V)} {xs : List (List Key × Addr × Value)}, Paired (fun (p : List Key × V) (q : List Key × Addr × Value) => p.1 = q.1 ∧ H q.2.1 = some (.tup (p.1.map kV)) ∧ RelV p.2 q.2.2) kvs xs →
    PyData.showableAll (kvs.map fun kv => kTD kv.1) = true → (∀ t ∈ PyData.shownAll (kvs.map fun kv => kTD kv.1), t.length ≤ sizeLine) → RA X.prog X.w s.heap (xs.map fun q => Value.ref q.2.1) (kvs.map fun kv => kTD kv.1)
  | _, _, .nil, _, _ => ra_nil
  | _, _, .cons a b, hs, hz => by
    simp only [List.map_cons, PyData.showableAll, Bool.and_eq_true] at hs
    simp only [List.map_cons, PyData.shownAll, List.mem_cons] at hz
    refine ra_cons ?_ (ra_keysT I b hs.2 fun t ht => hz t (.inr ht))
    obtain ⟨_, its, va, o, ho, hc, n, hd⟩ := I.hok _ _ a.2.1
    exact rr_flat (.tuple ho hc hd (by simpa using vals_kD _ va)) hs.1 (by unfold kTD; simp only [PyData.hasDict]; exact kDs_nodict _) (hz _ (.inl rfl))
theorem kt_vals : ∀ {kvs : List (List Key × V)} {xs : List (List Key × Addr × Value)}, Paired (fun (p : List Key × V) (q : List Key × Addr × Value) => p.1 = q.1 ∧ H q.2.1 = some (.tup (p.1.map kV)) ∧ RelV p.2 q.2.2) kvs xs → Vals (kvs.map (·.2)) (xs.map fun q => q.2.2)
  | _, _, .nil => .nil
  | _, _, .cons a b => .cons a.2.2 (kt_vals b)
theorem shown_keys {ks vs : List PyData} (e : ks.length = vs.length) (hz : (dictText (PyData.shownKv (ks.zip vs))).length ≤ sizeLine) : ∀ t ∈ PyData.shownAll ks, t.length ≤ sizeLine := fun t ht => by
  obtain ⟨p, hp, hl⟩ := PyData.shownKv_key_le (ks.zip vs) t (by rw [zip_fst e]; exact ht)
  exact Nat.le_trans hl (Nat.le_trans (dictText_mem_le hp) hz)
theorem shown_vals {ks vs : List PyData} (e : ks.length = vs.length) (hz : (dictText (PyData.shownKv (ks.zip vs))).length ≤ sizeLine) : ∀ t ∈ PyData.shownAll vs, t.length ≤ sizeLine := fun t ht => by
  obtain ⟨p, hp, hl⟩ := PyData.shownKv_val_le (ks.zip vs) t (by rw [zip_snd e]; exact ht)
  exact Nat.le_trans hl (Nat.le_trans (dictText_mem_le hp) hz)
theorem showable_keys {ks vs : List PyData} (e : ks.length = vs.length) (h : PyData.showableKv (ks.zip vs) = true) : PyData.showableAll ks = true ∧ PyData.showableAll vs = true := by
  have z := PyData.showableKv_split _ h
  rwa [zip_fst e, zip_snd e] at z
mutual
theorem shw_rr (I : Inv X pins σ H s) : ∀ {v : V} {d : PyData}, Shw X.K H v d → ∀ {u : Value}, RelV v u → d.showable = true → d.shown.length ≤ sizeLine → RR X.prog X.w s.heap u d
  | _, _, .flat h, u, rv, hs, hz => by
    obtain ⟨as, r⟩ := Dp.reads I _ _ u h rv
    exact rr_flat r hs (dp_nodict h) hz
  | _, _, .lst (a := a) h t, u, rv, hs, hz => by
    cases (show u = Value.ref a from rv)
    obtain ⟨_, its, n, va, ho⟩ := I.hok _ _ h
    simp only [PyData.showable] at hs
    simp only [PyData.shown] at hz
    exact rr_list ho rfl rfl (shwAll_ra I t va hs fun x hx => Nat.le_trans (listText_mem_le hx) hz)
  | _, _, .tup (a := a) h t, u, rv, hs, hz => by
    cases (show u = Value.ref a from rv)
    obtain ⟨_, its, va, o, ho, hc, n, hd⟩ := I.hok _ _ h
    simp only [PyData.showable] at hs
    simp only [PyData.shown] at hz
    exact rr_tuple ho hc hd (shwAll_ra I t va hs fun x hx => Nat.le_trans (tupleText_mem_le hx) hz)
  | _, _, .dK (a := a) (kvs := kvs) (ds := ds) h t, u, rv, hs, hz => by
    cases (show u = Value.ref a from rv)
    obtain ⟨_, hsys, vs, rel, o, es, ep, ho, hex, hd, _, hpr, _⟩ := I.hok _ _ h
    have el : (kvs.map fun kv => kD kv.1).length = ds.length := by
      rw [List.length_map, ← t.len, List.length_map]
    simp only [PyData.showable] at hs
    simp only [PyData.shown] at hz
    obtain ⟨s1, s2⟩ := showable_keys el hs
    have ek : (kvs.map fun kv => kD kv.1) = vs.map fun kv => kD kv.1 := by
      have z := congrArg (List.map kD) rel.keys
      rw [List.map_map, List.map_map] at z
      exact z
    refine rr_dict ho hex.1 hd hsys el ?_ ?_
    · rw [ek]
      exact ra_keysK hpr (by rw [← ek]; exact s1) (by rw [← ek]; exact shown_keys el hz)
    · rw [pairs_vals hpr]
      exact shwAll_ra I t (kv_vals rel) s2 (shown_vals el hz)
  | _, _, .dT (a := a) (kvs := kvs) (ds := ds) h t, u, rv, hs, hz => by
    cases (show u = Value.ref a from rv)
    obtain ⟨_, hsys, xs, rel, o, es, ep, ho, hex, hd, he, _⟩ := I.hok _ _ h
    have el : (kvs.map fun kv => kTD kv.1).length = ds.length := by
      rw [List.length_map, ← t.len, List.length_map]
    simp only [PyData.showable] at hs
    simp only [PyData.shown] at hz
    obtain ⟨s1, s2⟩ := showable_keys el hs
    refine rr_dict ho hex.1 hd hsys el ?_ ?_
    · rw [he, List.map_map]
      exact ra_keysT I rel s1 (shown_keys el hz)
    · rw [he, List.map_map]
      exact shwAll_ra I t (kt_vals rel) s2 (shown_vals el hz)
theorem shwAll_ra (I : Inv X pins σ H s) : ∀ {vs : List V} {ds : List PyData}, ShwAll X.K H vs ds → ∀ {us : List Value}, Vals vs us → PyData.showableAll ds = true → (∀ t ∈ PyData.shownAll ds, t.length ≤ sizeLine) → RA X.prog X.w s.heap us ds
  | _, _, .nil, _, .nil, _, _ => ra_nil
  | _, _, .cons h t, _, .cons r rs, hs, hz => by
    simp only [PyData.showableAll, Bool.and_eq_true] at hs
    simp only [PyData.shownAll, List.mem_cons] at hz
    exact ra_cons (shw_rr I h r hs.1 (hz _ (.inl rfl))) (shwAll_ra I t rs hs.2 fun x hx => hz x (.inr hx))
end
end
section
variable {X : Cx}
/-- repr of a list, dicts in it too -/
def rReprL (K : PySem.W.Frag) : List V → Hp → VK → Prop := fun vs H Q => ∃ (a : Addr) (xs : List V) (ds : List PyData), vs = [.ref a] ∧ H a = some (.lst xs) ∧ xs ≠ [] ∧ ShwAll K H xs ds ∧ PyData.showableAll ds = true ∧ PyData.depthAll ds ≤ 30 ∧ (PyData.list ds).shown.length ≤ sizeLine ∧ Q (.str (PyData.list ds).shown) H
theorem call_reprL (hgd : X.A.guards = some []) (hu : X.A.units + 64 < cLine) : CallR X (.builtin "repr") (rReprL X.K) := by
  intro pins s σ H vs us Q I r h
  obtain ⟨a, xs, ds, rfl, ha, hne, t, hs, hd, hz, q⟩ := h
  rw [Vals.ref1 r]
  obtain ⟨_, its, n, va, ho⟩ := I.hok _ _ ha
  have hz' : (listText (PyData.shownAll ds)).length ≤ sizeLine := by simpa only [PyData.shown] using hz
  obtain ⟨as, bs, rd, m, k⟩ := shwAll_ra I t va hs fun x hx => Nat.le_trans (listText_mem_le hx) hz'
  have top : Reads s.heap (.ref a) (.list ds) _ := .list ho rfl rfl (by simpa using rd)
  have na : a ∉ bs := not_mem_of_deeper top (by simp only [PyData.depth]; omega) m
  cases its with
  | nil =>
    cases va
    exact absurd rfl hne
  | cons y l =>
    refine call_repr_slot (by omega) ⟨_, ho, rfl⟩ F.slot_list_repr.toG (call_list_reprK ho rfl rfl na (by simpa using k.length_eq) (fun i z e => k.item i z (by simpa using e)) hgd (fun b _ => Clear.nil b) (by show X.A.units + 1 + (PyData.depthAll ds + 1) < cLine; omega) (fun _ _ z => z) (fun h' u tk hk => ?_) hz')
    refine ⟨_, _, rfl, .str (PyData.list ds).shown, H, I.kept (t' := tk) hk, ⟨u, ?_⟩, q⟩
    simp only [PyData.shown]
end
end HG

namespace HG
open PySem PySem.Spec PyProof.Rows L2
/-! ### the law's call, where its promise wants that no repr is under way -/
theorem script_hp {P : Program} {w : World} {K : PySem.W.Frag} {h : Heap} {a : Addr} {vs : List Value} {ns : List Int} (KX : K.In h) (ha : h.get? a = some { cls := .type "list", data := .seq vs.toArray }) (rv : Vals (ns.map V.int) vs) (hl : ns.length ≤ sizeLine) :
    ∃ H : Hp, Only H ∧ SqL K H a (ns.map V.int) ∧ HOk P w H h ∧ ∀ b u, H b = some u → b = a ∧ K.lookup a = none := by
  have hlen : vs.length = ns.length := by rw [← rv.length, List.length_map]
  cases hk : K.lookup a with
  | none =>
    refine ⟨upd (fun _ => none) a (.frz { cls := .type "list", data := .seq vs.toArray } (.lst (ns.map V.int))), fun b => ?_, .inl (.inr ⟨_, upd_same⟩), fun b u z => ?_, fun b u z => ?_⟩
    · by_cases hb : b = a
      · subst hb
        exact .inr ⟨_, _, upd_same⟩
      · exact .inl (upd_ne hb)
    · by_cases hb : b = a
      · subst hb
        rw [upd_same] at z
        cases z
        exact ⟨ha, by rw [List.length_map]; exact hl, vs, _, rv, ha⟩
      · rw [upd_ne hb] at z
        cases z
    · by_cases hb : b = a
      · exact ⟨hb, rfl⟩
      · rw [upd_ne hb] at z
        cases z
  | some o =>
    have z := KX a o hk
    rw [ha] at z
    cases z
    exact ⟨fun _ => none, fun _ => .inl rfl, .inr ⟨_, vs.toArray, _, hk, rfl, rfl, rfl, by rw [List.size_toArray, hlen]; exact hl, by simpa using rv⟩, (fun _ _ z => nomatch z), (fun _ _ z => nomatch z)⟩
theorem lawG {P : Program} {w : World} {K : PySem.W.Frag} {mg mb : Str → Option Value} {k : Nat} {fa a : Addr} {fd : FuncData} {x : Str} {sp : Sp} {s : Shared} {vs : List Value} {ns : List Int}
    (KX : K.In s.heap) (gl : s.heap.Ns mainGlobals mg) (bl : s.heap.Ns builtinsNs mb) (boot : ∀ x : Str, x ≠ "__name__" → mb x = bootBuiltins x) (lim : s.heap.NoLimit) (gens : s.gens = #[])
    (ha : s.heap.get? a = some { cls := .type "list", data := .seq vs.toArray }) (hi : IntsAre vs ns) (hl : ns.length ≤ sizeLine) (room : Room k callerA)
    (F : ∀ base : Heap, K.In base → base.Ns mainGlobals mg → FnG P w K mg base CX0 k fa fd [x] sp) (bind : ∀ (s : Shared) (u : Value), BindsTo s fd ⟨[u], []⟩ [(x, u)])
    (hsp : ∀ H : Hp, Only H → SqL K H a (ns.map V.int) → sp [.ref a] H (fun v _ => v = .bl true) fun _ _ _ => False) :
    codeAny (model P w) callerA (.call (.ref fa) ⟨[.ref a], []⟩) (fun r s' => r = .ok (.ret (.bool true)) ∧ OldK s.heap s'.heap ∧ s'.os = s.os ∧ AllBare s'.gens) s := by
  obtain ⟨H, only, seq, hok, own⟩ := script_hp (P := P) (w := w) KX ha (vals_ints hi) hl
  -- what no dict and nothing written may be: the script
  have free : ∀ {b : Addr} {o : Obj} {es : Array DictEntry} {ep : Nat}, s.heap.get? b = some o → o.data = .dict es ep → H b = none := by
    intro b o es ep z y
    cases q : H b with
    | none => rfl
    | some u =>
      obtain ⟨rfl, _⟩ := own b u q
      rw [ha] at z
      cases z
      cases y
  have names : ∀ {b : Addr} {m : Str → Option Value}, s.heap.Ns b m → (hidT s.heap H).Ns b m := by
    rintro b m ⟨o, es, ep, z, y, r⟩
    exact ⟨o, es, ep, hidT_get z (free z y), y, r⟩
  have written : K.In (hidT s.heap H) := by
    intro b o z
    refine hidT_get (KX b o z) ?_
    cases q : H b with
    | none => rfl
    | some u =>
      obtain ⟨rfl, y⟩ := own b u q
      rw [y] at z
      cases z
  obtain ⟨mc, l1, l2⟩ := lim
  have env : Env0 P w K mg (hidT s.heap H) callerA [] s H := {
    frames := rfl
    mod := ⟨written, names gl, ⟨mb, names bl, boot⟩, ⟨mc, names l1, l2⟩⟩
    bs := fun _ _ z => of_hidT z
    bsz := Nat.le_of_eq (hidT_size _ _)
    funs := trivial
    frf := fun _ z => nomatch (show _ ∈ ([] : List Addr) from z)
    hok := hok
    bare := .of_eq gens }
  refine codeAny_mono ((F _ written (names gl)).go (us := [.ref a]) (vs := [.ref a]) rfl room env (bind s _) (.cons rfl .nil) (hsp H only seq)) ?_
  rintro (er | fl) s' hq
  · exact (show False from hq).elim
  · cases fl with
    | next => exact (show False from hq).elim
    | brk => exact (show False from hq).elim
    | cont => exact (show False from hq).elim
    | ret u =>
      obtain ⟨v, H', os, bare, un, hok', rv, q⟩ := hq
      cases (show v = V.bl true from q)
      cases (show u = Value.bool true from rv)
      refine ⟨rfl, OldK.of_keep fun b o z => ?_, os, bare⟩
      rcases only b with y | ⟨ob, xs, y⟩
      · exact un.keep b o z y (fun m => nomatch (show b ∈ ([] : List Addr) from m)) (fun m => nomatch m)
      · have z1 := (hok b _ y).1
        rw [z] at z1
        cases z1
        exact (hok' b _ (un.frzs b _ _ y)).1
theorem walkG {l : PySem.W.OpenLaw} {n k : Nat} {q : Program} {loose : List Str} {XP : (Str → Option Value) → Heap → Prop} {YP : World → Heap → Prop} {d : DefRec} {K : Params → PySem.W.Frag} {sp : PySem.W.Frag → Sp} {x : Str}
    (hn : l.most = some n) (hn2 : n ≤ sizeLine) (hdf : d.params.defaults = []) (room : Room k callerA) (hY : ∀ (w : World) (h : Heap), YP w h → (K w.params).In h)
    (F : ∀ (w : World) (mg : Str → Option Value) (fa : Addr) (h : Heap), (K w.params).In h → h.Ns mainGlobals mg → mg d.name = some (.ref fa) →
      ∃ fd : FuncData, (∀ (s : Shared) (u : Value), BindsTo s fd ⟨[u], []⟩ [(x, u)]) ∧ ∀ base : Heap, (K w.params).In base → base.Ns mainGlobals mg → FnG l.prog w (K w.params) mg base CX0 k fa fd [x] (sp (K w.params)))
    (hsp : ∀ (K : PySem.W.Frag) (H : Hp) (a : Addr) (ns : List Int), ns.length ≤ n → Only H → SqL K H a (ns.map V.int) → sp K [.ref a] H (fun v _ => v = .bl true) fun _ _ _ => False) :
    PySem.W.WalkO q loose XP YP l.row.toRowW d [] (fun f vs => PySem.call f vs) := by
  refine Att.attach_call hn hdf ?_
  intro w s0 s1 mg mb fa o pm cd doc a vs ns G Y h1 h2 h3 hmg hobj hints hlen gens
  obtain ⟨fd, bind, ok⟩ := F w mg fa _ (hY w _ Y) G.T.g hmg
  exact lawG (hY w _ Y) G.T.g G.T.b G.T.builtins G.T.nolimit gens hobj hints (Nat.le_trans hlen hn2) room ok bind fun H only seq => hsp _ H a ns hlen only seq
end HG

namespace HG
open PySem PySem.Spec PyProof.Rows L2
/-! ### small data: its text fits -/
structure Sml (n k : Nat) (d : PyData) : Prop where
  lv : d.leavesShort 64 = true
  sh : d.showable = true
  wt : d.weight ≤ n
  dp : d.depth ≤ k
theorem sml_str {z : Str} (h : isNm z = true) : Sml 8 0 (.str z) where
  lv := by
    have o := nm_strOk h
    unfold PyData.strOk at o
    simp only [PyData.leavesShort, List.all_eq_true, decide_eq_true_eq]
    intro c hc
    rw [Array.all_eq_true] at o
    obtain ⟨i, hi, e⟩ := List.getElem_of_mem hc
    have := o i (by simpa using hi)
    simp only [Array.getElem_toList] at e
    rw [e] at this
    have := of_decide_eq_true this
    have e16 : (16 : Nat) ^ 8 = 4294967296 := by decide
    omega
  sh := by simp only [PyData.showable]
  wt := by
    unfold isNm at h
    have h1 := of_decide_eq_true (Bool.and_eq_true_iff.mp h).1
    simp only [PyData.weight]
    exact h1
  dp := by simp only [PyData.depth]; exact Nat.le_refl _
theorem sml_int {i : Int} (h : GainOk i) : Sml 203 0 (.int i) := by
  have hb : i.natAbs < 10 ^ 63 := by
    have e : (10 : Nat) ^ 63 = 1000000000000000000000000000000000000000000000000000000000000000 := by decide
    unfold GainOk at h
    omega
  have hb2 : i.natAbs < 2 ^ 202 := by
    have e : (2 : Nat) ^ 202 = 6427752177035961102167848369364650410088811975131171341205504 := by decide
    unfold GainOk at h
    omega
  have hl : i.natAbs ≠ 0 → i.natAbs.log2 < 202 := fun z => (Nat.log2_lt z).mpr hb2
  refine ⟨?_, ?_, ?_, by simp only [PyData.depth]; exact Nat.le_refl _⟩
  · simp only [PyData.leavesShort, decide_eq_true_eq, PyData.shown]
    refine decide_eq_true ?_
    rw [PySem.ofString_length]
    exact int_text_length_le10 (k := 63) (by decide) hb
  · simp only [PyData.showable, decide_eq_true_eq]
    by_cases z : i.natAbs = 0
    · rw [z]
      decide
    · have := hl z
      omega
  · simp only [PyData.weight]
    split
    · omega
    · by_cases z : i.natAbs = 0
      · rw [z]
        decide
      · have := hl z
        omega
theorem sml_all {n k : Nat} : ∀ {ds : List PyData}, (∀ d ∈ ds, Sml n k d) → PyData.leavesShortAll 64 ds = true ∧ PyData.showableAll ds = true ∧ PyData.weightAll ds ≤ ds.length * (n + 1) ∧ PyData.depthAll ds ≤ k
  | [], _ => ⟨by simp only [PyData.leavesShortAll], by simp only [PyData.showableAll], by simp [PyData.weightAll], by simp [PyData.depthAll]⟩
  | d :: ds, h => by
    obtain ⟨a, b, c, e⟩ := sml_all (ds := ds) fun x hx => h x (List.mem_cons_of_mem _ hx)
    have s := h d List.mem_cons_self
    have s3 := s.wt
    have s4 := s.dp
    refine ⟨by simp only [PyData.leavesShortAll, s.lv, a, Bool.and_self], by simp only [PyData.showableAll, s.sh, b, Bool.and_self], ?_, ?_⟩
    · simp only [PyData.weightAll, List.length_cons, Nat.succ_mul]
      omega
    · simp only [PyData.depthAll]
      omega
theorem sml_list {n k m : Nat} {ds : List PyData} (h : ∀ d ∈ ds, Sml n k d) (hm : ds.length ≤ m) : Sml (m * (n + 1)) (k + 1) (.list ds) := by
  obtain ⟨a, b, c, e⟩ := sml_all h
  have := Nat.mul_le_mul_right (n + 1) hm
  refine ⟨by simp only [PyData.leavesShort]; exact a, by simp only [PyData.showable]; exact b, by simp only [PyData.weight]; omega, by simp only [PyData.depth]; omega⟩
theorem sml_tuple {n k m : Nat} {ds : List PyData} (h : ∀ d ∈ ds, Sml n k d) (hm : ds.length ≤ m) : Sml (m * (n + 1)) (k + 1) (.tuple ds) := by
  obtain ⟨a, b, c, e⟩ := sml_all h
  have := Nat.mul_le_mul_right (n + 1) hm
  refine ⟨by simp only [PyData.leavesShort]; exact a, by simp only [PyData.showable]; exact b, by simp only [PyData.weight]; omega, by simp only [PyData.depth]; omega⟩
theorem sml_kv {n1 n2 k : Nat} : ∀ {ks vs : List PyData}, (∀ d ∈ ks, Sml n1 k d) → (∀ d ∈ vs, Sml n2 k d) → PyData.leavesShortKv 64 (ks.zip vs) = true ∧ PyData.showableKv (ks.zip vs) = true ∧ PyData.weightKv (ks.zip vs) ≤ ks.length * (n1 + n2 + 2) ∧ PyData.depthKv (ks.zip vs) ≤ k
  | [], vs, _, _ => ⟨by simp [PyData.leavesShortKv], by simp [PyData.showableKv], by simp [PyData.weightKv], by simp [PyData.depthKv]⟩
  | d :: ks, [], _, _ => ⟨by simp [PyData.leavesShortKv], by simp [PyData.showableKv], by simp [PyData.weightKv], by simp [PyData.depthKv]⟩
  | d :: ks, x :: vs, h1, h2 => by
    obtain ⟨a, b, c, e⟩ := sml_kv (ks := ks) (vs := vs) (fun y hy => h1 y (List.mem_cons_of_mem _ hy)) fun y hy => h2 y (List.mem_cons_of_mem _ hy)
    have s := h1 d List.mem_cons_self
    have t := h2 x List.mem_cons_self
    have s3 := s.wt
    have s4 := s.dp
    have t3 := t.wt
    have t4 := t.dp
    rw [List.zip_cons_cons]
    refine ⟨by simp only [PyData.leavesShortKv, s.lv, t.lv, a, Bool.and_self], by simp only [PyData.showableKv, s.sh, t.sh, b, Bool.and_self], ?_, ?_⟩
    · simp only [PyData.weightKv, List.length_cons, Nat.succ_mul]
      omega
    · simp only [PyData.depthKv]
      omega
theorem sml_dict {n1 n2 k m : Nat} {ks vs : List PyData} (h1 : ∀ d ∈ ks, Sml n1 k d) (h2 : ∀ d ∈ vs, Sml n2 k d) (hm : ks.length ≤ m) : Sml (m * (n1 + n2 + 2)) (k + 1) (.dict (ks.zip vs)) := by
  obtain ⟨a, b, c, e⟩ := sml_kv h1 h2
  have := Nat.mul_le_mul_right (n1 + n2 + 2) hm
  refine ⟨by simp only [PyData.leavesShort]; exact a, by simp only [PyData.showable]; exact b, by simp only [PyData.weight]; omega, by simp only [PyData.depth]; omega⟩
theorem Sml.mono {n m j k : Nat} {d : PyData} (s : Sml n j d) (h1 : n ≤ m) (h2 : j ≤ k) : Sml m k d := ⟨s.lv, s.sh, Nat.le_trans s.wt h1, Nat.le_trans s.dp h2⟩
theorem Sml.fits {n k : Nat} {d : PyData} (s : Sml n k d) (h : 66 * n + 64 ≤ sizeLine) : d.shown.length ≤ sizeLine := by
  have z := PyData.shown_le 64 (by decide) d s.lv
  have := s.wt
  omega
end HG

namespace HG
open PySem PySem.Spec PyProof.Rows L2
open C8 (pss_cut tCut)
/-! ### a shape handed in another order -/
structure PermW (W W1 : List Way) : Prop where
  nm : (W1.map (·.1)).Perm (W.map (·.1))
  wy : ∀ q ∈ W1, ∃ q0 ∈ W, q0.1 = q.1 ∧ q.2.Perm q0.2
section
variable {W W1 : List Way}
theorem PermW.nd (p : PermW W W1) (ok : WOk W) : (W1.map (·.1)).Nodup := p.nm.nodup_iff.mpr ok.nd
theorem PermW.look (p : PermW W W1) (ok : WOk W) {k : Str} (h : k ∈ W1.map (·.1)) : (lookW W1 k).Perm (lookW W k) := by
  obtain ⟨q, hq, rfl⟩ := List.mem_map.mp h
  obtain ⟨q0, h0, e, pp⟩ := p.wy q hq
  rw [lookW_of (p.nd ok) hq, ← e, lookW_of ok.nd h0]
  exact pp
theorem PermW.sh (p : PermW W W1) (ok : WOk W) : HG.sh W1 = HG.sh W := by
  show (srt (W1.map (·.1))).map (fun k => (k, srt (lookW W1 k))) = (srt (W.map (·.1))).map fun k => (k, srt (lookW W k))
  rw [← srt_of_perm p.nm]
  refine List.map_congr_left fun k hk => ?_
  rw [srt_of_perm (p.look ok (srt_mem.mp hk))]
theorem prod_perm {l m : List Int} (p : l.Perm m) : ∀ a : Int, l.foldl (fun m i => m * i) a = m.foldl (fun m i => m * i) a := by
  induction p with
  | nil => exact fun _ => rfl
  | cons x _ ih => exact fun a => ih _
  | swap x y l =>
    intro a
    rw [List.foldl_cons, List.foldl_cons, List.foldl_cons, List.foldl_cons, Int.mul_assoc, Int.mul_comm y x, ← Int.mul_assoc]
  | trans _ _ i1 i2 => exact fun a => (i1 a).trans (i2 a)
theorem lens_of {V : List Way} (nd : (V.map (·.1)).Nodup) : V.map (fun q => (q.2.length : Int)) = (V.map (·.1)).map fun k => ((lookW V k).length : Int) := by
  rw [List.map_map]
  refine List.map_congr_left fun q hq => ?_
  show _ = ((lookW V q.1).length : Int)
  rw [lookW_of nd hq]
theorem PermW.ok (p : PermW W W1) (ok : WOk W) : WOk W1 where
  nd := p.nd ok
  n1 := by
    have := p.nm.length_eq
    rw [List.length_map, List.length_map] at this
    rw [this]
    exact ok.n1
  n4 := by
    have := p.nm.length_eq
    rw [List.length_map, List.length_map] at this
    rw [this]
    exact ok.n4
  nm := fun q hq => by
    obtain ⟨q0, h0, e, _⟩ := p.wy q hq
    rw [← e]
    exact ok.nm q0 h0
  wd := fun q hq => by
    obtain ⟨q0, h0, _, pp⟩ := p.wy q hq
    exact pp.nodup_iff.mpr (ok.wd q0 h0)
  w1 := fun q hq => by
    obtain ⟨q0, h0, _, pp⟩ := p.wy q hq
    rw [pp.length_eq]
    exact ok.w1 q0 h0
  w4 := fun q hq => by
    obtain ⟨q0, h0, _, pp⟩ := p.wy q hq
    rw [pp.length_eq]
    exact ok.w4 q0 h0
  wn := fun q hq z hz => by
    obtain ⟨q0, h0, _, pp⟩ := p.wy q hq
    exact ok.wn q0 h0 z (pp.mem_iff.mp hz)
  most := by
    have e : wprod W1 = wprod W := by
      rw [wprod_prodI, wprod_prodI, lens_of (p.nd ok), lens_of ok.nd]
      have e1 : (W1.map (·.1)).map (fun k => ((lookW W1 k).length : Int)) = (W1.map (·.1)).map fun k => ((lookW W k).length : Int) := List.map_congr_left fun k hk => by rw [(p.look ok hk).length_eq]
      rw [e1]
      exact prod_perm (p.nm.map _) 1
    rw [e]
    exact ok.most
theorem PermW.len (p : PermW W W1) : W1.length = W.length := by
  have := p.nm.length_eq
  rwa [List.length_map, List.length_map] at this
end
/-! ### the gains as a function -/
def rowOf (es : List Row) (st : List Str) : List Int := ((es.find? fun e => decide (e.1 = st)).map (·.2)).getD []
theorem rowOf_of {es : List Row} (hN : (es.map (·.1)).Nodup) {e : Row} (h : e ∈ es) : rowOf es e.1 = e.2 := by
  unfold rowOf
  induction es with
  | nil => cases h
  | cons a r ih =>
    rw [List.map_cons, List.nodup_cons] at hN
    rw [List.find?_cons]
    rcases List.mem_cons.mp h with rfl | h
    · rw [decide_eq_true rfl]
      rfl
    · have hne : ¬ a.1 = e.1 := fun z => hN.1 (List.mem_map.mpr ⟨e, h, z.symm⟩)
      rw [decide_eq_false hne]
      exact ih hN.2 h
theorem kS_inj {a b : List Str} (h : kS a = kS b) : a = b := List.map_inj_right (fun x y e => Sum.inr.inj e) |>.mp h
theorem ev_at {H0 H : Hp} : ∀ {es : List Row} {kvs : List (List L2.Key × V)} {st : List Str}, Paired (fun (e : Row) kv => kv.1 = kS e.1 ∧ Hnd H0 H kv.2 (e.2.map V.int)) es kvs → st ∈ es.map (·.1) → ∃ e ∈ es, e.1 = st ∧ ∃ v, valV kvs (kS st) = some v ∧ Hnd H0 H v (e.2.map V.int)
  | _, _, _, .nil, h => nomatch h
  | e :: es, kv :: kvs, st, .cons r t, h => by
    by_cases z : e.1 = st
    · exact ⟨e, List.mem_cons_self, z, kv.2, valV_pos (by rw [r.1, z]), r.2⟩
    · rw [List.map_cons] at h
      obtain ⟨e', h1, h2, v, h3, h4⟩ := ev_at t ((List.mem_cons.mp h).resolve_left fun y => z y.symm)
      exact ⟨e', List.mem_cons_of_mem _ h1, h2, v, by rw [valV_neg fun y => z (kS_inj (r.1.symm.trans y))]; exact h3, h4⟩
theorem Hnd.seq {K : PySem.W.Frag} {H0 H : Hp} {v : V} {xs : List V} (h : Hnd H0 H v xs) : SeqV K H v xs := by
  obtain ⟨a, rfl, ⟨_, h⟩ | h⟩ := h
  · exact .lst (SqL.of h) (.lst h)
  · exact .tup (SqT.of h) (.tup h)
theorem Hnd.keep {H0 H H' : Hp} {v : V} {xs : List V} (h : Hnd H0 H v xs) (k : ∀ c o, NotIns o → H c = some o → H' c = some o) : Hnd H0 H' v xs := by
  obtain ⟨a, e, ⟨n, h⟩ | h⟩ := h
  · exact ⟨a, e, .inl ⟨n, k _ _ (fun _ _ _ z => nomatch z) h⟩⟩
  · exact ⟨a, e, .inr (k _ _ (fun _ _ _ z => nomatch z) h)⟩
/-! ### what is handed in, as data -/
theorem hnd_strs {K : PySem.W.Frag} {H0 H : Hp} {v : V} {zs : List Str} (h : Hnd H0 H v (zs.map V.str)) (hn : ∀ z ∈ zs, isNm z = true) (h4 : zs.length ≤ 4) : ∃ d, Shw K H v d ∧ Sml 36 1 d := by
  have hs : ∀ d ∈ zs.map PyData.str, Sml 8 0 d := fun d hd => by
    obtain ⟨z, hz, rfl⟩ := List.mem_map.mp hd
    exact sml_str (hn z hz)
  obtain ⟨a, rfl, ⟨_, h⟩ | h⟩ := h
  · exact ⟨_, .flat (dp_strs h), sml_list (m := 4) hs (by rw [List.length_map]; exact h4)⟩
  · exact ⟨_, .flat (.tup (SqT.of h) (dpAll_strs zs)), sml_tuple (m := 4) hs (by rw [List.length_map]; exact h4)⟩
theorem hnd_ints {K : PySem.W.Frag} {H0 H : Hp} {v : V} {ns : List Int} (h : Hnd H0 H v (ns.map V.int)) (hn : ∀ z ∈ ns, GainOk z) (h4 : ns.length ≤ 4) : ∃ d, Shw K H v d ∧ Sml 816 1 d := by
  have hs : ∀ d ∈ ns.map PyData.int, Sml 203 0 d := fun d hd => by
    obtain ⟨z, hz, rfl⟩ := List.mem_map.mp hd
    exact sml_int (hn z hz)
  obtain ⟨a, rfl, ⟨_, h⟩ | h⟩ := h
  · exact ⟨_, .flat (.lst (SqL.of h) (dpAll_ints ns)), sml_list (m := 4) hs (by rw [List.length_map]; exact h4)⟩
  · exact ⟨_, .flat (.tup (SqT.of h) (dpAll_ints ns)), sml_tuple (m := 4) hs (by rw [List.length_map]; exact h4)⟩
theorem shw_vals {K : PySem.W.Frag} {H : Hp} {n : Nat} {κ : Type} : ∀ {kvs : List (κ × V)}, (∀ kv ∈ kvs, ∃ d, Shw K H kv.2 d ∧ Sml n 1 d) → ∃ ds, ShwAll K H (kvs.map (·.2)) ds ∧ (∀ d ∈ ds, Sml n 1 d)
  | [], _ => ⟨[], .nil, (fun _ z => nomatch z)⟩
  | kv :: kvs, h => by
    obtain ⟨d, h1, h2⟩ := h kv List.mem_cons_self
    obtain ⟨ds, h3, h4⟩ := shw_vals (kvs := kvs) fun x hx => h x (List.mem_cons_of_mem _ hx)
    refine ⟨d :: ds, .cons h1 h3, fun x hx => ?_⟩
    rcases List.mem_cons.mp hx with rfl | hx
    · exact h2
    · exact h4 x hx
theorem paired_mem {α β : Type} {R : α → β → Prop} {l : List α} {m : List β} (h : Paired R l m) {b : β} (hb : b ∈ m) : ∃ a ∈ l, R a b := by
  obtain ⟨i, hi, ei⟩ := List.getElem_of_mem hb
  obtain ⟨a, ha, r⟩ := paired_get h (show m[i]? = some b by rw [List.getElem?_eq_getElem hi, ei])
  exact ⟨a, List.mem_of_getElem? ha, r⟩
theorem shw_ways {K : PySem.W.Frag} {H0 H : Hp} {d : Addr} {W1 : List Way} {k1 : List (Key × V)} (ok : WOk W1) (hd : H d = some (.dK k1)) (h : Paired (fun (q : Way) kv => kv.1 = Sum.inr q.1 ∧ Hnd H0 H kv.2 (q.2.map V.str)) W1 k1) :
    ∃ D, Shw K H (.ref d) D ∧ Sml 184 2 D := by
  obtain ⟨ds, h1, h2⟩ := shw_vals (K := K) (n := 36) fun kv hkv => by
    obtain ⟨q, hq, _, hn⟩ := paired_mem h hkv
    exact hnd_strs hn (ok.wn q hq) (ok.w4 q hq)
  refine ⟨_, .dK hd h1, sml_dict (n1 := 8) (n2 := 36) (m := 4) (fun x hx => ?_) h2 ?_⟩
  · obtain ⟨kv, hkv, rfl⟩ := List.mem_map.mp hx
    obtain ⟨q, hq, e, _⟩ := paired_mem h hkv
    rw [e]
    exact (sml_str (ok.nm q hq)).mono (Nat.le_refl _) (by decide)
  · rw [List.length_map, ← Paired.length h]
    exact ok.n4
theorem shw_gains {K : PySem.W.Frag} {H0 H : Hp} {d : Addr} {es : List Row} {k2 : List (List L2.Key × V)} (hd : H d = some (.dT k2)) (h : Paired (fun (e : Row) kv => kv.1 = kS e.1 ∧ Hnd H0 H kv.2 (e.2.map V.int)) es k2)
    (hk : ∀ e ∈ es, (∀ z ∈ e.1, isNm z = true) ∧ e.1.length ≤ 4) (hv : ∀ e ∈ es, (∀ z ∈ e.2, GainOk z) ∧ e.2.length ≤ 4) (hl : es.length ≤ 256) : ∃ D, Shw K H (.ref d) D ∧ Sml 218624 2 D := by
  obtain ⟨ds, h1, h2⟩ := shw_vals (K := K) (n := 816) fun kv hkv => by
    obtain ⟨e, he, _, hn⟩ := paired_mem h hkv
    exact hnd_ints hn (hv e he).1 (hv e he).2
  refine ⟨_, .dT hd h1, sml_dict (n1 := 36) (n2 := 816) (m := 256) (fun x hx => ?_) h2 ?_⟩
  · obtain ⟨kv, hkv, rfl⟩ := List.mem_map.mp hx
    obtain ⟨e, he, ek, _⟩ := paired_mem h hkv
    rw [ek]
    unfold kTD
    rw [show (kS e.1).map kD = e.1.map PyData.str by unfold kS; rw [List.map_map]; rfl]
    refine sml_tuple (n := 8) (k := 0) (m := 4) (ds := e.1.map PyData.str) (fun y hy => ?_) (by rw [List.length_map]; exact (hk e he).2)
    obtain ⟨z, hz, rfl⟩ := List.mem_map.mp hy
    exact sml_str ((hk e he).1 z hz)
  · rw [List.length_map, ← Paired.length h]
    exact hl
theorem both_fit {D1 D2 : PyData} (h1 : Sml 184 2 D1) (h2 : Sml 218624 2 D2) : PyData.showableAll [D1, D2] = true ∧ PyData.depthAll [D1, D2] ≤ 30 ∧ (PyData.list [D1, D2]).shown.length ≤ sizeLine := by
  obtain ⟨a, b, c, e⟩ := sml_all (n := 218624) (k := 2) (ds := [D1, D2]) fun d hd => by
    simp only [List.mem_cons, List.not_mem_nil, or_false] at hd
    rcases hd with rfl | rfl
    · exact h1.mono (by decide) (Nat.le_refl _)
    · exact h2
  refine ⟨b, Nat.le_trans e (by decide), ?_⟩
  have z := PyData.shown_le 64 (by decide) (.list [D1, D2]) (by simp only [PyData.leavesShort]; exact a)
  have w1 := h1.wt
  have w2 := h2.wt
  have ew : (PyData.list [D1, D2]).weight = D1.weight + 1 + (D2.weight + 1 + 0) := by simp only [PyData.weight, PyData.weightAll]
  have es : sizeLine = 16777216 := by decide
  rw [ew] at z
  omega
/-! ### data that stays -/
mutual
theorem dp_keep {K : PySem.W.Frag} {H H' : Hp} (k : ∀ c o, NotIns o → H c = some o → H' c = some o) : ∀ {v : V} {d : PyData}, Dp K H v d → Dp K H' v d
  | _, _, .non => .non
  | _, _, .bl b => .bl b
  | _, _, .int i => .int i
  | _, _, .str z => .str z
  | _, _, .lst h t => .lst (seqL_keep h k) (dpAll_keep k t)
  | _, _, .tup h t => .tup (seqT_keep h k) (dpAll_keep k t)
theorem dpAll_keep {K : PySem.W.Frag} {H H' : Hp} (k : ∀ c o, NotIns o → H c = some o → H' c = some o) : ∀ {vs : List V} {ds : List PyData}, DpAll K H vs ds → DpAll K H' vs ds
  | _, _, .nil => .nil
  | _, _, .cons h t => .cons (dp_keep k h) (dpAll_keep k t)
end
theorem ni_lst {xs : List V} : NotIns (.lst xs) := fun _ _ _ z => nomatch z
theorem ni_tup {xs : List V} : NotIns (.tup xs) := fun _ _ _ z => nomatch z
theorem ni_dK {xs : List (Key × V)} : NotIns (.dK xs) := fun _ _ _ z => nomatch z
theorem ni_dT {xs : List (List Key × V)} : NotIns (.dT xs) := fun _ _ _ z => nomatch z
mutual
theorem shw_keep {K : PySem.W.Frag} {H H' : Hp} (k : ∀ c o, NotIns o → H c = some o → H' c = some o) : ∀ {v : V} {d : PyData}, Shw K H v d → Shw K H' v d
  | _, _, .flat h => .flat (dp_keep k h)
  | _, _, .lst h t => .lst (k _ _ ni_lst h) (shwAll_keep k t)
  | _, _, .tup h t => .tup (k _ _ ni_tup h) (shwAll_keep k t)
  | _, _, .dK h t => .dK (k _ _ ni_dK h) (shwAll_keep k t)
  | _, _, .dT h t => .dT (k _ _ ni_dT h) (shwAll_keep k t)
theorem shwAll_keep {K : PySem.W.Frag} {H H' : Hp} (k : ∀ c o, NotIns o → H c = some o → H' c = some o) : ∀ {vs : List V} {ds : List PyData}, ShwAll K H vs ds → ShwAll K H' vs ds
  | _, _, .nil => .nil
  | _, _, .cons h t => .cons (shw_keep k h) (shwAll_keep k t)
end
/-! ### an instance, as isinstance sees it -/
structure InsOk (K : PySem.W.Frag) (C : Addr) : Prop where
  ha : PySem.W.findIn K (.ref C) "__class__" = some (some (.builtin "object.__class__"))
  hn : PySem.W.specialIn K (.builtin "object.__class__") "__get__" = some (some (.builtin "getset_descriptor.__get__"))
  ht : PySem.W.takesIn K (.builtin "object.__class__") = some true
  hm : PySem.W.mroIn K C (.type "object") = some true
  k : ∀ T ∈ six, PySem.W.kitOne K (.ref C) (.type T) = some false
theorem AnyV.ins {K : PySem.W.Frag} {H : Hp} {a C dx : Addr} {fs : List (Str × V)} (h : H a = some (.ins C dx fs)) (c : Cls K C) (i : InsOk K C) : AnyV K H (.ref a) .ins :=
  ⟨⟨.ref C, .base (.ins h c i.ha i.hn i.ht i.hm), fun T hT => i.k T hT⟩, (fun z => nomatch z), (fun _ z e => nomatch e)⟩
/-! ### a game when what was handed in is emptied -/
theorem GameAt.off {K : PySem.W.Frag} {C : Addr} {N : Addr → Prop} {H H' : Hp} {g : Addr} {S : List Way} {γ : List Str → List Int} {dx w l t : Addr} {vs : List V} {kvs : List (List Key × V)} (G : GameAt K C N H g S γ dx w l t vs kvs)
    (kN : ∀ c u, N c → H c = some u → H' c = some u) (kT : ∀ c xs, H c = some (.tup xs) → H' c = some (.tup xs)) (kF : ∀ c o xs, H c = some (.frz o (.tup xs)) → H' c = some (.frz o (.tup xs))) : GameAt K C (fun _ => True) H' g S γ dx w l t vs kvs where
  hg := kN _ _ G.ng G.hg
  ng := trivial
  hw := by
    obtain ⟨kw, h, p⟩ := G.hw
    exact ⟨kw, kN _ _ G.nw h, paired_imp p fun q kv ⟨e, a, ev, n, h⟩ => ⟨e, a, ev, trivial, kN _ _ n h⟩⟩
  nw := trivial
  hl := kN _ _ G.nl G.hl
  nl := trivial
  hs := G.hs.tups kT
  ht := kN _ _ G.nt G.ht
  nt := trivial
  hk := paired_imp G.hk fun st kv ⟨e, a, ev, h⟩ => ⟨e, a, ev, by
    rcases h with (h | ⟨o, h⟩) | h
    · exact .inl (.inl (kT _ _ h))
    · exact .inl (.inr ⟨o, kF _ _ _ h⟩)
    · exact .inr h⟩
end HG

namespace HG
open PySem PySem.Spec PyProof.Rows L2
open C8 (pss_cut tCut)
def spLaw (K : PySem.W.Frag) : Sp := fun vs H Q _ => ∃ (a : Addr) (ns : List Int), vs = [.ref a] ∧ SqL K H a (ns.map V.int) ∧ ns.length ≤ 63 ∧ ∀ H', Q (.bl true) H'
abbrev NsL : List Str := ["_law_script", "_law_bag_here", "_law_turn", "_law_ways", "_law_gains_here", "_law_first", "_law_second", "_law_shown", "_law_game", "_law_again", "_law_way"]
section
variable {P : Program} {w : World} {K : PySem.W.Frag} {mg : Str → Option Value} {base : Heap} {C : Addr}
variable {fShape fNames fName fSorted fStds fTable fInts fInt fOne fPut : Addr} {dShape dNames dName dSorted dStds dTable dInts dInt dOne dPut : FuncData}
variable {fT fO fN fS fW fM fCh : Addr} {dT' dO dN dS dW dM dCh : FuncData}
theorem ok_law {f fIn fSh fCs fWy fSt fGs fGn fIt fLn fK fH fE fI fT2 fC fCg fGo fOw fB fLs fLg fLh fLe fNr fR1 fR2 fR3 fLN fLS fLP : Addr} {fd dIn dSh dCs dWy dSt dGs dGn dIt dLn dK dH dE dI dT2 dC dCg dGo dOw dB dLs dLg dLh dLe dNr dR1 dR2 dR3 dLN dLS dLP : FuncData}
    (G : GD K mg fShape fNames fName fSorted fStds fTable fInts fInt fOne fPut dShape dNames dName dSorted dStds dTable dInts dInt dOne dPut) (GH : GDC K mg fCh dCh) (c : GC K C) (ci : InsOk K C) (mk : Mk K C fIn) (FIn : Fun K "__init__" "Game.__init__" s_Game___init fIn dIn) (bIn : Binds K dIn ["self", "ways", "gains"] []) (gC : mg "Game" = some (.ref C))
    (MSh : Mt K C "shape" "Game.shape" s_Game_shape ["self"] fSh dSh) (MCs : Mt K C "choosers" "Game.choosers" s_Game_choosers ["self"] fCs dCs) (MW : Mt K C "ways" "Game.ways" s_Game_ways ["self", "chooser"] fWy dWy)
    (MSt : Mt K C "standings" "Game.standings" s_Game_standings ["self"] fSt dSt) (MGs : Mt K C "gains" "Game.gains" s_Game_gains ["self", "standing"] fGs dGs) (MGn : Mt K C "gain" "Game.gain" s_Game_gain ["self", "chooser", "standing"] fGn dGn)
    (MIt : MtIter K C fIt dIt) (ML : MtLen K C fLn dLn) (MK : MtCheck K C fK dK) (MH : MtHas K C fH dH) (MS : MtStand K C fE dE) (MI : MtIn K C fI dI) (MT : MtSeat K C fT2 dT2) (MC : MtCan K C fC dC)
    (MCg : Mt K C "changes" "Game.changes" s_Game_changes ["self", "standing"] fCg dCg) (MGo : MtGoal K C fGo dGo) (MOw : Mt K C "own" "Game.own" s_Game_own ["self", "standing", "change"] fOw dOw)
    (mi : mg "iter" = none) (me : mg "enumerate" = none) (mab : mg "abs" = none) (mrp : mg "repr" = none)
    (B : BT K mg fT fO dT' dO) (M : MxT K mg fM dM) (Nm : NmT K mg fLN fLS fLP dLN dLS dLP) (GL : GnT K mg fN fS fW dN dS dW)
    (FB : Df K mg "_law_bag" s_law_bag fB dB) (bB : Binds K dB ["_law_script"] []) (FLs : Df K mg "_law_shape" s_law_shape fLs dLs) (bLs : Binds K dLs ["_law_bag_here", "_law_most"] []) (FLg : Df K mg "_law_gains" s_law_gains fLg dLg) (bLg : Binds K dLg ["_law_bag_here", "_law_ways"] [])
    (FLh : Df K mg "_law_handed" s_law_handed fLh dLh) (bLh : Binds K dLh ["_law_bag_here", "_law_ways", "_law_gains_here"] []) (FLe : Df K mg "_law_emptied" s_law_emptied fLe dLe) (bLe : Binds K dLe ["_law_ways", "_law_gains_here"] []) (FNr : Df K mg "_law_near" s_law_near fNr dNr) (bNr : Binds K dNr ["_law_ways", "_law_standing"] [])
    (FR1 : Df K mg "_law_shape_right" s_law_shape_right fR1 dR1) (bR1 : Binds K dR1 ["_law_game", "_law_ways"] []) (FR2 : Df K mg "_law_standings_right" s_law_standings_right fR2 dR2) (bR2 : Binds K dR2 ["_law_game", "_law_ways", "_law_gains_here"] []) (FR3 : Df K mg "_law_changes_right" s_law_changes_right fR3 dR3) (bR3 : Binds K dR3 ["_law_bag_here", "_law_game", "_law_ways", "_law_gains_here"] [])
    (F : Fun K "law" "law" s_law f fd) : FnG P w K mg base CX0 8 f fd ["_law_script"] (spLaw K) := by
  have S : FnScope NsL ["_law_script"] (defScope s_law) := ⟨rfl, rfl, rfl, by decide +kernel, rfl, by decide +kernel, by decide +kernel⟩
  have nd := S.nd
  refine okG F S (fun vs H Q E h => ?_) (fun cdv A outer s H vs Q E hgd hr h => ?_)
  · obtain ⟨a, ns, rfl, _⟩ := h
    rfl
  · obtain ⟨a, ns, rfl, ha, hl, q⟩ := h
    have hu := hu_of hr
    have hu65 := hu65_of hr
    have hu64 := hr.units
    have oB := ok_bag (P := P) (w := w) (base := base) FB.F mab
    have oLs := ok_lshape (P := P) (w := w) (base := base) B M Nm me FLs.F
    have oLg := ok_lgains (P := P) (w := w) (base := base) B GL FLg.F
    have oLh := ok_handed (P := P) (w := w) (base := base) G.T.m_list G.T.m_dict G.T.m_tuple B M FLh.F
    have oLe := ok_emptied (P := P) (w := w) (mg := mg) (base := base) G.T.m_list G.T.m_isinstance FLe.F
    have oM := ok_mixed (P := P) (w := w) (base := base) B M.F
    have oIn := ok_in (P := P) (w := w) (base := base) G c MI
    have oInit := ok_init (P := P) (w := w) (base := base) G c FIn
    have oR1 := ok_shape_right (P := P) (w := w) (base := base) G c MSh MCs MW MK MH FR1.F
    have oR2 := ok_standings_right (P := P) (w := w) (base := base) G c MSt MGs MGn MIt ML MK MH MS MI MT mi B GL FNr.F bNr FNr.g FR2.F
    have oR3 := ok_changes_right (P := P) (w := w) (base := base) G GH c MCg MGo MOw MS MI MC MH MT me B GL M FR3.F
    refine ⟨_, pss_cons (ps_set (i := 1) nd rfl (Or.inl rfl) (pe_call oB (hr.mono (by decide)) (by rfl) FB.g FB.F.kp bB .nil pass0 (pa_cons (pv 0) pa_nil)))
      (pss_cons (ps_for PassesOwn.never rfl (pi_range1 rfl GL.m_range (pa_cons pe_int pa_nil)) (pg_name (i := 2) nd rfl (Or.inl rfl))
        (pss_cons (ps_set (i := 3) nd rfl (Or.inl rfl) (pe_call oLs (hr.mono (by decide)) (by rfl) FLs.g FLs.F.kp bLs .nil pass0 (pa_cons (pv 1) (pa_cons (pe_ix ix_list (pe_lst (pa_ints (is := [12, 27, 81]) (by decide +kernel))) (pv 2) (fun _ _ => rfl)) pa_nil))))
        (pss_cons (ps_set (i := 4) nd rfl (Or.inl rfl) (pe_call oLg (hr.mono (by decide)) (by rfl) FLg.g FLg.F.kp bLg .nil pass0 (pa_cons (pv 1) (pa_cons (pv 3) pa_nil))))
        (pss_cons (ps_asg (pe_call oLh (hr.mono (by decide)) (by rfl) FLh.g FLh.F.kp bLh .nil pass0 (pa_cons (pv 1) (pa_cons (pv 3) (pa_cons (pv 4) pa_nil)))) (pg_tup rfl (pgs_cons (pg_name (i := 5) nd rfl (Or.inl rfl)) (pgs_cons (pg_name (i := 6) nd rfl (Or.inl rfl)) pgs_nil))))
        (pss_cons (ps_set (i := 7) nd rfl (Or.inl rfl) (pe_callB (call_reprL hgd hu64) (by rfl) mrp (by decide +kernel) (pa_cons (pe_lst (pa_cons (pv 5) (pa_cons (pv 6) pa_nil))) pa_nil)))
        (pss_cons (ps_set (i := 8) nd rfl (Or.inl rfl) (pe_make mk oInit (hr.mono (by decide)) (by rfl) gC bIn .nil pass0 (pa_cons (pv 5) (pa_cons (pv 6) pa_nil))))
        (pss_cons (ps_if (pt_cmpR op_ne (pe_callB (call_reprL hgd hu64) (by rfl) mrp (by decide +kernel) (pa_cons (pe_lst (pa_cons (pv 5) (pa_cons (pv 6) pa_nil))) pa_nil)) (pv 7) (nomark _)) pss_never pss_nil)
        (pss_cons (ps_expr (pe_call oLe (hr.mono (by decide)) (by rfl) FLe.g FLe.F.kp bLe .nil pass0 (pa_cons (pv 5) (pa_cons (pv 6) pa_nil))))
        (pss_cons (ps_if (pt_cmpR (op_inOwn (E := E0) MI.me.at_ MI.me.fn oIn (hr.mono (by decide)) MI.b pass0) (pv 8) (pv 8) (by rfl)) pss_never pss_nil)
        (pss_one (ps_for PassesOwn.never rfl (pi_range1 rfl GL.m_range (pa_cons pe_int pa_nil)) (pg_name (i := 9) nd rfl (Or.inl rfl))
          (pss_one (ps_for PassesOwn.never rfl (pi_list (pe_call oM (hr.mono (by decide)) (by rfl) M.g M.F.kp M.b .nil pass0 (pa_cons (pv 1) (pa_cons (pe_lst (pa_ints (is := [0, 1, 2]) (by decide +kernel))) pa_nil)))) (pg_name (i := 10) nd rfl (Or.inl rfl))
            (pss_cons (ps_if (PW.pt (pw_and (pt_cmpR op_eq (pv 10) pe_int (nomark _)) (pw_and1 (pt_not (pt_val (pe_call oR1 (hr.mono (by decide)) (by rfl) FR1.g FR1.F.kp bR1 .nil pass0 (pa_cons (pv 8) (pa_cons (pv 3) pa_nil)))))))) pss_never pss_nil)
            (pss_cons (ps_if (PW.pt (pw_and (pt_cmpR op_eq (pv 10) pe_int (nomark _)) (pw_and1 (pt_not (pt_val (pe_call oR2 (hr.mono (by decide)) (by rfl) FR2.g FR2.F.kp bR2 .nil pass0 (pa_cons (pv 8) (pa_cons (pv 3) (pa_cons (pv 4) pa_nil))))))))) pss_never pss_nil)
            (pss_one (ps_if (PW.pt (pw_and (pt_cmpR op_eq (pv 10) pe_int (nomark _)) (pw_and1 (pt_not (pt_val (pe_call oR3 (hr.mono (by decide)) (by rfl) FR3.g FR3.F.kp bR3 .nil pass0 (pa_cons (pv 1) (pa_cons (pv 8) (pa_cons (pv 3) (pa_cons (pv 4) pa_nil)))))))))) pss_never pss_nil)))))))))))))))))
      (pss_one (ps_ret pe_bl))), ?_⟩
    refine ⟨_, rfl, a, ns, rfl, ha, by omega, fun H1 b k ns' s1 B1 nb nk => ?_⟩
    refine ⟨3, rfl, by decide, by decide, for_range (lo := 0) (n := 3) (fun i σ H' => ∃ v2 v3 v4 v5 v6 v7 v8 v9 v10, σ = [some (.ref a), some (.ref b), v2, v3, v4, v5, v6, v7, v8, v9, v10] ∧ ABag H' b k ns') ⟨_, _, _, _, _, _, _, _, _, rfl, B1⟩ ?_ ?_⟩
    · rintro i σ H3 hi ⟨v2, v3, v4, v5, v6, v7, v8, v9, v10, rfl, B3⟩
      rw [Int.zero_add]
      obtain ⟨m, hm, m4, m81⟩ : ∃ m, ([12, 27, 81] : List Int)[i]? = some m ∧ 4 ≤ m ∧ m ≤ 81 := by
        rcases i with _ | _ | _ | i
        · exact ⟨12, rfl, by decide, by decide⟩
        · exact ⟨27, rfl, by decide, by decide⟩
        · exact ⟨81, rfl, by decide, by decide⟩
        · omega
      refine ⟨_, rfl, (by show 3 ≤ sizeLine; decide), fun lp nlp => ?_⟩
      have slp := same_upd (o := .lst (([12, 27, 81] : List Int).map V.int)) nlp
      refine ⟨_, rfl, lp, _, _, _, rfl, rfl, SqL.of upd_same, atI_nat (j := i) (by rw [List.getElem?_map, hm]; rfl), b, k, ns', m, rfl, B3.same slp, m4, m81, fun H4 d W kb4 B4 nd4 hW0 ok _ => ?_⟩
      have hW4 : ShL (fun _ => True) H4 d W := by
        obtain ⟨kw, h, p⟩ := hW0
        exact ⟨kw, h, paired_imp p fun q kv ⟨e, c, ev, _, h⟩ => ⟨e, c, ev, trivial, h⟩⟩
      have sok := ok.sok
      have n4 := ok.n4
      refine ⟨_, rfl, _, rfl, b, k, d, ns', W, rfl, B4, hW4, ok, fun H5 gd kvs es sts kb5 B5 ngd hg5 he5 hperm hrows => ?_⟩
      have hW5 := hW4.but B4 ok.w1 kb5
      have hnd : sts.Nodup := hperm.nodup_iff.mpr (stds_nd sok.wd)
      have hsl : sts.length ≤ 256 := by
        rw [hperm.length_eq]
        exact sok.few
      have ekn : (es.map (·.1)).Nodup := by rw [hrows.ks]; exact hnd
      refine ⟨_, rfl, _, rfl, _, rfl, b, k, d, gd, ns', W, kvs, es, sts, rfl, B5, hW5, ok, hg5, he5, hrows.ks, hnd, hsl, fun H6 T d1 d2 W1 k1 k2 es2 kb6 B6 hT nd1 nd2 h12 hd1 hk1 hpn hpw hd2 hk2 hes2 => ?_⟩
      have pw : PermW W W1 := ⟨hpn, hpw⟩
      have ok1 := pw.ok ok
      have gn5 : GnAt H5 gd W (rowOf es) := ⟨kvs, hg5, fun st hst => by
        obtain ⟨e, hem, rfl, c, hv, hc⟩ := row_at he5 (by rw [hrows.ks]; exact hperm.mem_iff.mpr hst)
        rw [rowOf_of ekn hem]
        exact ⟨hrows.len e hem, c, hv, hc⟩⟩
      have hmem2 : ∀ e ∈ es2, e ∈ es := fun e he => hes2.mem_iff.mp he
      have hkey2 : ∀ e ∈ es2, e.1 ∈ stds (sh W) := fun e he => hperm.mem_iff.mp (by rw [← hrows.ks]; exact List.mem_map.mpr ⟨e, hmem2 e he, rfl⟩)
      have shl : (sh W).length = W.length := sh_len W
      have l2 : es2.length ≤ 256 := by
        rw [hes2.length_eq, ← List.length_map (f := (·.1)), hrows.ks]
        exact hsl
      obtain ⟨D1, w1, f1⟩ := shw_ways (K := K) ok1 hd1 hk1
      obtain ⟨D2, w2, f2⟩ := shw_gains (K := K) hd2 hk2 (fun e he => ⟨stds_names sok.wn (hkey2 e he), by rw [stds_mem (hkey2 e he), shl]; exact n4⟩) (fun e he => ⟨hrows.ok e (hmem2 e he), by rw [hrows.len e (hmem2 e he)]; exact n4⟩) l2
      obtain ⟨g1, g2, g3⟩ := both_fit f1 f2
      refine ⟨T, _, rfl, SqT.of hT, rfl, _, _, rfl, _, _, rfl, rfl, ?_⟩
      -- what is shown
      refine ⟨_, rfl, _, rfl, (by show 2 ≤ sizeLine; decide), fun lp1 nlp1 => ?_⟩
      have s7 := same_upd (o := .lst [V.ref d1, .ref d2]) nlp1
      refine ⟨lp1, _, [D1, D2], rfl, upd_same, (fun z => nomatch z), .cons (shw_keep (fun c o _ e => s7 _ _ e) w1) (.cons (shw_keep (fun c o _ e => s7 _ _ e) w2) .nil), g1, g2, g3, ?_⟩
      generalize (upd H6 lp1 (.lst [V.ref d1, .ref d2])) = H7 at s7
      -- the game
      refine ⟨_, rfl, _, rfl, fun x dx nx ndx nxd => ?_⟩
      have s8 : Same H7 (upd (upd H7 dx (.own x)) x (.ins C dx [])) := fun c o e => by
        rw [upd_ne (ne_of_none e nx), upd_ne (ne_of_none e ndx)]
        exact e
      have hx8 : (upd (upd H7 dx (.own x)) x (.ins C dx [])) x = some (.ins C dx []) := upd_same
      have s68 := s7.trans s8
      generalize (upd (upd H7 dx (.own x)) x (.ins C dx [])) = H8 at s8 hx8 s68
      have hk1' : Paired (KvW H8) W1 k1 := paired_imp hk1 fun q kv ⟨e, c, ev, h⟩ => ⟨e, c, ev, h.elim (fun z => .inl (s68 _ _ z.2)) fun z => .inr (s68 _ _ z)⟩
      have hk2' : Paired (fun (e : Row) kv => kv.1 = kS e.1 ∧ Hnd H5 H8 kv.2 (e.2.map V.int)) es2 k2 := paired_imp hk2 fun e kv ⟨h1, h2⟩ => ⟨h1, h2.keep fun c o _ z => s68 _ _ z⟩
      have tab : TabAt K H8 d2 (stds (sh W1)) W1.length (rowOf es) := by
        rw [pw.sh ok, pw.len]
        refine ⟨k2, s68 _ _ hd2, ?_, fun st hst => ?_⟩
        · rw [← Paired.length hk2, hes2.length_eq, ← List.length_map (f := (·.1)), hrows.ks, hperm.length_eq]
        · obtain ⟨e, hem, rfl, v, hv, hn⟩ := ev_at hk2' (st := st) (by
            have := hperm.mem_iff.mpr hst
            rw [← hrows.ks] at this
            obtain ⟨e, he, rfl⟩ := List.mem_map.mp this
            exact List.mem_map.mpr ⟨e, hes2.mem_iff.mpr he, rfl⟩)
          rw [rowOf_of ekn (hmem2 e hem)]
          exact ⟨hrows.len e (hmem2 e hem), v, hv, hn.seq⟩
      refine ⟨x, d1, d2, dx, W1, rowOf es, rfl, hx8, ⟨k1, s68 _ _ hd1, hk1'⟩, ok1, tab, fun H9 w' l' t' vs' kvs' sx hG => ⟨rfl, ?_⟩⟩
      rw [pw.sh ok] at hG
      have keep : ∀ c o, NotIns o → H8 c = some o → H9 c = some o := fun c o n e => sx c o (fun z => by
        rw [z, hx8] at e
        cases e
        exact n _ _ _ rfl) e
      have w19 := shw_keep (fun c o n e => keep c o n (s68 _ _ e)) w1
      have w29 := shw_keep (fun c o n e => keep c o n (s68 _ _ e)) w2
      refine ⟨_, rfl, _, rfl, (by show 2 ≤ sizeLine; decide), fun lp2 nlp2 => ?_⟩
      have s10 := same_upd (o := .lst [V.ref d1, .ref d2]) nlp2
      refine ⟨lp2, _, [D1, D2], rfl, upd_same, (fun z => nomatch z), .cons (shw_keep (fun c o _ e => s10 _ _ e) w19) (.cons (shw_keep (fun c o _ e => s10 _ _ e) w29) .nil), g1, g2, g3, _, rfl, rfl, _, rfl, ?_⟩
      rw [decide_eq_true rfl]
      refine iteF ?_
      have keep6 : ∀ c o, NotIns o → H6 c = some o → (upd H9 lp2 (.lst [V.ref d1, .ref d2])) c = some o := fun c o n e => s10 _ _ (keep c o n (s68 _ _ e))
      have hG10 := hG.same s10
      generalize (upd H9 lp2 (.lst [V.ref d1, .ref d2])) = H10 at keep6 hG10
      -- what was handed in is emptied
      have hd1' := keep6 _ _ ni_dK hd1
      have hd2' := keep6 _ _ ni_dT hd2
      have hval : ∀ y ∈ k1.map (·.2) ++ k2.map (·.2), ∃ c, y = .ref c ∧ ((H5 c = none ∧ H6 c ≠ none ∧ ∃ ys, H10 c = some (.lst ys)) ∨ ∃ ys, H10 c = some (.tup ys)) := fun y hy => by
        have hn : ∀ {v : V} {xs : List V}, Hnd H5 H6 v xs → ∃ c, v = .ref c ∧ ((H5 c = none ∧ H6 c ≠ none ∧ ∃ ys, H10 c = some (.lst ys)) ∨ ∃ ys, H10 c = some (.tup ys)) := fun {v xs} ⟨c, e, h⟩ => ⟨c, e, h.imp (fun z => ⟨z.1, by rw [z.2]; exact Option.some_ne_none _, _, keep6 _ _ ni_lst z.2⟩) fun z => ⟨_, keep6 _ _ ni_tup z⟩⟩
        rcases List.mem_append.mp hy with hy | hy
        · obtain ⟨kv, hkv, rfl⟩ := List.mem_map.mp hy
          obtain ⟨q', _, _, h⟩ := paired_mem hk1 hkv
          exact hn h
        · obtain ⟨kv, hkv, rfl⟩ := List.mem_map.mp hy
          obtain ⟨q', _, _, h⟩ := paired_mem hk2 hkv
          exact hn h
      refine ⟨_, rfl, _, rfl, d1, d2, k1, k2, rfl, hd1', hd2', by rw [← Paired.length hk1, ← Paired.length hk2]; have := ok1.n4; omega, fun y hy => ?_, fun H11 kp => ?_⟩
      · obtain ⟨c, e, h⟩ := hval y hy
        exact ⟨c, e, h.imp (fun z => z.2.2) id⟩
      have off5 : ∀ c, H5 c ≠ none → ¬ Emp H10 d1 d2 (k1.map (·.2) ++ k2.map (·.2)) c := fun c hc z => by
        rcases z with rfl | rfl | ⟨hm, ys, hy⟩
        · exact hc nd1
        · exact hc nd2
        · obtain ⟨c', e, h⟩ := hval _ hm
          cases e
          rcases h with ⟨h, _⟩ | ⟨zs, h⟩
          · exact hc h
          · rw [hy] at h
            cases h
      have offN : ∀ c, (H8 c = none ∨ c = x) → ¬ Emp H10 d1 d2 (k1.map (·.2) ++ k2.map (·.2)) c := fun c hc z => by
        have hs : ∀ u, H6 c = some u → NotIns u → False := fun u hu n => by
          have h8 := s68 _ _ hu
          rcases hc with hc | rfl
          · rw [hc] at h8
            cases h8
          · rw [hx8] at h8
            cases h8
            exact n _ _ _ rfl
        rcases z with rfl | rfl | ⟨hm, ys, hy⟩
        · exact hs _ hd1 ni_dK
        · exact hs _ hd2 ni_dT
        · obtain ⟨c', e, h⟩ := hval _ hm
          cases e
          rcases h with ⟨_, h6, _⟩ | ⟨zs, h⟩
          · cases e6 : H6 c with
            | none => exact h6 e6
            | some u =>
              have h8 := s68 _ _ e6
              rcases hc with hc | rfl
              · rw [hc] at h8
                cases h8
              · rw [hG10.hg] at hy
                cases hy
          · rw [hy] at h
            cases h
      have offT : ∀ c u, H10 c = some u → (∀ ys, u ≠ .lst ys) → (∀ ks, u ≠ .dK ks) → (∀ ks, u ≠ .dT ks) → ¬ Emp H10 d1 d2 (k1.map (·.2) ++ k2.map (·.2)) c := fun c u hc h1 h2 h3 z => by
        rcases z with rfl | rfl | ⟨_, ys, hy⟩
        · rw [hd1'] at hc
          cases hc
          exact h2 _ rfl
        · rw [hd2'] at hc
          cases hc
          exact h3 _ rfl
        · rw [hy] at hc
          cases hc
          exact h1 _ rfl
      have hG11 := hG10.off (fun c u n h => kp c u (offN c n) h) (fun c xs h => kp c _ (offT c _ h (fun _ z => nomatch z) (fun _ z => nomatch z) fun _ z => nomatch z) h) (fun c o xs h => kp c _ (offT c _ h (fun _ z => nomatch z) (fun _ z => nomatch z) fun _ z => nomatch z) h)
      have kb511 : ∀ c o, NotIns o → H5 c = some o → c ≠ b → H11 c = some o := fun c o n e hc => kp c o (off5 c (by rw [e]; exact Option.some_ne_none _)) (keep6 _ _ n (kb6 _ _ e hc))
      have B11 : ABag H11 b k ns' := by
        obtain ⟨p1, p2, p3, bg⟩ := B6
        have hb5 : H5 b ≠ none := fun z => by
          obtain ⟨xs, e⟩ := abag_ne B5
          rw [e] at z
          cases z
        have hk5 : H5 k ≠ none := fun z => by
          rw [abag_k B5] at z
          cases z
        exact ⟨p1, p2, p3, kp _ _ (off5 b hb5) (keep6 _ _ ni_lst bg.at_), kp _ _ (off5 k hk5) (keep6 _ _ ni_lst bg.cells), bg.n0, bg.c0, bg.c1⟩
      have hW11 : ShL (fun _ => True) H11 d W := by
        obtain ⟨a0, c0, n0, bg⟩ := B5
        obtain ⟨kw, h, p⟩ := hW5
        have hlb : ∀ (q : Way) (c : Addr), q ∈ W → H5 c = some (.lst (q.2.map V.str)) → c ≠ b := fun q c hq h z => by
          rw [z, bg.at_] at h
          have h1 := ok.w1 q hq
          cases hq2 : q.2 with
          | nil =>
            rw [hq2] at h1
            exact absurd h1 (by decide)
          | cons y r =>
            rw [hq2] at h
            have e := HO.lst.inj (Option.some.inj h)
            rw [List.map_cons] at e
            exact nomatch (List.cons.inj e).1
        refine ⟨kw, kb511 _ _ ni_dK h (ne_of h bg.at_ (by intro z; cases z)), ?_⟩
        refine paired_of (Paired.length p) fun j q kv hq hkv => ?_
        obtain ⟨q', hq', e, c, ev, _, h⟩ := paired_get p hkv
        rw [hq] at hq'
        cases hq'
        exact ⟨e, c, ev, trivial, kb511 _ _ ni_lst h (hlb q c (List.mem_of_getElem? hq) h)⟩
      have gn11 : GnAt H11 gd W (rowOf es) := by
        obtain ⟨xs, hb⟩ := abag_ne B5
        obtain ⟨kv, h, r⟩ := gn5
        exact ⟨kv, kb511 _ _ ni_dT h (ne_of h hb (by intro z; cases z)), fun st hst => let ⟨l, c, v, z⟩ := r st hst; ⟨l, c, v, kb511 _ _ ni_tup z (ne_of z hb (by intro z; cases z))⟩⟩
      have I11 : IsG K C (fun _ => True) H11 x (sh W) (rowOf es) := ⟨dx, w', l', t', vs', kvs', hG11⟩
      refine ⟨_, rfl, _, rfl, x, dx, _, rfl, hG11.hg, ⟨x, .ref x, _, sh W, rowOf es, rfl, I11, .inr ⟨_, AnyV.ins hG11.hg c.cl ci, by decide, fun H12 s12 => ⟨_, rfl, _, rfl, iteF ?_⟩⟩⟩⟩
      have B12 := B11.same s12
      have I12 := I11.same s12
      have hW12 := hW11.same s12
      have gn12 := gn11.same s12
      refine ⟨3, rfl, by decide, by decide, for_range (lo := 0) (n := 3) (fun j σ H' => ∃ v9 v10, σ = [some (.ref a), some (.ref b), some (.int (i : Int)), some (.ref d), some (.ref gd), some (.ref d1), some (.ref d2), some (.str (PyData.list [D1, D2]).shown), some (.ref x), v9, v10] ∧ But b H12 H' ∧ ABag H' b k ns') ⟨_, _, rfl, But.of (Same.refl _), B12⟩ ?_ ?_⟩
      · rintro j σ H13 hj ⟨v9, v10, rfl, kb13, B13⟩
        rw [Int.zero_add]
        refine ⟨_, rfl, (by show 3 ≤ sizeLine; decide), fun lp3 nlp3 => ?_⟩
        have s14 := same_upd (o := .lst (([0, 1, 2] : List Int).map V.int)) nlp3
        refine ⟨b, k, lp3, ns', _, rfl, B13.same s14, SqL.of upd_same, abag_not B13 nlp3, (by show 3 ≤ 256; decide), fun H14 mp ys kb14 B14 nmp hmp hperm3 => ?_⟩
        have kbA : But b H12 H14 := kb13.trans ((But.of s14).trans kb14)
        have mpb : mp ≠ b := abag_not (B13.same s14) nmp
        refine ⟨mp, rfl, ⟨_, SqL.of hmp⟩, for_it (walk_list (K := K) (a := mp) (xs := ys)) (fun n σ H' => ∃ v10, σ = [some (.ref a), some (.ref b), some (.int (i : Int)), some (.ref d), some (.ref gd), some (.ref d1), some (.ref d2), some (.str (PyData.list [D1, D2]).shown), some (.ref x), some (.int (j : Int)), v10] ∧ But b H14 H' ∧ ABag H' b k ns')
          ⟨_, rfl, But.of (Same.refl _), B14⟩ (fun n σ H' _ ⟨_, _, kb, _⟩ => SqL.of (kb _ _ hmp mpb)) ?_ ?_⟩
        · rintro n y σ H15' H15 hn ⟨v10, rfl, kb15, B15⟩ ⟨rfl, hy⟩
          have kbT := kbA.trans kb15
          have I15 := I12.but sok B12 kbT
          have hW15 := hW12.but B12 ok.w1 kbT
          have gn15 := gn12.but B12 kbT
          have hym := hperm3.mem_iff.mp (List.mem_of_getElem? hy)
          have ne01 : decide (V.int 0 = V.int 1) = false := by decide
          have ne02 : decide (V.int 0 = V.int 2) = false := by decide
          have ne10 : decide (V.int 1 = V.int 0) = false := by decide
          have ne12 : decide (V.int 1 = V.int 2) = false := by decide
          have ne20 : decide (V.int 2 = V.int 0) = false := by decide
          have ne21 : decide (V.int 2 = V.int 1) = false := by decide
          rcases (by simpa using hym : y = V.int 0 ∨ y = V.int 1 ∨ y = V.int 2) with rfl | rfl | rfl
          · refine ⟨_, rfl, rfl, _, rfl, ?_⟩
            rw [decide_eq_true rfl]
            refine iteT ⟨_, rfl, _, rfl, x, d, W, _, rowOf es, rfl, I15, hW15, ok, fun H16 s16 => ⟨_, rfl, iteF ⟨_, rfl, rfl, _, rfl, ?_⟩⟩⟩
            rw [ne01]
            refine iteF ⟨_, rfl, rfl, _, rfl, ?_⟩
            rw [ne02]
            exact iteF ⟨_, rfl, kb15.trans (But.of s16), B15.same s16⟩
          · refine ⟨_, rfl, rfl, _, rfl, ?_⟩
            rw [ne10]
            refine iteF ⟨_, rfl, rfl, _, rfl, ?_⟩
            rw [decide_eq_true rfl]
            refine iteT ⟨_, rfl, _, rfl, _, rfl, x, d, gd, W, _, rowOf es, rfl, I15, hW15, ok, gn15, fun H16 s16 => ⟨_, rfl, iteF ⟨_, rfl, rfl, _, rfl, ?_⟩⟩⟩
            rw [ne12]
            exact iteF ⟨_, rfl, kb15.trans (But.of s16), B15.same s16⟩
          · refine ⟨_, rfl, rfl, _, rfl, ?_⟩
            rw [ne20]
            refine iteF ⟨_, rfl, rfl, _, rfl, ?_⟩
            rw [ne21]
            refine iteF ⟨_, rfl, rfl, _, rfl, ?_⟩
            rw [decide_eq_true rfl]
            exact iteT ⟨_, rfl, _, rfl, _, rfl, _, rfl, b, k, x, d, gd, ns', W, _, rowOf es, rfl, B15, I15, hW15, ok, gn15, fun H16 kb16 B16 => ⟨_, rfl, iteF ⟨_, rfl, kb15.trans kb16, B16⟩⟩⟩
        · rintro σ H15 ⟨v10, rfl, kb15, B15⟩
          exact ⟨_, _, rfl, kbA.trans kb15, B15⟩
      · rintro σ H13 ⟨v9, v10, rfl, kb13, B13⟩
        exact ⟨_, _, _, _, _, _, _, _, _, rfl, B13⟩
    · rintro σ H3 _
      exact q H3
end
end HG

namespace HG
open PySem PySem.Spec PyProof.Rows L2
/-! ### the facts of the text -/
structure DF (K : PySem.W.Frag) (x : Str) (st : Stmt) (f : Addr) (fd : FuncData) : Prop where
  ns : PySem.W.nsIn K mainGlobals x = some (some (.ref f))
  F : Fun K x x st f fd
theorem DF.mk' {K : PySem.W.Frag} {x : Str} {st : Stmt} {f : Addr} {od an : Option Addr} {sl : Array (Option Value)} {oc kV dc pm cd ct : Value} (ns : PySem.W.nsIn K mainGlobals x = some (some (.ref f)))
    (l : K.lookup f = some ⟨oc, od, .func (PySem.W.fnOf x x (defArgs st) (defBody st) (defScope st) .none kV dc pm an cd ct), sl⟩) (c : PySem.W.codeIn K cd x = true) (k : PySem.W.keepIn K (.ref f) = true) :
    DF K x st f (PySem.W.fnOf x x (defArgs st) (defBody st) (defScope st) .none kV dc pm an cd ct) := ⟨ns, fun_mk l c k⟩
structure MF (K : PySem.W.Frag) (C : Addr) (m q : Str) (st : Stmt) (f : Addr) (fd : FuncData) : Prop where
  me : Meth K C m f
  F : Fun K m q st f fd
theorem MF.mk' {K : PySem.W.Frag} {C : Addr} {m q : Str} {st : Stmt} {f : Addr} {od an : Option Addr} {sl : Array (Option Value)} {oc kV dc pm cd ct : Value} (a : PySem.W.findIn K (.ref C) m = some (some (.ref f))) (b : PySem.W.isFn K (.ref f) = true)
    (l : K.lookup f = some ⟨oc, od, .func (PySem.W.fnOf m q (defArgs st) (defBody st) (defScope st) .none kV dc pm an cd ct), sl⟩) (c : PySem.W.codeIn K cd q = true) (k : PySem.W.keepIn K (.ref f) = true) :
    MF K C m q st f (PySem.W.fnOf m q (defArgs st) (defBody st) (defScope st) .none kV dc pm an cd ct) := ⟨⟨a, b, k⟩, fun_mk l c k⟩
theorem kit_ref {K : PySem.W.Frag} {C : Addr} {T : String} (m : PySem.W.kitMeta T = true) (h : PySem.W.mroIn K C (.type T) = some false) : PySem.W.kitOne K (.ref C) (.type T) = some false := by
  unfold PySem.W.kitOne
  rw [if_neg (by simp)]
  show (if PySem.W.kitMeta T = true then _ else _) = _
  rw [if_pos m]
  exact h
theorem df_of {K : PySem.W.Frag} {h : Heap} {mg : Str → Option Value} {x : Str} {st : Stmt} {f : Addr} {fd : FuncData} (X : K.In h) (G : h.Ns mainGlobals mg) (d : DF K x st f fd) : Df K mg x st f fd := ⟨PySem.W.mg_of X G d.ns, d.F⟩
theorem all_mk {l : PySem.W.OpenLaw} {w : World} {K : PySem.W.Frag} {h : Heap} {mg : Str → Option Value} {fa C g0 g1 g2 g3 g4 g5 g6 g7 g8 g9 g10 g11 g12 g13 g14 g15 g16 g17 h0 h1 h2 h3 h4 h5 h6 h7 h8 h9 h10 h11 h12 h13 h14 h15 h16 h17 h18 h19 h20 h21 h22 h23 h24 h25 h26 h27 h28 h29 : Addr} {gd0 gd1 gd2 gd3 gd4 gd5 gd6 gd7 gd8 gd9 gd10 gd11 gd12 gd13 gd14 gd15 gd16 gd17 hd0 hd1 hd2 hd3 hd4 hd5 hd6 hd7 hd8 hd9 hd10 hd11 hd12 hd13 hd14 hd15 hd16 hd17 hd18 hd19 hd20 hd21 hd22 hd23 hd24 hd25 hd26 hd27 hd28 hd29 : FuncData} {t_MOST_LETTERS t_MOST_NAMES t_MOST_STANDINGS : Tok} (X : K.In h) (G : h.Ns mainGlobals mg) (hfa : mg "law" = some (.ref fa))
    (nC : PySem.W.nsIn K mainGlobals "Game" = some (some (.ref C)))
    (cpg : PySem.W.plainGet K C Str.empty = true)
    (chd : PySem.W.hasDictIn K C = true)
    (cpo : PySem.W.plainOver K C = true)
    (csa : PySem.W.findIn K (.ref C) "__setattr__" = some (some (.builtin "object.__setattr__")))
    (cW : PySem.W.findIn K (.ref C) "way_lists" = some none)
    (cL : PySem.W.findIn K (.ref C) "standing_list" = some none)
    (cG : PySem.W.findIn K (.ref C) "gain_table" = some none)
    (iha : PySem.W.findIn K (.ref C) "__class__" = some (some (.builtin "object.__class__")))
    (ihn : PySem.W.specialIn K (.builtin "object.__class__") "__get__" = some (some (.builtin "getset_descriptor.__get__")))
    (iht : PySem.W.takesIn K (.builtin "object.__class__") = some true)
    (ihm : PySem.W.mroIn K C (.type "object") = some true)
    (mkm : PySem.W.makesIn K C = true)
    (mkk : PySem.W.keepIn K (.ref C) = true)
    (kt_str : PySem.W.mroIn K C (.type "str") = some false)
    (kt_int : PySem.W.mroIn K C (.type "int") = some false)
    (kt_bool : PySem.W.mroIn K C (.type "bool") = some false)
    (kt_list : PySem.W.mroIn K C (.type "list") = some false)
    (kt_tuple : PySem.W.mroIn K C (.type "tuple") = some false)
    (kt_dict : PySem.W.mroIn K C (.type "dict") = some false)
    (m0 : MF K C "__init__" "Game.__init__" s_Game___init g0 gd0)
    (m1 : MF K C "__len__" "Game.__len__" s_Game___len g1 gd1)
    (m2 : MF K C "__contains__" "Game.__contains__" s_Game___contains g2 gd2)
    (m3 : MF K C "__iter__" "Game.__iter__" s_Game___iter g3 gd3)
    (m4 : MF K C "choosers" "Game.choosers" s_Game_choosers g4 gd4)
    (m5 : MF K C "ways" "Game.ways" s_Game_ways g5 gd5)
    (m6 : MF K C "shape" "Game.shape" s_Game_shape g6 gd6)
    (m7 : MF K C "standings" "Game.standings" s_Game_standings g7 gd7)
    (m8 : MF K C "gain" "Game.gain" s_Game_gain g8 gd8)
    (m9 : MF K C "gains" "Game.gains" s_Game_gains g9 gd9)
    (m10 : MF K C "goal" "Game.goal" s_Game_goal g10 gd10)
    (m11 : MF K C "own" "Game.own" s_Game_own g11 gd11)
    (m12 : MF K C "changes" "Game.changes" s_Game_changes g12 gd12)
    (m13 : MF K C "has_chooser" "Game.has_chooser" s_Game_has_chooser g13 gd13)
    (m14 : MF K C "can_do" "Game.can_do" s_Game_can_do g14 gd14)
    (m15 : MF K C "seat" "Game.seat" s_Game_seat g15 gd15)
    (m16 : MF K C "check_chooser" "Game.check_chooser" s_Game_check_chooser g16 gd16)
    (m17 : MF K C "check_standing" "Game.check_standing" s_Game_check_standing g17 gd17)
    (d0 : DF K "is_integer" s_is_integer h0 hd0)
    (d1 : DF K "is_name" s_is_name h1 hd1)
    (d2 : DF K "are_names" s_are_names h2 hd2)
    (d3 : DF K "is_shape" s_is_shape h3 hd3)
    (d4 : DF K "is_change" s_is_change h4 hd4)
    (d5 : DF K "sorted_ways" s_sorted_ways h5 hd5)
    (d6 : DF K "standings_of" s_standings_of h6 hd6)
    (d7 : DF K "put" s_put h7 hd7)
    (d8 : DF K "is_one_of" s_is_one_of h8 hd8)
    (d9 : DF K "are_integers" s_are_integers h9 hd9)
    (d10 : DF K "is_table" s_is_table h10 hd10)
    (d11 : DF K "_law_bag" s_law_bag h11 hd11)
    (d12 : DF K "_law_take" s_law_take h12 hd12)
    (d13 : DF K "_law_one" s_law_one h13 hd13)
    (d14 : DF K "_law_mixed" s_law_mixed h14 hd14)
    (d15 : DF K "_law_names" s_law_names h15 hd15)
    (d16 : DF K "_law_sizes" s_law_sizes h16 hd16)
    (d17 : DF K "_law_product" s_law_product h17 hd17)
    (d18 : DF K "_law_shape" s_law_shape h18 hd18)
    (d19 : DF K "_law_wider" s_law_wider h19 hd19)
    (d20 : DF K "_law_standings" s_law_standings h20 hd20)
    (d21 : DF K "_law_number" s_law_number h21 hd21)
    (d22 : DF K "_law_gains" s_law_gains h22 hd22)
    (d23 : DF K "_law_handed" s_law_handed h23 hd23)
    (d24 : DF K "_law_emptied" s_law_emptied h24 hd24)
    (d25 : DF K "_law_near" s_law_near h25 hd25)
    (d26 : DF K "_law_shape_right" s_law_shape_right h26 hd26)
    (d27 : DF K "_law_standings_right" s_law_standings_right h27 hd27)
    (d28 : DF K "_law_changes_right" s_law_changes_right h28 hd28)
    (d29 : DF K "law" s_law h29 hd29)
    (c_MOST_LETTERS : PySem.W.nsIn K mainGlobals "MOST_LETTERS" = some (some (.int 8 t_MOST_LETTERS)))
    (c_MOST_NAMES : PySem.W.nsIn K mainGlobals "MOST_NAMES" = some (some (.int 4 t_MOST_NAMES)))
    (c_MOST_STANDINGS : PySem.W.nsIn K mainGlobals "MOST_STANDINGS" = some (some (.int 81 t_MOST_STANDINGS)))
    (n_isinstance : PySem.W.nsIn K mainGlobals "isinstance" = some none)
    (n_len : PySem.W.nsIn K mainGlobals "len" = some none)
    (n_all : PySem.W.nsIn K mainGlobals "all" = some none)
    (n_set : PySem.W.nsIn K mainGlobals "set" = some none)
    (n_list : PySem.W.nsIn K mainGlobals "list" = some none)
    (n_tuple : PySem.W.nsIn K mainGlobals "tuple" = some none)
    (n_dict : PySem.W.nsIn K mainGlobals "dict" = some none)
    (n_str : PySem.W.nsIn K mainGlobals "str" = some none)
    (n_int : PySem.W.nsIn K mainGlobals "int" = some none)
    (n_bool : PySem.W.nsIn K mainGlobals "bool" = some none)
    (n_sorted : PySem.W.nsIn K mainGlobals "sorted" = some none)
    (n_iter : PySem.W.nsIn K mainGlobals "iter" = some none)
    (n_enumerate : PySem.W.nsIn K mainGlobals "enumerate" = some none)
    (n_abs : PySem.W.nsIn K mainGlobals "abs" = some none)
    (n_repr : PySem.W.nsIn K mainGlobals "repr" = some none)
    (n_min : PySem.W.nsIn K mainGlobals "min" = some none)
    (n_range : PySem.W.nsIn K mainGlobals "range" = some none)
    : ∃ fd : FuncData, (∀ (s : Shared) (u : Value), BindsTo s fd ⟨[u], []⟩ [("_law_script", u)]) ∧ ∀ base : Heap, K.In base → base.Ns mainGlobals mg → FnG l.prog w K mg base CX0 8 fa fd ["_law_script"] (spLaw K) := by
  have efa : fa = h29 := by
    have z := PySem.W.mg_of X G d29.ns
    rw [hfa] at z
    cases z
    rfl
  subst efa
  have q_isinstance := PySem.W.mg_none_of X G n_isinstance
  have q_len := PySem.W.mg_none_of X G n_len
  have q_all := PySem.W.mg_none_of X G n_all
  have q_set := PySem.W.mg_none_of X G n_set
  have q_list := PySem.W.mg_none_of X G n_list
  have q_tuple := PySem.W.mg_none_of X G n_tuple
  have q_dict := PySem.W.mg_none_of X G n_dict
  have q_str := PySem.W.mg_none_of X G n_str
  have q_int := PySem.W.mg_none_of X G n_int
  have q_bool := PySem.W.mg_none_of X G n_bool
  have q_sorted := PySem.W.mg_none_of X G n_sorted
  have q_iter := PySem.W.mg_none_of X G n_iter
  have q_enumerate := PySem.W.mg_none_of X G n_enumerate
  have q_abs := PySem.W.mg_none_of X G n_abs
  have q_repr := PySem.W.mg_none_of X G n_repr
  have q_min := PySem.W.mg_none_of X G n_min
  have q_range := PySem.W.mg_none_of X G n_range
  have b0 := d0.F.binds (ps := ["thing"]) fun _ _ _ _ _ _ us hl => match us, hl with | [_], _ => rfl
  have D0 := df_of X G d0
  have b1 := d1.F.binds (ps := ["thing"]) fun _ _ _ _ _ _ us hl => match us, hl with | [_], _ => rfl
  have D1 := df_of X G d1
  have b2 := d2.F.binds (ps := ["thing"]) fun _ _ _ _ _ _ us hl => match us, hl with | [_], _ => rfl
  have D2 := df_of X G d2
  have b3 := d3.F.binds (ps := ["thing"]) fun _ _ _ _ _ _ us hl => match us, hl with | [_], _ => rfl
  have D3 := df_of X G d3
  have b4 := d4.F.binds (ps := ["thing"]) fun _ _ _ _ _ _ us hl => match us, hl with | [_], _ => rfl
  have D4 := df_of X G d4
  have b5 := d5.F.binds (ps := ["ways"]) fun _ _ _ _ _ _ us hl => match us, hl with | [_], _ => rfl
  have D5 := df_of X G d5
  have b6 := d6.F.binds (ps := ["way_lists"]) fun _ _ _ _ _ _ us hl => match us, hl with | [_], _ => rfl
  have D6 := df_of X G d6
  have b7 := d7.F.binds (ps := ["items", "at", "item"]) fun _ _ _ _ _ _ us hl => match us, hl with | [_, _, _], _ => rfl
  have D7 := df_of X G d7
  have b8 := d8.F.binds (ps := ["thing", "tuples"]) fun _ _ _ _ _ _ us hl => match us, hl with | [_, _], _ => rfl
  have D8 := df_of X G d8
  have b9 := d9.F.binds (ps := ["thing", "many"]) fun _ _ _ _ _ _ us hl => match us, hl with | [_, _], _ => rfl
  have D9 := df_of X G d9
  have b10 := d10.F.binds (ps := ["thing", "wanted", "many"]) fun _ _ _ _ _ _ us hl => match us, hl with | [_, _, _], _ => rfl
  have D10 := df_of X G d10
  have b11 := d11.F.binds (ps := ["_law_script"]) fun _ _ _ _ _ _ us hl => match us, hl with | [_], _ => rfl
  have D11 := df_of X G d11
  have b12 := d12.F.binds (ps := ["_law_bag_here", "_law_many"]) fun _ _ _ _ _ _ us hl => match us, hl with | [_, _], _ => rfl
  have D12 := df_of X G d12
  have b13 := d13.F.binds (ps := ["_law_bag_here", "_law_some"]) fun _ _ _ _ _ _ us hl => match us, hl with | [_, _], _ => rfl
  have D13 := df_of X G d13
  have b14 := d14.F.binds (ps := ["_law_bag_here", "_law_things"]) fun _ _ _ _ _ _ us hl => match us, hl with | [_, _], _ => rfl
  have D14 := df_of X G d14
  have b15 := d15.F.binds (ps := ["_law_bag_here", "_law_size"]) fun _ _ _ _ _ _ us hl => match us, hl with | [_, _], _ => rfl
  have D15 := df_of X G d15
  have b16 := d16.F.binds (ps := ["_law_bag_here", "_law_most"]) fun _ _ _ _ _ _ us hl => match us, hl with | [_, _], _ => rfl
  have D16 := df_of X G d16
  have b17 := d17.F.binds (ps := ["_law_numbers"]) fun _ _ _ _ _ _ us hl => match us, hl with | [_], _ => rfl
  have D17 := df_of X G d17
  have b18 := d18.F.binds (ps := ["_law_bag_here", "_law_most"]) fun _ _ _ _ _ _ us hl => match us, hl with | [_, _], _ => rfl
  have D18 := df_of X G d18
  have b19 := d19.F.binds (ps := ["_law_some", "_law_ways"]) fun _ _ _ _ _ _ us hl => match us, hl with | [_, _], _ => rfl
  have D19 := df_of X G d19
  have b20 := d20.F.binds (ps := ["_law_ways"]) fun _ _ _ _ _ _ us hl => match us, hl with | [_], _ => rfl
  have D20 := df_of X G d20
  have b21 := d21.F.binds (ps := ["_law_bag_here", "_law_style"]) fun _ _ _ _ _ _ us hl => match us, hl with | [_, _], _ => rfl
  have D21 := df_of X G d21
  have b22 := d22.F.binds (ps := ["_law_bag_here", "_law_ways"]) fun _ _ _ _ _ _ us hl => match us, hl with | [_, _], _ => rfl
  have D22 := df_of X G d22
  have b23 := d23.F.binds (ps := ["_law_bag_here", "_law_ways", "_law_gains_here"]) fun _ _ _ _ _ _ us hl => match us, hl with | [_, _, _], _ => rfl
  have D23 := df_of X G d23
  have b24 := d24.F.binds (ps := ["_law_ways", "_law_gains_here"]) fun _ _ _ _ _ _ us hl => match us, hl with | [_, _], _ => rfl
  have D24 := df_of X G d24
  have b25 := d25.F.binds (ps := ["_law_ways", "_law_standing"]) fun _ _ _ _ _ _ us hl => match us, hl with | [_, _], _ => rfl
  have D25 := df_of X G d25
  have b26 := d26.F.binds (ps := ["_law_game", "_law_ways"]) fun _ _ _ _ _ _ us hl => match us, hl with | [_, _], _ => rfl
  have D26 := df_of X G d26
  have b27 := d27.F.binds (ps := ["_law_game", "_law_ways", "_law_gains_here"]) fun _ _ _ _ _ _ us hl => match us, hl with | [_, _, _], _ => rfl
  have D27 := df_of X G d27
  have b28 := d28.F.binds (ps := ["_law_bag_here", "_law_game", "_law_ways", "_law_gains_here"]) fun _ _ _ _ _ _ us hl => match us, hl with | [_, _, _, _], _ => rfl
  have D28 := df_of X G d28
  have b29 := d29.F.binds (ps := ["_law_script"]) fun _ _ _ _ _ _ us hl => match us, hl with | [_], _ => rfl
  have D29 := df_of X G d29
  have mb0 := m0.F.binds (ps := ["self", "ways", "gains"]) fun _ _ _ _ _ _ us hl => match us, hl with | [_, _, _], _ => rfl
  have mb1 := m1.F.binds (ps := ["self"]) fun _ _ _ _ _ _ us hl => match us, hl with | [_], _ => rfl
  have mb2 := m2.F.binds (ps := ["self", "x"]) fun _ _ _ _ _ _ us hl => match us, hl with | [_, _], _ => rfl
  have mb3 := m3.F.binds (ps := ["self"]) fun _ _ _ _ _ _ us hl => match us, hl with | [_], _ => rfl
  have mb4 := m4.F.binds (ps := ["self"]) fun _ _ _ _ _ _ us hl => match us, hl with | [_], _ => rfl
  have mb5 := m5.F.binds (ps := ["self", "chooser"]) fun _ _ _ _ _ _ us hl => match us, hl with | [_, _], _ => rfl
  have mb6 := m6.F.binds (ps := ["self"]) fun _ _ _ _ _ _ us hl => match us, hl with | [_], _ => rfl
  have mb7 := m7.F.binds (ps := ["self"]) fun _ _ _ _ _ _ us hl => match us, hl with | [_], _ => rfl
  have mb8 := m8.F.binds (ps := ["self", "chooser", "standing"]) fun _ _ _ _ _ _ us hl => match us, hl with | [_, _, _], _ => rfl
  have mb9 := m9.F.binds (ps := ["self", "standing"]) fun _ _ _ _ _ _ us hl => match us, hl with | [_, _], _ => rfl
  have mb10 := m10.F.binds (ps := ["self", "standing", "change"]) fun _ _ _ _ _ _ us hl => match us, hl with | [_, _, _], _ => rfl
  have mb11 := m11.F.binds (ps := ["self", "standing", "change"]) fun _ _ _ _ _ _ us hl => match us, hl with | [_, _, _], _ => rfl
  have mb12 := m12.F.binds (ps := ["self", "standing"]) fun _ _ _ _ _ _ us hl => match us, hl with | [_, _], _ => rfl
  have mb13 := m13.F.binds (ps := ["self", "thing"]) fun _ _ _ _ _ _ us hl => match us, hl with | [_, _], _ => rfl
  have mb14 := m14.F.binds (ps := ["self", "standing", "thing"]) fun _ _ _ _ _ _ us hl => match us, hl with | [_, _, _], _ => rfl
  have mb15 := m15.F.binds (ps := ["self", "chooser"]) fun _ _ _ _ _ _ us hl => match us, hl with | [_, _], _ => rfl
  have mb16 := m16.F.binds (ps := ["self", "chooser"]) fun _ _ _ _ _ _ us hl => match us, hl with | [_, _], _ => rfl
  have mb17 := m17.F.binds (ps := ["self", "standing"]) fun _ _ _ _ _ _ us hl => match us, hl with | [_, _], _ => rfl
  have T : KT K mg := { m_isinstance := q_isinstance, m_len := q_len, m_all := q_all, m_set := q_set, m_list := q_list, m_tuple := q_tuple, m_dict := q_dict, m_str := q_str, m_int := q_int, m_bool := q_bool, g_letters := ⟨_, PySem.W.mg_of X G c_MOST_LETTERS⟩, g_names := ⟨_, PySem.W.mg_of X G c_MOST_NAMES⟩, g_standings := ⟨_, PySem.W.mg_of X G c_MOST_STANDINGS⟩ }
  have GDv : GD K mg h3 h2 h1 h5 h6 h10 h9 h0 h8 h7 hd3 hd2 hd1 hd5 hd6 hd10 hd9 hd0 hd8 hd7 := { T := T, m_sorted := q_sorted, shape := D3, bShape := b3, names := D2, bNames := b2, name := D1, bName := b1, sorted := D5, bSorted := b5, stds := D6, bStds := b6, table := D10, bTable := b10, aInts := D9, bInts := b9, aInt := D0, bInt := b0, one := D8, bOne := b8, put := D7, bPut := b7 }
  have GHv : GDC K mg h4 hd4 := ⟨D4, b4⟩
  have cv : GC K C := ⟨⟨cpg, chd, cpo, csa⟩, cW, cL, cG⟩
  have civ : InsOk K C := ⟨iha, ihn, iht, ihm, fun T hT => by
    simp only [List.mem_cons, List.not_mem_nil, or_false] at hT
    rcases hT with rfl | rfl | rfl | rfl | rfl | rfl <;> exact kit_ref (by decide +kernel) (by assumption)⟩
  have mkv : Mk K C g0 := ⟨mkm, m0.me.at_, m0.me.fn, mkk⟩
  have Bv : BT K mg h12 h13 hd12 hd13 := ⟨q_len, q_int, d12.F, b12, D12.g, d13.F, b13, D13.g⟩
  have Mv : MxT K mg h14 hd14 := ⟨d14.F, b14, D14.g⟩
  have Nv : NmT K mg h15 h16 h17 hd15 hd16 hd17 := ⟨d15.F, b15, D15.g, d16.F, b16, D16.g, d17.F, b17, D17.g⟩
  have GLv : GnT K mg h21 h20 h19 hd21 hd20 hd19 := ⟨q_sorted, q_min, q_range, q_tuple, q_list, q_dict, d21.F, b21, D21.g, d20.F, b20, D20.g, d19.F, b19, D19.g⟩
  obtain ⟨oc, od, kV, doc, pm, an, cdv, ct, osl, e7, lk7, hcd7⟩ := d29.F.ex
  refine ⟨hd29, fun s v => by rw [e7]; exact .of_eq rfl, fun base _ _ => ?_⟩
  exact ok_law GDv GHv cv civ mkv m0.F mb0 (PySem.W.mg_of X G nC) ⟨m6.me, m6.F, mb6⟩ ⟨m4.me, m4.F, mb4⟩ ⟨m5.me, m5.F, mb5⟩ ⟨m7.me, m7.F, mb7⟩ ⟨m9.me, m9.F, mb9⟩ ⟨m8.me, m8.F, mb8⟩ ⟨m3.me, m3.F, mb3⟩ ⟨m1.me, m1.F, mb1⟩ ⟨m16.me, m16.F, mb16⟩ ⟨m13.me, m13.F, mb13⟩ ⟨m17.me, m17.F, mb17⟩ ⟨m2.me, m2.F, mb2⟩ ⟨m15.me, m15.F, mb15⟩ ⟨m14.me, m14.F, mb14⟩ ⟨m12.me, m12.F, mb12⟩ ⟨m10.me, m10.F, mb10⟩ ⟨m11.me, m11.F, mb11⟩ q_iter q_enumerate q_abs q_repr Bv Mv Nv GLv D11 b11 D18 b18 D22 b22 D23 b23 D24 b24 D25 b25 D26 b26 D27 b27 D28 b28 d29.F
end HG

open PySem PySem.W PyProof.Rows
set_option maxRecDepth 100000 in
set_option maxHeartbeats 0 in
theorem PySem.Challenge.cw_heightgames_k12_games_told_holds : PySem.Challenge.rw_heightgames_k12_games_told.Holds := by
  w_on; o_law; k_head; (case hw => w_witness2)
  k_fill
  refine HG.walkG (l := PySem.Challenge.rw_heightgames_k12_games_told) (n := 63) (k := 8) (x := "_law_script") (sp := HG.spLaw) rfl (by decide) rfl ⟨rfl, by decide, by decide⟩ (fun w h Y => PySem.W.kIn_of Y) ?F (fun K H a ns hl _ hS => ⟨a, ns, rfl, hS, hl, fun _ => rfl⟩)
  case F =>
    intro w mg fa h KX G hmg
    refine' HG.all_mk KX G hmg ?nC ?cpg ?chd ?cpo ?csa ?cW ?cL ?cG ?iha ?ihn ?iht ?ihm ?mkm ?mkk ?kt_str ?kt_int ?kt_bool ?kt_list ?kt_tuple ?kt_dict ?m0 ?m1 ?m2 ?m3 ?m4 ?m5 ?m6 ?m7 ?m8 ?m9 ?m10 ?m11 ?m12 ?m13 ?m14 ?m15 ?m16 ?m17 ?d0 ?d1 ?d2 ?d3 ?d4 ?d5 ?d6 ?d7 ?d8 ?d9 ?d10 ?d11 ?d12 ?d13 ?d14 ?d15 ?d16 ?d17 ?d18 ?d19 ?d20 ?d21 ?d22 ?d23 ?d24 ?d25 ?d26 ?d27 ?d28 ?d29 ?c_MOST_LETTERS ?c_MOST_NAMES ?c_MOST_STANDINGS ?n_isinstance ?n_len ?n_all ?n_set ?n_list ?n_tuple ?n_dict ?n_str ?n_int ?n_bool ?n_sorted ?n_iter ?n_enumerate ?n_abs ?n_repr ?n_min ?n_range
    (case nC => k_is)
    (case cpg => k_is)
    (case chd => k_is)
    (case cpo => k_is)
    (case csa => k_is)
    (case cW => k_is)
    (case cL => k_is)
    (case cG => k_is)
    (case iha => k_is)
    (case ihn => k_is)
    (case iht => k_is)
    (case ihm => k_is)
    (case mkm => k_is)
    (case mkk => k_is)
    (case kt_str => k_is)
    (case kt_int => k_is)
    (case kt_bool => k_is)
    (case kt_list => k_is)
    (case kt_tuple => k_is)
    (case kt_dict => k_is)
    (case m0 => (refine' HG.MF.mk' ?a ?b ?l ?c ?k; (case a => k_is); (case b => k_is); (case l => k_is); (case c => k_is); (case k => k_is)))
    (case m1 => (refine' HG.MF.mk' ?a ?b ?l ?c ?k; (case a => k_is); (case b => k_is); (case l => k_is); (case c => k_is); (case k => k_is)))
    (case m2 => (refine' HG.MF.mk' ?a ?b ?l ?c ?k; (case a => k_is); (case b => k_is); (case l => k_is); (case c => k_is); (case k => k_is)))
    (case m3 => (refine' HG.MF.mk' ?a ?b ?l ?c ?k; (case a => k_is); (case b => k_is); (case l => k_is); (case c => k_is); (case k => k_is)))
    (case m4 => (refine' HG.MF.mk' ?a ?b ?l ?c ?k; (case a => k_is); (case b => k_is); (case l => k_is); (case c => k_is); (case k => k_is)))
    (case m5 => (refine' HG.MF.mk' ?a ?b ?l ?c ?k; (case a => k_is); (case b => k_is); (case l => k_is); (case c => k_is); (case k => k_is)))
    (case m6 => (refine' HG.MF.mk' ?a ?b ?l ?c ?k; (case a => k_is); (case b => k_is); (case l => k_is); (case c => k_is); (case k => k_is)))
    (case m7 => (refine' HG.MF.mk' ?a ?b ?l ?c ?k; (case a => k_is); (case b => k_is); (case l => k_is); (case c => k_is); (case k => k_is)))
    (case m8 => (refine' HG.MF.mk' ?a ?b ?l ?c ?k; (case a => k_is); (case b => k_is); (case l => k_is); (case c => k_is); (case k => k_is)))
    (case m9 => (refine' HG.MF.mk' ?a ?b ?l ?c ?k; (case a => k_is); (case b => k_is); (case l => k_is); (case c => k_is); (case k => k_is)))
    (case m10 => (refine' HG.MF.mk' ?a ?b ?l ?c ?k; (case a => k_is); (case b => k_is); (case l => k_is); (case c => k_is); (case k => k_is)))
    (case m11 => (refine' HG.MF.mk' ?a ?b ?l ?c ?k; (case a => k_is); (case b => k_is); (case l => k_is); (case c => k_is); (case k => k_is)))
    (case m12 => (refine' HG.MF.mk' ?a ?b ?l ?c ?k; (case a => k_is); (case b => k_is); (case l => k_is); (case c => k_is); (case k => k_is)))
    (case m13 => (refine' HG.MF.mk' ?a ?b ?l ?c ?k; (case a => k_is); (case b => k_is); (case l => k_is); (case c => k_is); (case k => k_is)))
    (case m14 => (refine' HG.MF.mk' ?a ?b ?l ?c ?k; (case a => k_is); (case b => k_is); (case l => k_is); (case c => k_is); (case k => k_is)))
    (case m15 => (refine' HG.MF.mk' ?a ?b ?l ?c ?k; (case a => k_is); (case b => k_is); (case l => k_is); (case c => k_is); (case k => k_is)))
    (case m16 => (refine' HG.MF.mk' ?a ?b ?l ?c ?k; (case a => k_is); (case b => k_is); (case l => k_is); (case c => k_is); (case k => k_is)))
    (case m17 => (refine' HG.MF.mk' ?a ?b ?l ?c ?k; (case a => k_is); (case b => k_is); (case l => k_is); (case c => k_is); (case k => k_is)))
    (case d0 => (refine' HG.DF.mk' ?a ?b ?c ?d; (case a => k_is); (case b => k_is); (case c => k_is); (case d => k_is)))
    (case d1 => (refine' HG.DF.mk' ?a ?b ?c ?d; (case a => k_is); (case b => k_is); (case c => k_is); (case d => k_is)))
    (case d2 => (refine' HG.DF.mk' ?a ?b ?c ?d; (case a => k_is); (case b => k_is); (case c => k_is); (case d => k_is)))
    (case d3 => (refine' HG.DF.mk' ?a ?b ?c ?d; (case a => k_is); (case b => k_is); (case c => k_is); (case d => k_is)))
    (case d4 => (refine' HG.DF.mk' ?a ?b ?c ?d; (case a => k_is); (case b => k_is); (case c => k_is); (case d => k_is)))
    (case d5 => (refine' HG.DF.mk' ?a ?b ?c ?d; (case a => k_is); (case b => k_is); (case c => k_is); (case d => k_is)))
    (case d6 => (refine' HG.DF.mk' ?a ?b ?c ?d; (case a => k_is); (case b => k_is); (case c => k_is); (case d => k_is)))
    (case d7 => (refine' HG.DF.mk' ?a ?b ?c ?d; (case a => k_is); (case b => k_is); (case c => k_is); (case d => k_is)))
    (case d8 => (refine' HG.DF.mk' ?a ?b ?c ?d; (case a => k_is); (case b => k_is); (case c => k_is); (case d => k_is)))
    (case d9 => (refine' HG.DF.mk' ?a ?b ?c ?d; (case a => k_is); (case b => k_is); (case c => k_is); (case d => k_is)))
    (case d10 => (refine' HG.DF.mk' ?a ?b ?c ?d; (case a => k_is); (case b => k_is); (case c => k_is); (case d => k_is)))
    (case d11 => (refine' HG.DF.mk' ?a ?b ?c ?d; (case a => k_is); (case b => k_is); (case c => k_is); (case d => k_is)))
    (case d12 => (refine' HG.DF.mk' ?a ?b ?c ?d; (case a => k_is); (case b => k_is); (case c => k_is); (case d => k_is)))
    (case d13 => (refine' HG.DF.mk' ?a ?b ?c ?d; (case a => k_is); (case b => k_is); (case c => k_is); (case d => k_is)))
    (case d14 => (refine' HG.DF.mk' ?a ?b ?c ?d; (case a => k_is); (case b => k_is); (case c => k_is); (case d => k_is)))
    (case d15 => (refine' HG.DF.mk' ?a ?b ?c ?d; (case a => k_is); (case b => k_is); (case c => k_is); (case d => k_is)))
    (case d16 => (refine' HG.DF.mk' ?a ?b ?c ?d; (case a => k_is); (case b => k_is); (case c => k_is); (case d => k_is)))
    (case d17 => (refine' HG.DF.mk' ?a ?b ?c ?d; (case a => k_is); (case b => k_is); (case c => k_is); (case d => k_is)))
    (case d18 => (refine' HG.DF.mk' ?a ?b ?c ?d; (case a => k_is); (case b => k_is); (case c => k_is); (case d => k_is)))
    (case d19 => (refine' HG.DF.mk' ?a ?b ?c ?d; (case a => k_is); (case b => k_is); (case c => k_is); (case d => k_is)))
    (case d20 => (refine' HG.DF.mk' ?a ?b ?c ?d; (case a => k_is); (case b => k_is); (case c => k_is); (case d => k_is)))
    (case d21 => (refine' HG.DF.mk' ?a ?b ?c ?d; (case a => k_is); (case b => k_is); (case c => k_is); (case d => k_is)))
    (case d22 => (refine' HG.DF.mk' ?a ?b ?c ?d; (case a => k_is); (case b => k_is); (case c => k_is); (case d => k_is)))
    (case d23 => (refine' HG.DF.mk' ?a ?b ?c ?d; (case a => k_is); (case b => k_is); (case c => k_is); (case d => k_is)))
    (case d24 => (refine' HG.DF.mk' ?a ?b ?c ?d; (case a => k_is); (case b => k_is); (case c => k_is); (case d => k_is)))
    (case d25 => (refine' HG.DF.mk' ?a ?b ?c ?d; (case a => k_is); (case b => k_is); (case c => k_is); (case d => k_is)))
    (case d26 => (refine' HG.DF.mk' ?a ?b ?c ?d; (case a => k_is); (case b => k_is); (case c => k_is); (case d => k_is)))
    (case d27 => (refine' HG.DF.mk' ?a ?b ?c ?d; (case a => k_is); (case b => k_is); (case c => k_is); (case d => k_is)))
    (case d28 => (refine' HG.DF.mk' ?a ?b ?c ?d; (case a => k_is); (case b => k_is); (case c => k_is); (case d => k_is)))
    (case d29 => (refine' HG.DF.mk' ?a ?b ?c ?d; (case a => k_is); (case b => k_is); (case c => k_is); (case d => k_is)))
    (case c_MOST_LETTERS => k_is)
    (case c_MOST_NAMES => k_is)
    (case c_MOST_STANDINGS => k_is)
    (case n_isinstance => k_is)
    (case n_len => k_is)
    (case n_all => k_is)
    (case n_set => k_is)
    (case n_list => k_is)
    (case n_tuple => k_is)
    (case n_dict => k_is)
    (case n_str => k_is)
    (case n_int => k_is)
    (case n_bool => k_is)
    (case n_sorted => k_is)
    (case n_iter => k_is)
    (case n_enumerate => k_is)
    (case n_abs => k_is)
    (case n_repr => k_is)
    (case n_min => k_is)
    (case n_range => k_is)

