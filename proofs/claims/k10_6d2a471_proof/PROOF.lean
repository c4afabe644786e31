import PyProof.Rows.All
import Wide.All
import OpenK.AllK
import Wide.FinOn
import PyProof.EqAt
import PyProof.EqKinds
import KE.DataEq
import KE.KExcIs
import HandS.ForMost
import HandS.Exc
import HandS.ExcOwn
import HandS.ExcInit
import HandS.ExcValue
import HandS.IsInst
import HandS.ExcField
import HandS.Codes
import PySem.Challenge.RW_heightgames_k10_errors_apart
set_option Elab.async false
set_option linter.all false
set_option maxRecDepth 100000
set_option maxHeartbeats 4000000
/-! rules of our own: o[i] += e of a list; == of lists of one content; errors as values -/
namespace HG
open PySem PySem.Spec PyProof.Rows L2

section
variable {X : Cx}
def rGetL (K : PySem.W.Frag) : V → V → Hp → VK → Prop := fun o i H Q => ∃ p xs k z, o = .ref p ∧ i = .int k ∧ SqL K H p xs ∧ 0 ≤ k ∧ atI xs k = some z ∧ Q z H
theorem get_list : PGet X (rGetL X.K) := by
  intro pins s σ H o i ov iv Q I ro ri h
  obtain ⟨p, xs, k, z, rfl, rfl, hq, h0, he, q⟩ := h
  cases ro
  obtain ⟨t, rfl⟩ := ri
  obtain ⟨its, r, pl, hz⟩ := I.list hq
  obtain ⟨j, h1, h2, h3, h4, h5⟩ := atI_get he
  obtain ⟨w, ew, rw'⟩ := r.get h2
  have hl := r.length
  have hn := line63
  have hj : k.toNat = j := by
    rw [seqIndex_of h0 h5] at h1
    exact Option.some.inj h1
  exact wpAny_getItem_list pl.isList h0 (by omega) (by rw [hj]; simpa using ew) ⟨z, H, I, rw', q⟩

/-- values that are equal whenever they are the same to us -/
def plainV : V → Bool
  | .flt _ => false
  | .byt _ => false
  | _ => true
theorem eq_of_rel {x : V} {u w : Value} {A : Around} {s : Shared} (hx : plainV x = true) (r : RelV x u) (r' : RelV x w) : SeqAt.EqAt A s u w true := by
  cases x with
  | non => cases r; cases r'; exact SeqAt.EqAt.same _
  | bl b => cases r; cases r'; exact SeqAt.EqAt.same _
  | int i =>
    obtain ⟨t, rfl⟩ := r
    obtain ⟨t', rfl⟩ := r'
    intro prog w E Q q
    exact wpAny_eqBool_int (by rw [beq_self_eq_true]; exact q)
  | str z =>
    obtain ⟨t, rfl⟩ := r
    obtain ⟨t', rfl⟩ := r'
    intro prog w E Q q
    exact wpAny_eqBool_str (by rw [decide_eq_true rfl]; exact q)
  | byt b => cases hx
  | flt b => cases hx
  | ref a => cases r; cases r'; exact SeqAt.EqAt.same _
  | ty n => cases r; cases r'; exact SeqAt.EqAt.same _
def rSame (K : PySem.W.Frag) (b : Bool) : R2 := fun x y H Q => ∃ p q xs, x = .ref p ∧ y = .ref q ∧ SqL K H p xs ∧ SqL K H q xs ∧ (∀ z ∈ xs, plainV z = true) ∧ Q (.bl b) H
theorem op_neSame (hu : X.A.units + 64 < cLine) : OpR X (compareOp .NotEq) (rSame X.K false) := by
  intro pins s σ H x y v u Q I rx ry h
  obtain ⟨p, q, xs, rfl, rfl, hp, hq, hpl, k⟩ := h
  cases rx
  cases ry
  obtain ⟨its, r, pl, hz⟩ := I.list hp
  obtain ⟨its', r', pl', hz'⟩ := I.list hq
  have l1 := r.length
  have l2 := r'.length
  have hsz : its.toArray.size = its'.toArray.size := by simp only [List.size_toArray]; omega
  have hk : (!(List.range its.toArray.size).all fun _ => true) = false := by simp
  have := SeqAt.RcNeAt.lists (A := X.A) (s := s) (e := fun _ => true) pl.isList pl'.isList hsz (by omega) (fun j h1 h2 => by
    have j1 : j < xs.length := by simpa [l1] using h1
    obtain ⟨w, ew, rw1⟩ := r.get (i := j) (List.getElem?_eq_getElem j1)
    obtain ⟨w', ew', rw2⟩ := r'.get (i := j) (List.getElem?_eq_getElem j1)
    have e1 : its.toArray[j] = w := by
      have := List.getElem?_eq_some_iff.mp ew
      obtain ⟨_, e⟩ := this
      simpa using e
    have e2 : its'.toArray[j] = w' := by
      have := List.getElem?_eq_some_iff.mp ew'
      obtain ⟨_, e⟩ := this
      simpa using e
    rw [e1, e2]
    exact eq_of_rel (hpl _ (List.getElem_mem j1)) rw1 rw2)
  rw [hk] at this
  exact this X.prog X.w _ _ ⟨.bl false, H, I, rfl, k⟩
end

/-! ### errors as values -/
section
variable {X : Cx} {pins : List (Addr × Obj)} {σ : L2.St} {H : Hp} {s : Shared}
/-- what reading an own error's fields, and isinstance of it, ask of its class -/
structure ErrC (K : PySem.W.Frag) (C : Addr) : Prop where
  xf : XfC K C
  cl : (PySem.W.clsIn K C).isSome = true
  ha : PySem.W.findIn K (.ref C) "__class__" = some (some (.builtin "object.__class__"))
  hm : PySem.W.mroIn K C (.type "object") = some true
structure GetC (K : PySem.W.Frag) : Prop where
  hn : PySem.W.specialIn K (.builtin "object.__class__") "__get__" = some (some (.builtin "getset_descriptor.__get__"))
  ht : PySem.W.takesIn K (.builtin "object.__class__") = some true

theorem exd_obj {P : Program} {w : World} {H : Hp} {h : Heap} {dx : Addr} {fs : List (Str × V)} (hok : HOk P w H h) (he : H dx = some (exd dx fs)) : ∃ od, h.get? dx = some od ∧ ∀ n v, fs.lookup n = some v → ∃ u : Value, PySem.W.lookIn n od = some (some u) ∧ L2.RelV v u := by
  obtain ⟨mA, hns, hr⟩ := exd_at hok he
  obtain ⟨od, ho, hl⟩ := lookIn_ns hns
  refine ⟨od, ho, fun n v l => ?_⟩
  obtain ⟨u, hu, ru⟩ := RelO.some_of (v := v) (o := mA n) (by rw [← l]; exact hr n)
  exact ⟨u, by rw [hl n, hu], ru⟩

/-- e.f, e an own error that is tracked -/
def tErrF (K : PySem.W.Frag) (f : Str) (te : TE) : TE := fun σ H Q => te σ H fun x H1 => ∃ (a C dx : Addr) (fs : List (Str × V)) (v : V), x = .ref a ∧ H1 a = some (exo a C (some dx)) ∧ H1 dx = some (exd dx fs) ∧ XfC K C ∧ PySem.W.findIn K (.ref C) f = some none ∧ fs.lookup f = some v ∧ Q v H1
theorem pe_errF {e : Expr} {te : TE} {pos : Pos} {n : Str} (he : PE X e te) (hb : attributeBase e n X.env (eval e X.env) = eval e X.env := by rfl) : PE X (.Attribute e n pos) (tErrF X.K n te) := by
  refine ⟨fun pins s σ H Q I h => ?_⟩
  refine attr_of hb (thn (he.run pins s σ H _ I h) fun u s1 hh => ?_)
  obtain ⟨x, H1, I1, rx, a, C, dx, fs, v, ex, ea, ed, T, hno, l, q⟩ := hh
  subst ex
  obtain rfl : u = Value.ref a := rx
  obtain ⟨t1, ho⟩ := exo_at I1.hok ea
  obtain ⟨od, hod, hl⟩ := exd_obj I1.hok ed
  obtain ⟨u, hu, ru⟩ := hl n v l
  have J : PySem.W.InstAt s1.heap a { cls := .ref C, dict := some dx, data := .fields #[.ref t1, .none, .none, .none, .bool false, .none] } C (some od) := ⟨ho, rfl, rfl, hod⟩
  exact HandSPX.exc_get I1.kIn J T.ga T.gg T.exC (PySem.W.findObj_own T.hdC hno rfl (by rw [hu])) (handed_of ru) ⟨v, H1, I1.tok _, ru, q⟩

/-- isinstance(e, c), e an own error that is tracked -/
def rIsErr (K : PySem.W.Frag) : List V → Hp → VK → Prop := fun xs H Q => ∃ (a C : Addr) (d : Option Addr) (c : V) (cv : Value) (b : Bool), xs = [.ref a, c] ∧ ClsV c cv ∧ H a = some (exo a C d) ∧ (∀ dx, d = some dx → ∃ fs, H dx = some (exd dx fs)) ∧ ErrC K C ∧ GetC K ∧ PySem.W.kitOne K (.ref C) cv = some b ∧ Q (.bl b) H
theorem call_isErr : CallR X (.builtin "isinstance") (rIsErr X.K) := by
  intro pins s σ H xs us Q I r h
  obtain ⟨a, C, d, c, cv, b, rfl, k, ea, hd, T, G, e, q⟩ := h
  obtain ⟨u1, u2, rfl, r1, r2⟩ := vals2 r
  have e2 := k.eq r2
  subst e2
  obtain rfl : u1 = Value.ref a := r1
  obtain ⟨t1, ho⟩ := exo_at I.hok ea
  have J : ∃ od, PySem.W.InstAt s.heap a { cls := .ref C, dict := d, data := .fields #[.ref t1, .none, .none, .none, .bool false, .none] } C od := by
    cases d with
    | none => exact ⟨none, ho, rfl, rfl, trivial⟩
    | some dx =>
      obtain ⟨fs, ed⟩ := hd dx rfl
      obtain ⟨od, hod, _⟩ := exd_obj I.hok ed
      exact ⟨some od, ho, rfl, rfl, hod⟩
  obtain ⟨od, J⟩ := J
  exact PySem.W.kia_one (PySem.W.kitx_exc T.cl T.xf.ga T.xf.gg T.xf.exC T.ha G.hn G.ht T.hm) I.kIn J e (fun z => nomatch z) fun tk => ⟨.bl b, H, I.tok tk, rfl, q⟩

/-- X(), an own error without own __init__ -/
theorem pe_err0 {C : Addr} {bmB : List Value} {B newId initId : String} {x : Str} {p pos : Pos} (F : ExcBaseFacts B newId initId bmB) (q : PySem.W.excIn X.K C bmB newId = true) (gC : X.mg x = some (.ref C)) (kC : PySem.W.keepIn X.K (.ref C) = true) (hg : Gl X x)
    (hdb : (x == ("__debug__" : Str)) = false := by decide) :
    PE X (.Call (.Name x p) [] [] pos) (fun σ H Q => ∀ a, H a = none → Q (.ref a) (upd H a (exo a C none))) := by
  refine ⟨fun pins s σ H Q I h => ?_⟩
  refine wpAny_Call_Name_kw (ld_glob I hg gC ?_ hdb)
  refine PySem.W.callWith_K0 I.kIn kC ?_
  obtain ⟨bm, N, nm, qn, bs, hdct, sn, sub, ab, col, dd, k0, k1, k2, k3, k5, mN, hC, hN, hni, T⟩ := exc_obj I.kIn q
  refine wpAny_call_exc_subT F T hC hN hni (fun h' a hm => ?_) (by show 0 ≤ sizeLine; omega)
  have hn : H a = none := I.hok.gone hm.new
  obtain ⟨t, ht, _, _⟩ := hm.there
  exact ⟨.ref a, upd H a (exo a C none), I.laidN hm.keeps hm.new hn (exo_ok ht), rfl, h a hn⟩

/-- X(e, ..), an own error with its own __init__, as a value -/
def tErrN (C : Addr) (sp : Sp) (ta : TA) : TE := fun σ H Q => ta σ H fun vs H1 => vs.length ≤ 1000 ∧ ∀ a, H1 a = none → sp (.ref a :: vs) (upd H1 a (exo a C none)) (fun v H2 => v = .non ∧ Q (.ref a) H2) (fun _ _ _ => False)
theorem pe_errN {CX : CXT} {x : Str} {C fI : Addr} {k : Nat} {fd : FuncData} {ps : List Str} {sp : Sp} {e : Expr} {es : List Expr} {ta : TA} {p pos : Pos} (T : OexC X.K C) (iC : PySem.W.findIn X.K (.ref C) "__init__" = some (some (.ref fI))) (tI : PySem.W.typeIn X.K (.ref fI) = some (.type "function"))
    (F1 : FnOk X.prog X.w X.K X.mg X.base CX k fI fd ps sp) (hr : Room (k + 1) X.A) (hb : Binds X.K fd ps []) (hx : Passes CX X (fun _ _ _ => False)) (hm : X.mg x = some (.ref C)) (hg : Gl X x) (ha : PA X (e :: es) ta)
    (hdb : (x == ("__debug__" : Str)) = false := by decide) (he : starEach (e :: es) X.env = (false, eval e X.env) :: starEach es X.env := by rfl) (hpl : (backTo pos (starEach es X.env)).any (·.1) = false := by rfl) :
    PE X (.Call (.Name x p) (e :: es) [] pos) (tErrN C sp ta) := by
  refine ⟨fun pins s σ H Q I h => ?_⟩
  obtain ⟨nm, q, N, bs, bm, sn, sub, ab, col, dd, k0, k1, k2, k3, k5, hC, hbm⟩ := T.cls
  refine wpAny_Call_Name_kw (ld_glob I hg hm ?_ hdb)
  refine PySem.W.callWith_K (h₀ := X.base) I.ok.mod.kin T.kC (thn (ha.run pos pins s σ H _ I h) fun us s1 ⟨vs, H1, I1, r1, hz, q1⟩ => ⟨I1.kIn, ?_⟩) he hpl
  show wpAny _ _ (call (.ref C) us) _ _ _
  obtain ⟨hp, g, dr, tk, os⟩ := s1
  have hsz : hp.objs.size ≤ hp.objs.size + 1 := Nat.le_succ _
  have hn : H1 (hp.objs.size + 1) = none := I1.hok.fresh hsz
  have hq := q1 (hp.objs.size + 1) hn
  have kk : ∀ b o, hp.get? b = some o → ((hp.push (PySem.W.kdv_tup us)).push (PySem.HandSPX.excO C hp.objs.size)).get? b = some o := fun b o e => Heap.get?_push_of_some _ (Heap.get?_push_of_some _ e)
  have hget : ((hp.push (PySem.W.kdv_tup us)).push (PySem.HandSPX.excO C hp.objs.size)).get? (hp.objs.size + 1) = some (PySem.HandSPX.excO C hp.objs.size) := by heap_get
  have I2 : Inv X pins σ (upd H1 (hp.objs.size + 1) (exo (hp.objs.size + 1) C none)) ⟨(hp.push (PySem.W.kdv_tup us)).push (PySem.HandSPX.excO C hp.objs.size), g, dr, tk, os⟩ :=
    I1.laid (t' := tk) (a := hp.objs.size + 1) (o := exo (hp.objs.size + 1) C none) (h' := (hp.push (PySem.W.kdv_tup us)).push (PySem.HandSPX.excO C hp.objs.size)) kk hsz (exo_ok hget)
  have r2 : Vals (V.ref (hp.objs.size + 1) :: vs) (Value.ref (hp.objs.size + 1) :: us) := .cons rfl r1
  have hl : (Value.ref (hp.objs.size + 1) :: us).length = ps.length := by
    have e := r2.length
    rw [F1.len _ _ _ _ hq] at e
    exact e.symm
  have hus : us.length ≤ sizeLine := by
    rw [← Paired.length r1, sizeLine_eq]
    omega
  have hB := hb _ (Value.ref (hp.objs.size + 1) :: us) I2.kIn (by simpa using hl)
  rw [List.append_nil] at hB
  refine wpAny_call (PySem.HandSPX.call_own F.excBase_ValueError (fun Y => PySem.HandSPX.refsVE_contains Y bm hbm) (I1.kIn _ _ hC) (PySem.W.looks_findIn I1.kIn iC) (fun self => PySem.W.bind_fn I1.kIn self tI) hus
    (codeAny_mono (F1.run _ X.stack _ _ ⟨Value.ref (hp.objs.size + 1) :: us, []⟩ (Value.ref (hp.objs.size + 1) :: us) _ _ (fun _ _ _ => False) (hr.make C us []) (I2.env0.make C us []) hB r2 hq) fun r s' hq' => ?_))
  cases r with
  | error er => exact hx pins σ _ _ er s' I2 hq'
  | ok fl =>
    cases fl with
    | ret u =>
      obtain ⟨v, H2, os2, bare2, un2, hok2, rv, ev, q2⟩ := hq'
      subst ev
      exact ⟨rv, .ref (hp.objs.size + 1), H2, I2.call' (ch := []) os2 un2 hok2 bare2 (fun b z => absurd z (by simp)), rfl, q2⟩
    | next => exact False.elim hq'
    | brk => exact False.elim hq'
    | cont => exact False.elim hq'
end
end HG


namespace HG
open PySem PySem.Spec PyProof.Rows L2
open C8 (pss_cut tCut)
/-! ### the text -/
def topS (i : Nat) : Stmt := PySem.Challenge.pw_heightgames_k10_errors_apart.main.body.getD i (.Pass ⟨0, 0, 0, 0⟩)
abbrev sBag : Stmt := topS 25
abbrev sTake : Stmt := topS 26
abbrev sOne : Stmt := topS 27
abbrev sValue : Stmt := topS 28
abbrev sErrors : Stmt := topS 29
abbrev sFlags : Stmt := topS 30
abbrev sFields : Stmt := topS 31
abbrev sLaw : Stmt := topS 32

/-! ### the bag of the law: [0, seed, place, cells] -/
def But (b : Addr) (H H' : Hp) : Prop := ∀ q o, H q = some o → q ≠ b → H' q = some o
theorem But.of {b : Addr} {H H' : Hp} (h : Same H H') : But b H H' := fun q o e _ => h q o e
theorem But.trans {b : Addr} {H H1 H2 : Hp} (h : But b H H1) (h' : But b H1 H2) : But b H H2 := fun q o e n => h' q o (h q o e n) n
theorem But.upd {b : Addr} {H H' : Hp} {o : HO} (h : But b H H') : But b H (upd H' b o) := fun q u e n => by
  rw [upd_ne n]
  exact h q u e n
theorem same_upd {H : Hp} {p : Addr} {o : HO} (h : H p = none) : Same H (upd H p o) := fun b x e => by
  rw [upd_ne (ne_of_none e h)]
  exact e
structure Bag (H : Hp) (b k : Addr) (ns : List Int) (a c n : Int) : Prop where
  at_ : H b = some (.lst [.int a, .int c, .int n, .ref k])
  cells : H k = some (.lst (ns.map V.int))
  n0 : 0 ≤ n
  c0 : 0 ≤ c
  c1 : c < 2147483647
theorem Bag.ne {H : Hp} {b k : Addr} {ns : List Int} {a c n : Int} (B : Bag H b k ns a c n) : k ≠ b := by
  refine ne_of B.cells B.at_ fun z => ?_
  have z1 : ns.map V.int = [.int a, .int c, .int n, .ref k] := by
    have := congrArg (fun o => match o with | HO.lst xs => xs | _ => []) z
    exact this
  have z2 := congrArg (fun l : List V => l[3]?) z1
  rw [List.getElem?_map] at z2
  cases e : ns[3]? with
  | none =>
    rw [e] at z2
    cases z2
  | some y =>
    rw [e] at z2
    cases z2
theorem Bag.same {H H' : Hp} {b k : Addr} {ns : List Int} {a c n : Int} (B : Bag H b k ns a c n) (s : Same H H') : Bag H' b k ns a c n := ⟨s _ _ B.at_, s _ _ B.cells, B.n0, B.c0, B.c1⟩
/-- the bag is written anew -/
theorem Bag.put {H : Hp} {b k : Addr} {ns : List Int} {a c n a' c' n' : Int} (B : Bag H b k ns a c n) (hn : 0 ≤ n') (hc : 0 ≤ c') (hc' : c' < 2147483647) : Bag (upd H b (.lst [.int a', .int c', .int n', .ref k])) b k ns a' c' n' :=
  ⟨upd_same, by rw [upd_ne B.ne]; exact B.cells, hn, hc, hc'⟩
def ABag (H : Hp) (b k : Addr) (ns : List Int) : Prop := ∃ a c n, Bag H b k ns a c n
theorem ABag.same {H H' : Hp} {b k : Addr} {ns : List Int} (B : ABag H b k ns) (s : Same H H') : ABag H' b k ns := let ⟨a, c, n, B⟩ := B; ⟨a, c, n, B.same s⟩

def spBag (K : PySem.W.Frag) : Sp := fun vs H Q _ => ∃ (a : Addr) (ns : List Int), vs = [.ref a] ∧ SqL K H a (ns.map V.int) ∧ ns.length ≤ 1000 ∧
  ∀ H' b k ns', Same H H' → ABag H' b k ns' → H b = none → H k = none → Q (.ref b) H'
def spTake : Sp := fun vs H Q _ => ∃ (b k : Addr) (ns : List Int) (m : Int), vs = [.ref b, .int m] ∧ ABag H b k ns ∧ 0 < m ∧ m < 1073741824 ∧
  ∀ H' d, But b H H' → ABag H' b k ns → 0 ≤ d → d < m → Q (.int d) H'
def spOne (K : PySem.W.Frag) : Sp := fun vs H Q _ => ∃ (b k p : Addr) (ns : List Int) (xs : List V), vs = [.ref b, .ref p] ∧ ABag H b k ns ∧ SqL K H p xs ∧ p ≠ b ∧ xs ≠ [] ∧ xs.length < 1000 ∧
  ∀ H' x, But b H H' → ABag H' b k ns → x ∈ xs → Q x H'

theorem scBag : FnScope ["_law_script", "_law_cell"] ["_law_script"] (defScope sBag) := ⟨rfl, rfl, rfl, by decide +kernel, rfl, by decide +kernel, by decide +kernel⟩
theorem scTake : FnScope ["_law_bag_here", "_law_many", "_law_cell", "_law_mixed", "_law_drawn", "_law_early", "_law_second"] ["_law_bag_here", "_law_many"] (defScope sTake) := ⟨rfl, rfl, rfl, by decide +kernel, rfl, by decide +kernel, by decide +kernel⟩
theorem scOne : FnScope ["_law_bag_here", "_law_some"] ["_law_bag_here", "_law_some"] (defScope sOne) := ⟨rfl, rfl, rfl, by decide +kernel, rfl, by decide +kernel, by decide +kernel⟩
section
variable {P : Program} {w : World} {K : PySem.W.Frag} {mg : Str → Option Value} {base : Heap}
theorem but_seq {K : PySem.W.Frag} {b a : Addr} {H H' : Hp} {xs : List V} (e : But b H H') (h : SqL K H a xs) (n : a ≠ b) : SqL K H' a xs := by
  rcases h with (h | ⟨o, h⟩) | h
  · exact .inl (.inl (e _ _ h n))
  · exact .inl (.inr ⟨o, e _ _ h n⟩)
  · exact .inr h
theorem ok_take {f : Addr} {fd : FuncData} (F : Fun K "_law_take" "_law_take" sTake f fd) (ml : mg "len" = none) (mi : mg "int" = none) : FnOk P w K mg base CX0 1 f fd ["_law_bag_here", "_law_many"] spTake := by
  refine F.ok scTake (fun vs H Q E h => ?_) (fun cdv A outer s H vs Q E hr h => ?_)
  · obtain ⟨b, k, ns, m, rfl, _⟩ := h
    rfl
  · obtain ⟨b, k, ns, m, rfl, B0, hm0, hm1, q⟩ := h
    obtain ⟨a, c, n, B⟩ := B0
    have nd := scTake.nd
    refine ⟨_, pss_cut (ps_if (pt_cmpR op_eq (pe_ix ix_list (pv 0) pe_int (fun _ _ => rfl)) pe_int (nomark _))
        (pss_cons (ps_set (i := 2) nd rfl (Or.inl rfl) pe_int)
        (pss_cut (ps_if (pt_cmpR op_lt (pe_ix ix_list (pv 0) pe_int (fun _ _ => rfl)) (pe_callB call_len_seq (by rfl) ml PySem.boot_len (pa_cons (pe_ix ix_list (pv 0) pe_int (fun _ _ => rfl)) pa_nil)) (nomark _))
          (pss_one (ps_set (i := 2) nd rfl (Or.inl rfl) (pe_ix ix_list (pe_ix ix_list (pv 0) pe_int (fun _ _ => rfl)) (pe_ix ix_list (pv 0) pe_int (fun _ _ => rfl)) (fun _ _ => rfl)))) pss_nil)
        (pss_cons (ps_augS (pv 0) pe_int get_list pe_int ip_add set_list)
        (pss_cut (ps_if (pt_cmpR op_ge (pv 2) pe_int (nomark _)) (pss_one (ps_asg (pv 2) (pg_sub (pv 0) pe_int set_list))) pss_nil)
        (pss_cons (ps_set (i := 3) nd rfl (Or.inl rfl) (pe_op op_add (pe_op op_add (pe_op op_mul (pe_ix ix_list (pv 0) pe_int (fun _ _ => rfl)) pe_int) (pe_op op_mod (pe_callTy call_int1 (by rfl) mi (by decide +kernel) (pa_cons (pv 2) pa_nil)) pe_int)) (pe_op op_mul pe_int (pe_ix ix_list (pv 0) pe_int (fun _ _ => rfl)))))
        (pss_one (ps_asg (pe_op op_mod (pe_callTy call_int1 (by rfl) mi (by decide +kernel) (pa_cons (pv 3) pa_nil)) pe_int) (pg_sub (pv 0) pe_int set_list))))))))
        pss_nil)
      (pss_cons (ps_if (pt_cmpR op_gt (pe_ix ix_list (pv 0) pe_int (fun _ _ => rfl)) pe_int (nomark _))
        (pss_cons (ps_set (i := 4) nd rfl (Or.inl rfl) (pe_op op_mod (pe_callTy call_int1 (by rfl) mi (by decide +kernel) (pa_cons (pe_ix ix_list (pv 0) pe_int (fun _ _ => rfl)) pa_nil)) (pv 1)))
        (pss_cons (ps_asg (pe_op op_fdiv (pe_callTy call_int1 (by rfl) mi (by decide +kernel) (pa_cons (pe_ix ix_list (pv 0) pe_int (fun _ _ => rfl)) pa_nil)) (pv 1)) (pg_sub (pv 0) pe_int set_list))
        (pss_one (ps_ret (pv 4))))) pss_nil)
      (pss_cons (ps_set (i := 5) nd rfl (Or.inl rfl) (pe_op op_mod (pe_callTy call_int1 (by rfl) mi (by decide +kernel) (pa_cons (pe_op op_mul (pe_op op_add (pe_ix ix_list (pv 0) pe_int (fun _ _ => rfl)) pe_int) pe_int) pa_nil)) pe_int))
      (pss_cons (ps_set (i := 6) nd rfl (Or.inl rfl) (pe_op op_mod (pe_callTy call_int1 (by rfl) mi (by decide +kernel) (pa_cons (pe_op op_mul (pe_op op_mod (pe_callTy call_int1 (by rfl) mi (by decide +kernel) (pa_cons (pe_op op_mul (pv 5) (pv 5)) pa_nil)) pe_int) pe_int) pa_nil)) pe_int))
      (pss_one (ps_ret (pe_op op_mod (pe_callTy call_int1 (by rfl) mi (by decide +kernel) (pa_cons (pe_op op_fdiv (pv 6) pe_int) pa_nil)) (pv 1))))))), ?_⟩
    -- behind the first if
    refine ⟨fun σ' H' => ∃ c2 mx a' c' n', σ' = [some (.ref b), some (.int m), c2, mx, none, none, none] ∧ But b H H' ∧ Bag H' b k ns a' c' n', ?_, ?_⟩
    · refine ⟨_, rfl, b, _, _, _, rfl, rfl, SqL.of B.at_, at_of (j := 0) rfl rfl, rfl, _, rfl, ite2 (fun _ => ?_) (fun _ => ?_)⟩
      · refine ⟨fun σ' H' => ∃ z : Int, σ' = [some (.ref b), some (.int m), some (.int z), none, none, none, none] ∧ H' = H, ?_, ?_⟩
        · refine ⟨_, rfl, b, _, _, _, rfl, rfl, SqL.of B.at_, at_of (j := 2) rfl rfl, _, rfl, b, _, _, _, rfl, rfl, SqL.of B.at_, at_of (j := 3) rfl rfl, k, _, rfl, .inl (SqL.of B.cells), _, _, rfl, rfl, _, rfl, ite2 (fun hlt => ?_) (fun _ => ⟨0, rfl, rfl⟩)⟩
          have hlt' := of_decide_eq_true hlt
          rw [List.length_map] at hlt'
          have n0 := B.n0
          have hj : n.toNat < ns.length := by omega
          refine ⟨_, rfl, b, _, _, _, rfl, rfl, SqL.of B.at_, at_of (j := 3) rfl rfl, _, rfl, b, _, _, _, rfl, rfl, SqL.of B.at_, at_of (j := 2) rfl rfl, k, _, _, .int ns[n.toNat], rfl, rfl, SqL.of B.cells, at_of (j := n.toNat) (by omega) (by rw [List.getElem?_map, List.getElem?_eq_getElem hj]; rfl), ns[n.toNat], rfl, rfl⟩
        · rintro σ' H' ⟨z, rfl, rfl⟩
          -- bag[2] += 1
          refine ⟨_, rfl, b, _, _, _, rfl, rfl, SqL.of B.at_, by decide, at_of (j := 2) rfl rfl, _, _, rfl, rfl, b, _, _, 2, rfl, rfl, B.at_, rfl, ?_⟩
          have n0 := B.n0
          have B2 : Bag (upd H' b (.lst [.int a, .int c, .int (n + 1), .ref k])) b k ns a c (n + 1) := B.put (by omega) B.c0 B.c1
          have k2 : But b H' (upd H' b (.lst [.int a, .int c, .int (n + 1), .ref k])) := But.upd (But.of (Same.refl _))
          -- if cell >= ..: bag[0] = cell
          refine ⟨fun σ' H2 => ∃ a2, σ' = [some (.ref b), some (.int m), some (.int z), none, none, none, none] ∧ But b H' H2 ∧ Bag H2 b k ns a2 c (n + 1), ?_, ?_⟩
          · refine ⟨_, rfl, _, _, rfl, rfl, _, rfl, ite2 (fun _ => ?_) (fun _ => ⟨a, rfl, k2, B2⟩)⟩
            refine ⟨_, rfl, _, rfl, b, _, _, 0, rfl, rfl, B2.at_, rfl, z, rfl, But.upd k2, B2.put B2.n0 B2.c0 B2.c1⟩
          · rintro σ' H2 ⟨a2, rfl, k3, B3⟩
            have c0 := B3.c0
            have c1 := B3.c1
            refine ⟨_, rfl, b, _, _, _, rfl, rfl, SqL.of B3.at_, at_of (j := 1) rfl rfl, _, _, rfl, rfl, .inr ⟨by decide, by decide⟩, _, rfl, .inl ⟨_, rfl, _, _, rfl, rfl, (by show (0 : Int) < 2147483647; decide), _, _, rfl, rfl, _, rfl, b, _, _, _, rfl, rfl, SqL.of B3.at_, at_of (j := 2) rfl rfl, _, _, rfl, rfl, .inl ⟨by decide, by decide⟩, _, _, rfl, rfl, ?_⟩⟩
            refine ⟨_, rfl, .inl ⟨_, rfl, _, _, rfl, rfl, (by show (0 : Int) < 2147483647; decide), _, rfl, b, _, _, 1, rfl, rfl, B3.at_, rfl, ?_⟩⟩
            exact ⟨_, _, a2, _, _, rfl, But.upd k3, B3.put B3.n0 (Int.emod_nonneg _ (by decide)) (Int.emod_lt_of_pos _ (by decide))⟩
      · exact ⟨none, none, a, c, n, rfl, But.of (Same.refl _), B⟩
    · rintro σ' H' ⟨c2, mx, a', c', n', rfl, kb, B'⟩
      have c0 := B'.c0
      have c1 := B'.c1
      have n0 := B'.n0
      refine ⟨_, rfl, b, _, _, _, rfl, rfl, SqL.of B'.at_, at_of (j := 0) rfl rfl, _, _, rfl, rfl, _, rfl, ite2 (fun _ => ?_) (fun _ => ?_)⟩
      · refine ⟨_, rfl, b, _, _, _, rfl, rfl, SqL.of B'.at_, at_of (j := 0) rfl rfl, .inl ⟨_, rfl, _, rfl, _, _, rfl, rfl, hm0, ?_⟩⟩
        refine ⟨_, rfl, b, _, _, _, rfl, rfl, SqL.of B'.at_, at_of (j := 0) rfl rfl, .inl ⟨_, rfl, _, rfl, _, _, rfl, rfl, ⟨hm0, hm1⟩, _, rfl, b, _, _, 0, rfl, rfl, B'.at_, rfl, ?_⟩⟩
        refine ⟨_, rfl, q _ _ (But.upd kb) ⟨_, _, _, B'.put n0 c0 c1⟩ (Int.emod_nonneg _ (by omega)) (Int.emod_lt_of_pos _ hm0)⟩
      · refine ⟨_, rfl, b, _, _, _, rfl, rfl, SqL.of B'.at_, at_of (j := 1) rfl rfl, _, _, rfl, rfl, _, _, rfl, rfl, .inr ⟨by decide, by decide⟩, .inl ⟨_, rfl, _, _, rfl, rfl, (by show (0 : Int) < 1000000007; decide), ?_⟩⟩
        have e0 : 0 ≤ ((c' + 1) * 39373) % 1000000007 := Int.emod_nonneg _ (by decide)
        have e1 : ((c' + 1) * 39373) % 1000000007 < 1000000007 := Int.emod_lt_of_pos _ (by decide)
        refine ⟨_, rfl, _, rfl, _, _, rfl, rfl, .inl ⟨by omega, by omega⟩, .inl ⟨_, rfl, _, _, rfl, rfl, (by show (0 : Int) < 998244353; decide), _, _, rfl, rfl, .inr ⟨by decide, by decide⟩, .inl ⟨_, rfl, _, _, rfl, rfl, (by show (0 : Int) < 998244353; decide), ?_⟩⟩⟩
        refine ⟨_, rfl, _, _, rfl, rfl, ⟨by decide, by decide⟩, .inl ⟨_, rfl, _, rfl, _, _, rfl, rfl, hm0, ?_⟩⟩
        exact q _ _ kb ⟨_, _, _, B'⟩ (Int.emod_nonneg _ (by omega)) (Int.emod_lt_of_pos _ hm0)
theorem ok_one {f ft : Addr} {fd fdt : FuncData} (F : Fun K "_law_one" "_law_one" sOne f fd) (FT : Fun K "_law_take" "_law_take" sTake ft fdt) (bT : Binds K fdt ["_law_bag_here", "_law_many"] []) (gT : mg "_law_take" = some (.ref ft))
    (ml : mg "len" = none) (mi : mg "int" = none) : FnOk P w K mg base CX0 2 f fd ["_law_bag_here", "_law_some"] (spOne K) := by
  refine F.ok scOne (fun vs H Q E h => ?_) (fun cdv A outer s H vs Q E hr h => ?_)
  · obtain ⟨b, k, p, ns, xs, rfl, _⟩ := h
    rfl
  · obtain ⟨b, k, p, ns, xs, rfl, B, hs, hpb, h0, hl, q⟩ := h
    refine ⟨_, pss_one (ps_ret (pe_ix ix_list (pv 1) (pe_call (ok_take FT ml mi) hr (by rfl) gT FT.kp bT .nil pass0 (pa_cons (pv 0) (pa_cons (pe_callB call_len_seq (by rfl) ml PySem.boot_len (pa_cons (pv 1) pa_nil)) pa_nil))) (fun _ _ => rfl))), ?_⟩
    have hlen : 0 < xs.length := List.length_pos_iff.mpr h0
    refine ⟨_, rfl, _, rfl, _, rfl, p, xs, rfl, .inl hs, b, k, ns, _, rfl, B, (by omega), (by omega), fun H' d kb B' d0 d1 => ?_⟩
    have hj : d.toNat < xs.length := by omega
    exact ⟨p, xs, d, xs[d.toNat], rfl, rfl, but_seq kb hs hpb, at_of (j := d.toNat) (by omega) (List.getElem?_eq_getElem hj), q _ _ kb B' (List.getElem_mem hj)⟩
theorem cut63 (xs : List V) : (cutV xs none (some 63)).length ≤ xs.length := cutV_length xs _ _
theorem cut_ints (ns : List Int) (lo hi : Option Int) : ∃ ms : List Int, cutV (ns.map V.int) lo hi = ms.map V.int ∧ ms.length ≤ ns.length := by
  unfold cutV
  refine ⟨(ns.drop _).take _, by rw [← List.map_drop, ← List.map_take], ?_⟩
  rw [List.length_take, List.length_drop]
  omega
theorem ok_bag {f : Addr} {fd : FuncData} (F : Fun K "_law_bag" "_law_bag" sBag f fd) (ma : mg "abs" = none) : FnOk P w K mg base CX0 1 f fd ["_law_script"] (spBag K) := by
  refine F.ok scBag (fun vs H Q E h => ?_) (fun cdv A outer s H vs Q E hr h => ?_)
  · obtain ⟨a, ns, rfl, _⟩ := h
    rfl
  · obtain ⟨a, ns, rfl, hS, hl, q⟩ := h
    have nd := scBag.nd
    refine ⟨_, pss_one (ps_ret (pe_lst (pa_cons pe_int (pa_cons pe_int (pa_cons pe_int (pa_cons
      (pe_lc (own := [("_law_cell", 1)]) (g := gName 1) (tt := tYes) rfl nd (pi_list (pe_slice sl_list (pv 0) po_none (po_some pe_int))) (blkOk_by (N := ["_law_script", "_law_cell"]) (sc := defScope sBag) (by decide +kernel)) (fun _ _ _ _ _ => pg_name (i := 1) nd rfl (Or.inl rfl)) (fun _ _ _ _ _ => pts_nil)
        (fun _ _ _ _ _ => pe_callB call_abs (by rfl) ma (by decide +kernel) (pa_cons (pv 1) pa_nil))) pa_nil)))))), ?_⟩
    obtain ⟨ms, em, hml⟩ := cut_ints ns none (some 63)
    refine ⟨_, rfl, 63, rfl, a, _, rfl, hS, fun p hp => ?_⟩
    rw [em]
    refine ⟨p, rfl, ⟨_, SqL.of upd_same⟩, fun D hD => ?_⟩
    refine lc_list (K := K) (a := p) (xs := ms.map V.int) (fun i H' => ∃ zs : List Int, H' D = some (.lst (zs.map V.int)) ∧ zs.length = i ∧ (∀ r o, (upd H p (.lst (ms.map V.int))) r = some o → H' r = some o)) ⟨[], upd_same, rfl, same_upd hD⟩
      (fun i H' _ ⟨zs, _, _, sm⟩ => SqL.of (sm _ _ upd_same)) ?_ ?_
    · rintro i x H' hi ⟨zs, hz, hzl, sm⟩
      obtain ⟨y, rfl⟩ : ∃ y, x = V.int y := by
        rw [List.getElem?_map] at hi
        cases e : ms[i]? with
        | none =>
          rw [e] at hi
          cases hi
        | some z =>
          rw [e] at hi
          exact ⟨z, (Option.some.inj hi).symm⟩
      have hil : i < ms.length := by
        have := (List.getElem?_eq_some_iff.mp hi).1
        rwa [List.length_map] at this
      refine ⟨rfl, _, rfl, y, rfl, _, hz, small1000 (by rw [List.length_map]; omega), zs ++ [if y < 0 then -y else y], by rw [upd_same, List.map_append]; rfl, by rw [List.length_append, hzl]; rfl, fun r o e => ?_⟩
      rw [upd_ne (ne_of_none e hD)]
      exact sm _ _ e
    · rintro H' ⟨zs, hz, hzl, sm⟩
      refine ⟨(by show 4 ≤ sizeLine; decide), fun b hb => ?_⟩
      have sH : Same H H' := fun r o e => sm r o (same_upd hp r o e)
      have nDb : D ≠ b := ne_of_none hz hb
      refine q _ b D zs (sH.trans (same_upd hb)) ⟨0, 1234567891, 0, upd_same, by rw [upd_ne nDb]; exact hz, by decide, by decide, by decide⟩ (sH.free hb) (Same.free (same_upd hp) hD)
end

end HG

namespace HG
open PySem PySem.Spec PyProof.Rows L2
open C8 (pss_cut tCut)

/-! ### loops over enumerate -/
theorem for_enum {K : PySem.W.Frag} {a : Addr} {xs : List V} {g : TG} {tb : TS} {D : Ends} {σ : L2.St} {H : Hp} (Pv : Nat → L2.St → Hp → Prop) (h0 : Pv 0 σ H) (hq : ∀ i σ H, Pv i σ H → SqL K H a xs)
    (hs : ∀ (i : Nat) (x : V) (T : Addr) (σ : L2.St) (H : Hp), xs[i]? = some x → Pv i σ H → H T = none → g (.ref T) σ (upd H T (.tup [.int (i : Nat), x])) fun σ2 H2 => tb { D with nx := Pv (i + 1), ct := Pv (i + 1), bk := D.nx } σ2 H2) (hd : ∀ σ H, Pv xs.length σ H → D.nx σ H) :
    ∃ W : Nat → Nat → L2.St → Hp → Prop, (∃ m, W 0 m σ H) ∧ ∀ i m σ H, W i m σ H →
      ((Ite K a).stop i H ∧ D.nx σ H) ∨ ((Ite K a).go i H ∧ ∃ N : L2.St → Hp → Prop, (∀ σ' H', N σ' H' → ∃ m', m' < m ∧ W (i + 1) m' σ' H') ∧ ∀ v H', (Ite K a).yld i H v H' → g v σ H' fun σ2 H2 => tb { D with nx := N, ct := N, bk := D.nx } σ2 H2) := by
  refine ⟨fun i m σ H => m = xs.length - i ∧ i ≤ xs.length ∧ Pv i σ H, ⟨xs.length, rfl, Nat.zero_le _, h0⟩, ?_⟩
  rintro i m σ H ⟨rfl, hi, p⟩
  have qx := hq i σ H p
  by_cases hlt : i < xs.length
  · refine .inr ⟨⟨xs, xs[i], qx, List.getElem?_eq_getElem hlt⟩, Pv (i + 1), fun σ' H' p' => ⟨xs.length - (i + 1), by omega, rfl, hlt, p'⟩, fun v H' y => ?_⟩
    obtain ⟨T, x', rfl, hT, rfl, f1⟩ := y
    exact hs i x' T σ H (f1 xs qx) p hT
  · have e : i = xs.length := by omega
    subst e
    exact .inl ⟨⟨xs, qx, Nat.le_refl _⟩, hd σ H p⟩
/-! ### the errors -/
def spErr (C : Addr) (f : Str) : Sp := fun vs H Q _ => ∃ (a : Addr) (v : V), vs = [.ref a, v] ∧ H a = some (exo a C none) ∧ ∀ dx, H dx = none → dx ≠ a → Q .non (upd (upd H dx (exd dx [(f, v)])) a (exo a C (some dx)))
theorem mk_read {C : Addr} {f : Str} {v : V} {H : Hp} {Q : VK} (h : ∀ (H' : Hp) (a dx : Addr), Same H H' → H' a = some (exo a C (some dx)) → H' dx = some (exd dx [(f, v)]) → Q (.ref a) H') :
    [v].length ≤ 1000 ∧ ∀ a, H a = none → spErr C f (.ref a :: [v]) (upd H a (exo a C none)) (fun z H2 => z = .non ∧ Q (.ref a) H2) (fun _ _ _ => False) := by
  refine ⟨by show 1 ≤ 1000; decide, fun a na => ⟨a, v, rfl, upd_same, fun dx nd ne => ⟨rfl, h _ a dx (fun b o e => ?_) upd_same ?_⟩⟩⟩
  · have nb : b ≠ a := ne_of_none e na
    have e2 : (upd H a (exo a C none)) b = some o := by rw [upd_ne nb]; exact e
    rw [upd_ne nb, upd_ne (ne_of_none e2 nd)]
    exact e2
  · rw [upd_ne ne, upd_same]
/-- X(x), x the name in slot 0 -/
def tErrM (C : Addr) (f : Str) : TE := fun σ H Q => ∃ v, σ[0]? = some (some v) ∧ ∀ (H' : Hp) (a dx : Addr), Same H H' → H' a = some (exo a C (some dx)) → H' dx = some (exd dx [(f, v)]) → Q (.ref a) H'
theorem pe_errM {X : Cx} {C : Addr} {f : Str} {e : Expr} (h : PE X e (tErrN C (spErr C f) (tCons (tVar 0) tNil))) : PE X e (tErrM C f) :=
  ⟨fun pins s σ H Q I ⟨v, e, k⟩ => h.run pins s σ H Q I ⟨v, e, mk_read (Q := Q) k⟩⟩
/-- the class at C: what it says of its instances -/
structure ErrT (K : PySem.W.Frag) (mg : Str → Option Value) (nm : Str) (C : Addr) : Prop where
  gC : mg nm = some (.ref C)
  kC : PySem.W.keepIn K (.ref C) = true
  e : ErrC K C
structure ErrI (K : PySem.W.Frag) (f : Str) (C fI : Addr) : Prop where
  o : OexC K C
  iC : PySem.W.findIn K (.ref C) "__init__" = some (some (.ref fI))
  tI : PySem.W.typeIn K (.ref fI) = some (.type "function")
  no : PySem.W.findIn K (.ref C) f = some none
structure Txt (K : PySem.W.Frag) (mg : Str → Option Value) (c fi : Nat → Addr) (HE : Addr) (fdi : Nat → FuncData) : Prop where
  getc : GetC K
  gHE : mg "HeightError" = some (.ref HE)
  kit : ∀ i j, i < 22 → j < 22 → PySem.W.kitOne K (.ref (c i)) (.ref (c j)) = some (decide (i = j))
  kHE : ∀ i, i < 22 → PySem.W.kitOne K (.ref (c i)) (.ref HE) = some true
  kVE : ∀ i, i < 22 → PySem.W.kitOne K (.ref (c i)) (.type "ValueError") = some true
  ec : ∀ i, i < 22 → ErrC K (c i)
  t0 : ErrT K mg "Wrong" (c 0)
  t1 : ErrT K mg "NoChooser" (c 1)
  t2 : ErrT K mg "NoWay" (c 2)
  t3 : ErrT K mg "NoStanding" (c 3)
  t4 : ErrT K mg "NoChange" (c 4)
  t5 : ErrT K mg "NoLine" (c 5)
  t6 : ErrT K mg "NoStep" (c 6)
  t7 : ErrT K mg "NoSquare" (c 7)
  t8 : ErrT K mg "NoRing" (c 8)
  t9 : ErrT K mg "NoRoad" (c 9)
  t10 : ErrT K mg "NoPair" (c 10)
  t11 : ErrT K mg "NoOrder" (c 11)
  t12 : ErrT K mg "Untold" (c 12)
  t13 : ErrT K mg "Clash" (c 13)
  t14 : ErrT K mg "Full" (c 14)
  t15 : ErrT K mg "Unlike" (c 15)
  t16 : ErrT K mg "NoHeight" (c 16)
  t17 : ErrT K mg "NoTies" (c 17)
  t18 : ErrT K mg "TooWide" (c 18)
  t19 : ErrT K mg "Nothing" (c 19)
  t20 : ErrT K mg "NoText" (c 20)
  t21 : ErrT K mg "NoCommand" (c 21)
  i0 : ErrI K "place" (c 0) (fi 0)
  f0 : Fun K "__init__" "Wrong.__init__" (inClass (topS 2) 0) (fi 0) (fdi 0)
  i1 : ErrI K "name" (c 1) (fi 1)
  f1 : Fun K "__init__" "NoChooser.__init__" (inClass (topS 3) 0) (fi 1) (fdi 1)
  i2 : ErrI K "name" (c 2) (fi 2)
  f2 : Fun K "__init__" "NoWay.__init__" (inClass (topS 4) 0) (fi 2) (fdi 2)
  i3 : ErrI K "standing" (c 3) (fi 3)
  f3 : Fun K "__init__" "NoStanding.__init__" (inClass (topS 5) 0) (fi 3) (fdi 3)
  i4 : ErrI K "change" (c 4) (fi 4)
  f4 : Fun K "__init__" "NoChange.__init__" (inClass (topS 6) 0) (fi 4) (fdi 4)
  i5 : ErrI K "line" (c 5) (fi 5)
  f5 : Fun K "__init__" "NoLine.__init__" (inClass (topS 7) 0) (fi 5) (fdi 5)
  i6 : ErrI K "index" (c 6) (fi 6)
  f6 : Fun K "__init__" "NoStep.__init__" (inClass (topS 8) 0) (fi 6) (fdi 6)
  i7 : ErrI K "square" (c 7) (fi 7)
  f7 : Fun K "__init__" "NoSquare.__init__" (inClass (topS 10) 0) (fi 7) (fdi 7)
  i8 : ErrI K "ring" (c 8) (fi 8)
  f8 : Fun K "__init__" "NoRing.__init__" (inClass (topS 11) 0) (fi 8) (fdi 8)
  i9 : ErrI K "name" (c 9) (fi 9)
  f9 : Fun K "__init__" "NoRoad.__init__" (inClass (topS 13) 0) (fi 9) (fdi 9)
  i10 : ErrI K "pair" (c 10) (fi 10)
  f10 : Fun K "__init__" "NoPair.__init__" (inClass (topS 14) 0) (fi 10) (fdi 10)
  i11 : ErrI K "order" (c 11) (fi 11)
  f11 : Fun K "__init__" "NoOrder.__init__" (inClass (topS 16) 0) (fi 11) (fdi 11)
  i12 : ErrI K "line" (c 12) (fi 12)
  f12 : Fun K "__init__" "Untold.__init__" (inClass (topS 17) 0) (fi 12) (fdi 12)
  i13 : ErrI K "name" (c 13) (fi 13)
  f13 : Fun K "__init__" "Clash.__init__" (inClass (topS 18) 0) (fi 13) (fdi 13)
  i14 : ErrI K "limit" (c 14) (fi 14)
  f14 : Fun K "__init__" "Full.__init__" (inClass (topS 22) 0) (fi 14) (fdi 14)
  x15 : PySem.W.excIn K (c 15) [.type "ValueError", .type "Exception", .type "BaseException", .type "object"] "ValueError.__new__" = true
  x16 : PySem.W.excIn K (c 16) [.type "ValueError", .type "Exception", .type "BaseException", .type "object"] "ValueError.__new__" = true
  x17 : PySem.W.excIn K (c 17) [.type "ValueError", .type "Exception", .type "BaseException", .type "object"] "ValueError.__new__" = true
  x18 : PySem.W.excIn K (c 18) [.type "ValueError", .type "Exception", .type "BaseException", .type "object"] "ValueError.__new__" = true
  x19 : PySem.W.excIn K (c 19) [.type "ValueError", .type "Exception", .type "BaseException", .type "object"] "ValueError.__new__" = true
  x20 : PySem.W.excIn K (c 20) [.type "ValueError", .type "Exception", .type "BaseException", .type "object"] "ValueError.__new__" = true
  x21 : PySem.W.excIn K (c 21) [.type "ValueError", .type "Exception", .type "BaseException", .type "object"] "ValueError.__new__" = true
  m_len : mg "len" = none
  m_int : mg "int" = none
  m_abs : mg "abs" = none
  m_range : mg "range" = none
  m_isinstance : mg "isinstance" = none
  m_list : mg "list" = none
  m_dict : mg "dict" = none
  m_enumerate : mg "enumerate" = none
  m_ValueError : mg "ValueError" = none
section
variable {P : Program} {w : World} {K : PySem.W.Frag} {mg : Str → Option Value} {base : Heap} {c fi : Nat → Addr} {HE : Addr} {fdi : Nat → FuncData}
theorem ok_i0 (T : Txt K mg c fi HE fdi) : FnOk P w K mg base CX0 1 (fi 0) (fdi 0) ["self", "place"] (spErr (c 0) "place") := by
  have S : FnScope ["self", "place"] ["self", "place"] (defScope (inClass (topS 2) 0)) := ⟨rfl, rfl, rfl, by decide +kernel, rfl, by decide +kernel, by decide +kernel⟩
  refine T.f0.ok S (fun vs H Q E h => ?_) (fun cdv A outer s H vs Q E hr h => ?_)
  · obtain ⟨a, v, rfl, _⟩ := h
    rfl
  · obtain ⟨a, v, rfl, ha, q⟩ := h
    exact ⟨_, pss_one (ps_ost (pv 0) (pv 1)), _, rfl, _, rfl, a, c 0, rfl, T.i0.o, T.i0.no, .inl ⟨ha, q⟩⟩
theorem b_i0 (T : Txt K mg c fi HE fdi) : Binds K (fdi 0) ["self", "place"] [] := T.f0.binds (ps := ["self", "place"]) fun _ _ _ _ _ _ us hl => match us, hl with | [_, _], _ => rfl
theorem ok_i1 (T : Txt K mg c fi HE fdi) : FnOk P w K mg base CX0 1 (fi 1) (fdi 1) ["self", "name"] (spErr (c 1) "name") := by
  have S : FnScope ["self", "name"] ["self", "name"] (defScope (inClass (topS 3) 0)) := ⟨rfl, rfl, rfl, by decide +kernel, rfl, by decide +kernel, by decide +kernel⟩
  refine T.f1.ok S (fun vs H Q E h => ?_) (fun cdv A outer s H vs Q E hr h => ?_)
  · obtain ⟨a, v, rfl, _⟩ := h
    rfl
  · obtain ⟨a, v, rfl, ha, q⟩ := h
    exact ⟨_, pss_one (ps_ost (pv 0) (pv 1)), _, rfl, _, rfl, a, c 1, rfl, T.i1.o, T.i1.no, .inl ⟨ha, q⟩⟩
theorem b_i1 (T : Txt K mg c fi HE fdi) : Binds K (fdi 1) ["self", "name"] [] := T.f1.binds (ps := ["self", "name"]) fun _ _ _ _ _ _ us hl => match us, hl with | [_, _], _ => rfl
theorem ok_i2 (T : Txt K mg c fi HE fdi) : FnOk P w K mg base CX0 1 (fi 2) (fdi 2) ["self", "name"] (spErr (c 2) "name") := by
  have S : FnScope ["self", "name"] ["self", "name"] (defScope (inClass (topS 4) 0)) := ⟨rfl, rfl, rfl, by decide +kernel, rfl, by decide +kernel, by decide +kernel⟩
  refine T.f2.ok S (fun vs H Q E h => ?_) (fun cdv A outer s H vs Q E hr h => ?_)
  · obtain ⟨a, v, rfl, _⟩ := h
    rfl
  · obtain ⟨a, v, rfl, ha, q⟩ := h
    exact ⟨_, pss_one (ps_ost (pv 0) (pv 1)), _, rfl, _, rfl, a, c 2, rfl, T.i2.o, T.i2.no, .inl ⟨ha, q⟩⟩
theorem b_i2 (T : Txt K mg c fi HE fdi) : Binds K (fdi 2) ["self", "name"] [] := T.f2.binds (ps := ["self", "name"]) fun _ _ _ _ _ _ us hl => match us, hl with | [_, _], _ => rfl
theorem ok_i3 (T : Txt K mg c fi HE fdi) : FnOk P w K mg base CX0 1 (fi 3) (fdi 3) ["self", "standing"] (spErr (c 3) "standing") := by
  have S : FnScope ["self", "standing"] ["self", "standing"] (defScope (inClass (topS 5) 0)) := ⟨rfl, rfl, rfl, by decide +kernel, rfl, by decide +kernel, by decide +kernel⟩
  refine T.f3.ok S (fun vs H Q E h => ?_) (fun cdv A outer s H vs Q E hr h => ?_)
  · obtain ⟨a, v, rfl, _⟩ := h
    rfl
  · obtain ⟨a, v, rfl, ha, q⟩ := h
    exact ⟨_, pss_one (ps_ost (pv 0) (pv 1)), _, rfl, _, rfl, a, c 3, rfl, T.i3.o, T.i3.no, .inl ⟨ha, q⟩⟩
theorem b_i3 (T : Txt K mg c fi HE fdi) : Binds K (fdi 3) ["self", "standing"] [] := T.f3.binds (ps := ["self", "standing"]) fun _ _ _ _ _ _ us hl => match us, hl with | [_, _], _ => rfl
theorem ok_i4 (T : Txt K mg c fi HE fdi) : FnOk P w K mg base CX0 1 (fi 4) (fdi 4) ["self", "change"] (spErr (c 4) "change") := by
  have S : FnScope ["self", "change"] ["self", "change"] (defScope (inClass (topS 6) 0)) := ⟨rfl, rfl, rfl, by decide +kernel, rfl, by decide +kernel, by decide +kernel⟩
  refine T.f4.ok S (fun vs H Q E h => ?_) (fun cdv A outer s H vs Q E hr h => ?_)
  · obtain ⟨a, v, rfl, _⟩ := h
    rfl
  · obtain ⟨a, v, rfl, ha, q⟩ := h
    exact ⟨_, pss_one (ps_ost (pv 0) (pv 1)), _, rfl, _, rfl, a, c 4, rfl, T.i4.o, T.i4.no, .inl ⟨ha, q⟩⟩
theorem b_i4 (T : Txt K mg c fi HE fdi) : Binds K (fdi 4) ["self", "change"] [] := T.f4.binds (ps := ["self", "change"]) fun _ _ _ _ _ _ us hl => match us, hl with | [_, _], _ => rfl
theorem ok_i5 (T : Txt K mg c fi HE fdi) : FnOk P w K mg base CX0 1 (fi 5) (fdi 5) ["self", "line"] (spErr (c 5) "line") := by
  have S : FnScope ["self", "line"] ["self", "line"] (defScope (inClass (topS 7) 0)) := ⟨rfl, rfl, rfl, by decide +kernel, rfl, by decide +kernel, by decide +kernel⟩
  refine T.f5.ok S (fun vs H Q E h => ?_) (fun cdv A outer s H vs Q E hr h => ?_)
  · obtain ⟨a, v, rfl, _⟩ := h
    rfl
  · obtain ⟨a, v, rfl, ha, q⟩ := h
    exact ⟨_, pss_one (ps_ost (pv 0) (pv 1)), _, rfl, _, rfl, a, c 5, rfl, T.i5.o, T.i5.no, .inl ⟨ha, q⟩⟩
theorem b_i5 (T : Txt K mg c fi HE fdi) : Binds K (fdi 5) ["self", "line"] [] := T.f5.binds (ps := ["self", "line"]) fun _ _ _ _ _ _ us hl => match us, hl with | [_, _], _ => rfl
theorem ok_i6 (T : Txt K mg c fi HE fdi) : FnOk P w K mg base CX0 1 (fi 6) (fdi 6) ["self", "index"] (spErr (c 6) "index") := by
  have S : FnScope ["self", "index"] ["self", "index"] (defScope (inClass (topS 8) 0)) := ⟨rfl, rfl, rfl, by decide +kernel, rfl, by decide +kernel, by decide +kernel⟩
  refine T.f6.ok S (fun vs H Q E h => ?_) (fun cdv A outer s H vs Q E hr h => ?_)
  · obtain ⟨a, v, rfl, _⟩ := h
    rfl
  · obtain ⟨a, v, rfl, ha, q⟩ := h
    exact ⟨_, pss_one (ps_ost (pv 0) (pv 1)), _, rfl, _, rfl, a, c 6, rfl, T.i6.o, T.i6.no, .inl ⟨ha, q⟩⟩
theorem b_i6 (T : Txt K mg c fi HE fdi) : Binds K (fdi 6) ["self", "index"] [] := T.f6.binds (ps := ["self", "index"]) fun _ _ _ _ _ _ us hl => match us, hl with | [_, _], _ => rfl
theorem ok_i7 (T : Txt K mg c fi HE fdi) : FnOk P w K mg base CX0 1 (fi 7) (fdi 7) ["self", "square"] (spErr (c 7) "square") := by
  have S : FnScope ["self", "square"] ["self", "square"] (defScope (inClass (topS 10) 0)) := ⟨rfl, rfl, rfl, by decide +kernel, rfl, by decide +kernel, by decide +kernel⟩
  refine T.f7.ok S (fun vs H Q E h => ?_) (fun cdv A outer s H vs Q E hr h => ?_)
  · obtain ⟨a, v, rfl, _⟩ := h
    rfl
  · obtain ⟨a, v, rfl, ha, q⟩ := h
    exact ⟨_, pss_one (ps_ost (pv 0) (pv 1)), _, rfl, _, rfl, a, c 7, rfl, T.i7.o, T.i7.no, .inl ⟨ha, q⟩⟩
theorem b_i7 (T : Txt K mg c fi HE fdi) : Binds K (fdi 7) ["self", "square"] [] := T.f7.binds (ps := ["self", "square"]) fun _ _ _ _ _ _ us hl => match us, hl with | [_, _], _ => rfl
theorem ok_i8 (T : Txt K mg c fi HE fdi) : FnOk P w K mg base CX0 1 (fi 8) (fdi 8) ["self", "ring"] (spErr (c 8) "ring") := by
  have S : FnScope ["self", "ring"] ["self", "ring"] (defScope (inClass (topS 11) 0)) := ⟨rfl, rfl, rfl, by decide +kernel, rfl, by decide +kernel, by decide +kernel⟩
  refine T.f8.ok S (fun vs H Q E h => ?_) (fun cdv A outer s H vs Q E hr h => ?_)
  · obtain ⟨a, v, rfl, _⟩ := h
    rfl
  · obtain ⟨a, v, rfl, ha, q⟩ := h
    exact ⟨_, pss_one (ps_ost (pv 0) (pv 1)), _, rfl, _, rfl, a, c 8, rfl, T.i8.o, T.i8.no, .inl ⟨ha, q⟩⟩
theorem b_i8 (T : Txt K mg c fi HE fdi) : Binds K (fdi 8) ["self", "ring"] [] := T.f8.binds (ps := ["self", "ring"]) fun _ _ _ _ _ _ us hl => match us, hl with | [_, _], _ => rfl
theorem ok_i9 (T : Txt K mg c fi HE fdi) : FnOk P w K mg base CX0 1 (fi 9) (fdi 9) ["self", "name"] (spErr (c 9) "name") := by
  have S : FnScope ["self", "name"] ["self", "name"] (defScope (inClass (topS 13) 0)) := ⟨rfl, rfl, rfl, by decide +kernel, rfl, by decide +kernel, by decide +kernel⟩
  refine T.f9.ok S (fun vs H Q E h => ?_) (fun cdv A outer s H vs Q E hr h => ?_)
  · obtain ⟨a, v, rfl, _⟩ := h
    rfl
  · obtain ⟨a, v, rfl, ha, q⟩ := h
    exact ⟨_, pss_one (ps_ost (pv 0) (pv 1)), _, rfl, _, rfl, a, c 9, rfl, T.i9.o, T.i9.no, .inl ⟨ha, q⟩⟩
theorem b_i9 (T : Txt K mg c fi HE fdi) : Binds K (fdi 9) ["self", "name"] [] := T.f9.binds (ps := ["self", "name"]) fun _ _ _ _ _ _ us hl => match us, hl with | [_, _], _ => rfl
theorem ok_i10 (T : Txt K mg c fi HE fdi) : FnOk P w K mg base CX0 1 (fi 10) (fdi 10) ["self", "pair"] (spErr (c 10) "pair") := by
  have S : FnScope ["self", "pair"] ["self", "pair"] (defScope (inClass (topS 14) 0)) := ⟨rfl, rfl, rfl, by decide +kernel, rfl, by decide +kernel, by decide +kernel⟩
  refine T.f10.ok S (fun vs H Q E h => ?_) (fun cdv A outer s H vs Q E hr h => ?_)
  · obtain ⟨a, v, rfl, _⟩ := h
    rfl
  · obtain ⟨a, v, rfl, ha, q⟩ := h
    exact ⟨_, pss_one (ps_ost (pv 0) (pv 1)), _, rfl, _, rfl, a, c 10, rfl, T.i10.o, T.i10.no, .inl ⟨ha, q⟩⟩
theorem b_i10 (T : Txt K mg c fi HE fdi) : Binds K (fdi 10) ["self", "pair"] [] := T.f10.binds (ps := ["self", "pair"]) fun _ _ _ _ _ _ us hl => match us, hl with | [_, _], _ => rfl
theorem ok_i11 (T : Txt K mg c fi HE fdi) : FnOk P w K mg base CX0 1 (fi 11) (fdi 11) ["self", "order"] (spErr (c 11) "order") := by
  have S : FnScope ["self", "order"] ["self", "order"] (defScope (inClass (topS 16) 0)) := ⟨rfl, rfl, rfl, by decide +kernel, rfl, by decide +kernel, by decide +kernel⟩
  refine T.f11.ok S (fun vs H Q E h => ?_) (fun cdv A outer s H vs Q E hr h => ?_)
  · obtain ⟨a, v, rfl, _⟩ := h
    rfl
  · obtain ⟨a, v, rfl, ha, q⟩ := h
    exact ⟨_, pss_one (ps_ost (pv 0) (pv 1)), _, rfl, _, rfl, a, c 11, rfl, T.i11.o, T.i11.no, .inl ⟨ha, q⟩⟩
theorem b_i11 (T : Txt K mg c fi HE fdi) : Binds K (fdi 11) ["self", "order"] [] := T.f11.binds (ps := ["self", "order"]) fun _ _ _ _ _ _ us hl => match us, hl with | [_, _], _ => rfl
theorem ok_i12 (T : Txt K mg c fi HE fdi) : FnOk P w K mg base CX0 1 (fi 12) (fdi 12) ["self", "line"] (spErr (c 12) "line") := by
  have S : FnScope ["self", "line"] ["self", "line"] (defScope (inClass (topS 17) 0)) := ⟨rfl, rfl, rfl, by decide +kernel, rfl, by decide +kernel, by decide +kernel⟩
  refine T.f12.ok S (fun vs H Q E h => ?_) (fun cdv A outer s H vs Q E hr h => ?_)
  · obtain ⟨a, v, rfl, _⟩ := h
    rfl
  · obtain ⟨a, v, rfl, ha, q⟩ := h
    exact ⟨_, pss_one (ps_ost (pv 0) (pv 1)), _, rfl, _, rfl, a, c 12, rfl, T.i12.o, T.i12.no, .inl ⟨ha, q⟩⟩
theorem b_i12 (T : Txt K mg c fi HE fdi) : Binds K (fdi 12) ["self", "line"] [] := T.f12.binds (ps := ["self", "line"]) fun _ _ _ _ _ _ us hl => match us, hl with | [_, _], _ => rfl
theorem ok_i13 (T : Txt K mg c fi HE fdi) : FnOk P w K mg base CX0 1 (fi 13) (fdi 13) ["self", "name"] (spErr (c 13) "name") := by
  have S : FnScope ["self", "name"] ["self", "name"] (defScope (inClass (topS 18) 0)) := ⟨rfl, rfl, rfl, by decide +kernel, rfl, by decide +kernel, by decide +kernel⟩
  refine T.f13.ok S (fun vs H Q E h => ?_) (fun cdv A outer s H vs Q E hr h => ?_)
  · obtain ⟨a, v, rfl, _⟩ := h
    rfl
  · obtain ⟨a, v, rfl, ha, q⟩ := h
    exact ⟨_, pss_one (ps_ost (pv 0) (pv 1)), _, rfl, _, rfl, a, c 13, rfl, T.i13.o, T.i13.no, .inl ⟨ha, q⟩⟩
theorem b_i13 (T : Txt K mg c fi HE fdi) : Binds K (fdi 13) ["self", "name"] [] := T.f13.binds (ps := ["self", "name"]) fun _ _ _ _ _ _ us hl => match us, hl with | [_, _], _ => rfl
theorem ok_i14 (T : Txt K mg c fi HE fdi) : FnOk P w K mg base CX0 1 (fi 14) (fdi 14) ["self", "limit"] (spErr (c 14) "limit") := by
  have S : FnScope ["self", "limit"] ["self", "limit"] (defScope (inClass (topS 22) 0)) := ⟨rfl, rfl, rfl, by decide +kernel, rfl, by decide +kernel, by decide +kernel⟩
  refine T.f14.ok S (fun vs H Q E h => ?_) (fun cdv A outer s H vs Q E hr h => ?_)
  · obtain ⟨a, v, rfl, _⟩ := h
    rfl
  · obtain ⟨a, v, rfl, ha, q⟩ := h
    exact ⟨_, pss_one (ps_ost (pv 0) (pv 1)), _, rfl, _, rfl, a, c 14, rfl, T.i14.o, T.i14.no, .inl ⟨ha, q⟩⟩
theorem b_i14 (T : Txt K mg c fi HE fdi) : Binds K (fdi 14) ["self", "limit"] [] := T.f14.binds (ps := ["self", "limit"]) fun _ _ _ _ _ _ us hl => match us, hl with | [_, _], _ => rfl
def fld (i : Nat) : Str := (["place", "name", "name", "standing", "change", "line", "index", "square", "ring", "name", "pair", "order", "line", "name", "limit"] : List Str).getD i ""
theorem all15 {P : Nat → Prop} (h0 : P 0) (h1 : P 1) (h2 : P 2) (h3 : P 3) (h4 : P 4) (h5 : P 5) (h6 : P 6) (h7 : P 7) (h8 : P 8) (h9 : P 9) (h10 : P 10) (h11 : P 11) (h12 : P 12) (h13 : P 13) (h14 : P 14) : ∀ i, i < 15 → P i := by
  intro i hi
  match i, hi with
  | 0, _ => exact h0
  | 1, _ => exact h1
  | 2, _ => exact h2
  | 3, _ => exact h3
  | 4, _ => exact h4
  | 5, _ => exact h5
  | 6, _ => exact h6
  | 7, _ => exact h7
  | 8, _ => exact h8
  | 9, _ => exact h9
  | 10, _ => exact h10
  | 11, _ => exact h11
  | 12, _ => exact h12
  | 13, _ => exact h13
  | 14, _ => exact h14
theorem all7 {P : Nat → Prop} (h15 : P 15) (h16 : P 16) (h17 : P 17) (h18 : P 18) (h19 : P 19) (h20 : P 20) (h21 : P 21) : ∀ i, 15 ≤ i → i < 22 → P i := by
  intro i hi hi2
  obtain ⟨j, rfl⟩ : ∃ j, i = 15 + j := ⟨i - 15, by omega⟩
  have hj : j < 7 := by omega
  match j, hj with
  | 0, _ => exact h15
  | 1, _ => exact h16
  | 2, _ => exact h17
  | 3, _ => exact h18
  | 4, _ => exact h19
  | 5, _ => exact h20
  | 6, _ => exact h21
/-- the list at p holds the 22 errors, made of x -/
structure Errs (c : Nat → Addr) (H : Hp) (p : Addr) (x : V) (es ds : Nat → Addr) : Prop where
  at_ : H p = some (.lst ((List.range 22).map fun i => V.ref (es i)))
  own : ∀ i, i < 15 → H (es i) = some (exo (es i) (c i) (some (ds i))) ∧ H (ds i) = some (exd (ds i) [(fld i, x)])
  bare : ∀ i, 15 ≤ i → i < 22 → H (es i) = some (exo (es i) (c i) none)
theorem Errs.same {H H' : Hp} {p : Addr} {x : V} {es ds : Nat → Addr} (E : Errs c H p x es ds) (s : Same H H') : Errs c H' p x es ds :=
  ⟨s _ _ E.at_, fun i hi => ⟨s _ _ (E.own i hi).1, s _ _ (E.own i hi).2⟩, fun i h h' => s _ _ (E.bare i h h')⟩
def spErrors (c : Nat → Addr) : Sp := fun vs H Q _ => ∃ x, vs = [x] ∧ ∀ H' p es ds, Same H H' → Errs c H' p x es ds → H p = none → Q (.ref p) H'
theorem scErrors : FnScope ["_law_x", "_law_found"] ["_law_x"] (defScope sErrors) := ⟨rfl, rfl, rfl, by decide +kernel, rfl, by decide +kernel, by decide +kernel⟩
theorem scFlags : FnScope ["_law_e", "_law_found"] ["_law_e"] (defScope sFlags) := ⟨rfl, rfl, rfl, by decide +kernel, rfl, by decide +kernel, by decide +kernel⟩
theorem scFields : FnScope ["_law_some", "_law_found"] ["_law_some"] (defScope sFields) := ⟨rfl, rfl, rfl, by decide +kernel, rfl, by decide +kernel, by decide +kernel⟩
theorem ok_errors {f : Addr} {fd : FuncData} (F : Fun K "_law_errors" "_law_errors" sErrors f fd) (T : Txt K mg c fi HE fdi) : FnOk P w K mg base CX0 3 f fd ["_law_x"] (spErrors c) := by
  refine F.ok scErrors (fun vs H Q E h => ?_) (fun cdv A outer s H vs Q E hr h => ?_)
  · obtain ⟨x, rfl, _⟩ := h
    rfl
  · obtain ⟨x, rfl, q⟩ := h
    have nd := scErrors.nd
    refine ⟨_, pss_cons (ps_set (i := 1) nd rfl (Or.inl rfl) (pe_lst (pa_cons (pe_errM <| pe_errN T.i0.o T.i0.iC T.i0.tI (ok_i0 T) hr (b_i0 T) pass0 T.t0.gC (by rfl) (pa_cons (pv 0) pa_nil)) (pa_cons (pe_errM <| pe_errN T.i1.o T.i1.iC T.i1.tI (ok_i1 T) hr (b_i1 T) pass0 T.t1.gC (by rfl) (pa_cons (pv 0) pa_nil)) (pa_cons (pe_errM <| pe_errN T.i2.o T.i2.iC T.i2.tI (ok_i2 T) hr (b_i2 T) pass0 T.t2.gC (by rfl) (pa_cons (pv 0) pa_nil)) (pa_cons (pe_errM <| pe_errN T.i3.o T.i3.iC T.i3.tI (ok_i3 T) hr (b_i3 T) pass0 T.t3.gC (by rfl) (pa_cons (pv 0) pa_nil)) (pa_cons (pe_errM <| pe_errN T.i4.o T.i4.iC T.i4.tI (ok_i4 T) hr (b_i4 T) pass0 T.t4.gC (by rfl) (pa_cons (pv 0) pa_nil)) (pa_cons (pe_errM <| pe_errN T.i5.o T.i5.iC T.i5.tI (ok_i5 T) hr (b_i5 T) pass0 T.t5.gC (by rfl) (pa_cons (pv 0) pa_nil)) (pa_cons (pe_errM <| pe_errN T.i6.o T.i6.iC T.i6.tI (ok_i6 T) hr (b_i6 T) pass0 T.t6.gC (by rfl) (pa_cons (pv 0) pa_nil)) (pa_cons (pe_errM <| pe_errN T.i7.o T.i7.iC T.i7.tI (ok_i7 T) hr (b_i7 T) pass0 T.t7.gC (by rfl) (pa_cons (pv 0) pa_nil)) (pa_cons (pe_errM <| pe_errN T.i8.o T.i8.iC T.i8.tI (ok_i8 T) hr (b_i8 T) pass0 T.t8.gC (by rfl) (pa_cons (pv 0) pa_nil)) pa_nil)))))))))))
      (pss_cons (ps_set (i := 1) nd rfl (Or.inl rfl) (pe_op op_cat (pv 1) (pe_lst (pa_cons (pe_errM <| pe_errN T.i9.o T.i9.iC T.i9.tI (ok_i9 T) hr (b_i9 T) pass0 T.t9.gC (by rfl) (pa_cons (pv 0) pa_nil)) (pa_cons (pe_errM <| pe_errN T.i10.o T.i10.iC T.i10.tI (ok_i10 T) hr (b_i10 T) pass0 T.t10.gC (by rfl) (pa_cons (pv 0) pa_nil)) (pa_cons (pe_errM <| pe_errN T.i11.o T.i11.iC T.i11.tI (ok_i11 T) hr (b_i11 T) pass0 T.t11.gC (by rfl) (pa_cons (pv 0) pa_nil)) (pa_cons (pe_errM <| pe_errN T.i12.o T.i12.iC T.i12.tI (ok_i12 T) hr (b_i12 T) pass0 T.t12.gC (by rfl) (pa_cons (pv 0) pa_nil)) (pa_cons (pe_errM <| pe_errN T.i13.o T.i13.iC T.i13.tI (ok_i13 T) hr (b_i13 T) pass0 T.t13.gC (by rfl) (pa_cons (pv 0) pa_nil)) (pa_cons (pe_errM <| pe_errN T.i14.o T.i14.iC T.i14.tI (ok_i14 T) hr (b_i14 T) pass0 T.t14.gC (by rfl) (pa_cons (pv 0) pa_nil)) pa_nil)))))))))
      (pss_one (ps_ret (pe_op op_cat (pv 1) (pe_lst (pa_cons (pe_err0 PySem.F.excBase_ValueError T.x15 T.t15.gC T.t15.kC (by rfl)) (pa_cons (pe_err0 PySem.F.excBase_ValueError T.x16 T.t16.gC T.t16.kC (by rfl)) (pa_cons (pe_err0 PySem.F.excBase_ValueError T.x17 T.t17.gC T.t17.kC (by rfl)) (pa_cons (pe_err0 PySem.F.excBase_ValueError T.x18 T.t18.gC T.t18.kC (by rfl)) (pa_cons (pe_err0 PySem.F.excBase_ValueError T.x19 T.t19.gC T.t19.kC (by rfl)) (pa_cons (pe_err0 PySem.F.excBase_ValueError T.x20 T.t20.gC T.t20.kC (by rfl)) (pa_cons (pe_err0 PySem.F.excBase_ValueError T.x21 T.t21.gC T.t21.kC (by rfl)) pa_nil)))))))))))), ?_⟩
    refine ⟨_, rfl, fun H0 a0 d0 s0 e0 o0 => ?_⟩
    refine ⟨_, rfl, fun H1 a1 d1 s1 e1 o1 => ?_⟩
    refine ⟨_, rfl, fun H2 a2 d2 s2 e2 o2 => ?_⟩
    refine ⟨_, rfl, fun H3 a3 d3 s3 e3 o3 => ?_⟩
    refine ⟨_, rfl, fun H4 a4 d4 s4 e4 o4 => ?_⟩
    refine ⟨_, rfl, fun H5 a5 d5 s5 e5 o5 => ?_⟩
    refine ⟨_, rfl, fun H6 a6 d6 s6 e6 o6 => ?_⟩
    refine ⟨_, rfl, fun H7 a7 d7 s7 e7 o7 => ?_⟩
    refine ⟨_, rfl, fun H8 a8 d8 s8 e8 o8 => ?_⟩
    refine ⟨by show 9 ≤ sizeLine; decide, fun p1 n1 => ?_⟩
    have sp1 := same_upd (o := .lst [.ref a0, .ref a1, .ref a2, .ref a3, .ref a4, .ref a5, .ref a6, .ref a7, .ref a8]) n1
    refine ⟨_, rfl, ?_⟩
    refine ⟨_, rfl, fun H9 a9 d9 s9 e9 o9 => ?_⟩
    refine ⟨_, rfl, fun H10 a10 d10 s10 e10 o10 => ?_⟩
    refine ⟨_, rfl, fun H11 a11 d11 s11 e11 o11 => ?_⟩
    refine ⟨_, rfl, fun H12 a12 d12 s12 e12 o12 => ?_⟩
    refine ⟨_, rfl, fun H13 a13 d13 s13 e13 o13 => ?_⟩
    refine ⟨_, rfl, fun H14 a14 d14 s14 e14 o14 => ?_⟩
    refine ⟨by show 6 ≤ sizeLine; decide, fun p2 n2 => ?_⟩
    have sp2 := same_upd (o := .lst [.ref a9, .ref a10, .ref a11, .ref a12, .ref a13, .ref a14]) n2
    have t14 := sp2
    have t13 := s14.trans t14
    have t12 := s13.trans t13
    have t11 := s12.trans t12
    have t10 := s11.trans t11
    have t9 := s10.trans t10
    have t8 := sp1.trans (s9.trans t9)
    have t7 := s8.trans t8
    have t6 := s7.trans t7
    have t5 := s6.trans t6
    have t4 := s5.trans t5
    have t3 := s4.trans t4
    have t2 := s3.trans t3
    have t1 := s2.trans t2
    have t0 := s1.trans t1
    have hp1 := (s9.trans t9) _ _ (upd_same (H := H8) (a := p1) (o := .lst [.ref a0, .ref a1, .ref a2, .ref a3, .ref a4, .ref a5, .ref a6, .ref a7, .ref a8]))
    refine ⟨p1, p2, _, _, rfl, rfl, hp1, upd_same, (by show 9 + 6 ≤ sizeLine; decide), fun p3 n3 => ?_⟩
    have sp3 := same_upd (o := .lst [.ref a0, .ref a1, .ref a2, .ref a3, .ref a4, .ref a5, .ref a6, .ref a7, .ref a8, .ref a9, .ref a10, .ref a11, .ref a12, .ref a13, .ref a14]) n3
    refine ⟨_, rfl, ?_⟩
    refine fun a15 n_15 => ?_
    have u15 := same_upd (o := exo a15 (c 15) none) n_15
    refine fun a16 n_16 => ?_
    have u16 := same_upd (o := exo a16 (c 16) none) n_16
    refine fun a17 n_17 => ?_
    have u17 := same_upd (o := exo a17 (c 17) none) n_17
    refine fun a18 n_18 => ?_
    have u18 := same_upd (o := exo a18 (c 18) none) n_18
    refine fun a19 n_19 => ?_
    have u19 := same_upd (o := exo a19 (c 19) none) n_19
    refine fun a20 n_20 => ?_
    have u20 := same_upd (o := exo a20 (c 20) none) n_20
    refine fun a21 n_21 => ?_
    have u21 := same_upd (o := exo a21 (c 21) none) n_21
    refine ⟨by show 7 ≤ sizeLine; decide, fun p4 n4 => ?_⟩
    have sp4 := same_upd (o := .lst [.ref a15, .ref a16, .ref a17, .ref a18, .ref a19, .ref a20, .ref a21]) n4
    have v21 := sp4
    have v20 := u21.trans v21
    have v19 := u20.trans v20
    have v18 := u19.trans v19
    have v17 := u18.trans v18
    have v16 := u17.trans v17
    have v15 := u16.trans v16
    have v14 := u15.trans v15
    refine ⟨p3, p4, _, _, rfl, rfl, v14 _ _ upd_same, upd_same, (by show 15 + 7 ≤ sizeLine; decide), fun p5 n5 => ?_⟩
    have sp5 := same_upd (o := .lst [.ref a0, .ref a1, .ref a2, .ref a3, .ref a4, .ref a5, .ref a6, .ref a7, .ref a8, .ref a9, .ref a10, .ref a11, .ref a12, .ref a13, .ref a14, .ref a15, .ref a16, .ref a17, .ref a18, .ref a19, .ref a20, .ref a21]) n5
    have z := sp3.trans (v14.trans sp5)
    have st := s0.trans (t0.trans z)
    refine q _ p5 (fun i => ([a0, a1, a2, a3, a4, a5, a6, a7, a8, a9, a10, a11, a12, a13, a14, a15, a16, a17, a18, a19, a20, a21] : List Addr).getD i 0) (fun i => ([d0, d1, d2, d3, d4, d5, d6, d7, d8, d9, d10, d11, d12, d13, d14] : List Addr).getD i 0) st ⟨upd_same, all15 ⟨(t0.trans z) _ _ e0, (t0.trans z) _ _ o0⟩ ⟨(t1.trans z) _ _ e1, (t1.trans z) _ _ o1⟩ ⟨(t2.trans z) _ _ e2, (t2.trans z) _ _ o2⟩ ⟨(t3.trans z) _ _ e3, (t3.trans z) _ _ o3⟩ ⟨(t4.trans z) _ _ e4, (t4.trans z) _ _ o4⟩ ⟨(t5.trans z) _ _ e5, (t5.trans z) _ _ o5⟩ ⟨(t6.trans z) _ _ e6, (t6.trans z) _ _ o6⟩ ⟨(t7.trans z) _ _ e7, (t7.trans z) _ _ o7⟩ ⟨(t8.trans z) _ _ e8, (t8.trans z) _ _ o8⟩ ⟨(t9.trans z) _ _ e9, (t9.trans z) _ _ o9⟩ ⟨(t10.trans z) _ _ e10, (t10.trans z) _ _ o10⟩ ⟨(t11.trans z) _ _ e11, (t11.trans z) _ _ o11⟩ ⟨(t12.trans z) _ _ e12, (t12.trans z) _ _ o12⟩ ⟨(t13.trans z) _ _ e13, (t13.trans z) _ _ o13⟩ ⟨(t14.trans z) _ _ e14, (t14.trans z) _ _ o14⟩, all7 ((v15.trans sp5) _ _ upd_same) ((v16.trans sp5) _ _ upd_same) ((v17.trans sp5) _ _ upd_same) ((v18.trans sp5) _ _ upd_same) ((v19.trans sp5) _ _ upd_same) ((v20.trans sp5) _ _ upd_same) ((v21.trans sp5) _ _ upd_same)⟩ ((s0.trans (t0.trans (sp3.trans v14))).free n5)
def spFlags (c : Nat → Addr) : Sp := fun vs H Q _ => ∃ (a : Addr) (i : Nat) (d : Option Addr), vs = [.ref a] ∧ i < 22 ∧ H a = some (exo a (c i) d) ∧ (∀ dx, d = some dx → ∃ fs, H dx = some (exd dx fs)) ∧
  ∀ H' p, Same H H' → H p = none → H' p = some (.lst ((List.range 22).map fun j => V.bl (decide (i = j)))) → Q (.ref p) H'
theorem ok_flags {f : Addr} {fd : FuncData} (F : Fun K "_law_flags" "_law_flags" sFlags f fd) (T : Txt K mg c fi HE fdi) : FnOk P w K mg base CX0 1 f fd ["_law_e"] (spFlags c) := by
  refine F.ok scFlags (fun vs H Q E h => ?_) (fun cdv A outer s H vs Q E hr h => ?_)
  · obtain ⟨x, i, d, rfl, _⟩ := h
    rfl
  · obtain ⟨a, i, d, rfl, hi, ea, hd, q⟩ := h
    have nd := scFlags.nd
    have hx := T.ec i hi
    refine ⟨_, pss_cons (ps_set (i := 1) nd rfl (Or.inl rfl) (pe_lst (pa_cons (pe_callB call_isErr (by rfl) T.m_isinstance (by decide +kernel) (pa_cons (pv 0) (pa_cons (pe_glob (v := .ref (c 0)) (by rfl) T.t0.gC rfl) pa_nil))) (pa_cons (pe_callB call_isErr (by rfl) T.m_isinstance (by decide +kernel) (pa_cons (pv 0) (pa_cons (pe_glob (v := .ref (c 1)) (by rfl) T.t1.gC rfl) pa_nil))) (pa_cons (pe_callB call_isErr (by rfl) T.m_isinstance (by decide +kernel) (pa_cons (pv 0) (pa_cons (pe_glob (v := .ref (c 2)) (by rfl) T.t2.gC rfl) pa_nil))) (pa_cons (pe_callB call_isErr (by rfl) T.m_isinstance (by decide +kernel) (pa_cons (pv 0) (pa_cons (pe_glob (v := .ref (c 3)) (by rfl) T.t3.gC rfl) pa_nil))) pa_nil))))))
      (pss_cons (ps_set (i := 1) nd rfl (Or.inl rfl) (pe_op op_cat (pv 1) (pe_lst (pa_cons (pe_callB call_isErr (by rfl) T.m_isinstance (by decide +kernel) (pa_cons (pv 0) (pa_cons (pe_glob (v := .ref (c 4)) (by rfl) T.t4.gC rfl) pa_nil))) (pa_cons (pe_callB call_isErr (by rfl) T.m_isinstance (by decide +kernel) (pa_cons (pv 0) (pa_cons (pe_glob (v := .ref (c 5)) (by rfl) T.t5.gC rfl) pa_nil))) (pa_cons (pe_callB call_isErr (by rfl) T.m_isinstance (by decide +kernel) (pa_cons (pv 0) (pa_cons (pe_glob (v := .ref (c 6)) (by rfl) T.t6.gC rfl) pa_nil))) (pa_cons (pe_callB call_isErr (by rfl) T.m_isinstance (by decide +kernel) (pa_cons (pv 0) (pa_cons (pe_glob (v := .ref (c 7)) (by rfl) T.t7.gC rfl) pa_nil))) pa_nil)))))))
      (pss_cons (ps_set (i := 1) nd rfl (Or.inl rfl) (pe_op op_cat (pv 1) (pe_lst (pa_cons (pe_callB call_isErr (by rfl) T.m_isinstance (by decide +kernel) (pa_cons (pv 0) (pa_cons (pe_glob (v := .ref (c 8)) (by rfl) T.t8.gC rfl) pa_nil))) (pa_cons (pe_callB call_isErr (by rfl) T.m_isinstance (by decide +kernel) (pa_cons (pv 0) (pa_cons (pe_glob (v := .ref (c 9)) (by rfl) T.t9.gC rfl) pa_nil))) (pa_cons (pe_callB call_isErr (by rfl) T.m_isinstance (by decide +kernel) (pa_cons (pv 0) (pa_cons (pe_glob (v := .ref (c 10)) (by rfl) T.t10.gC rfl) pa_nil))) (pa_cons (pe_callB call_isErr (by rfl) T.m_isinstance (by decide +kernel) (pa_cons (pv 0) (pa_cons (pe_glob (v := .ref (c 11)) (by rfl) T.t11.gC rfl) pa_nil))) pa_nil)))))))
      (pss_cons (ps_set (i := 1) nd rfl (Or.inl rfl) (pe_op op_cat (pv 1) (pe_lst (pa_cons (pe_callB call_isErr (by rfl) T.m_isinstance (by decide +kernel) (pa_cons (pv 0) (pa_cons (pe_glob (v := .ref (c 12)) (by rfl) T.t12.gC rfl) pa_nil))) (pa_cons (pe_callB call_isErr (by rfl) T.m_isinstance (by decide +kernel) (pa_cons (pv 0) (pa_cons (pe_glob (v := .ref (c 13)) (by rfl) T.t13.gC rfl) pa_nil))) (pa_cons (pe_callB call_isErr (by rfl) T.m_isinstance (by decide +kernel) (pa_cons (pv 0) (pa_cons (pe_glob (v := .ref (c 14)) (by rfl) T.t14.gC rfl) pa_nil))) (pa_cons (pe_callB call_isErr (by rfl) T.m_isinstance (by decide +kernel) (pa_cons (pv 0) (pa_cons (pe_glob (v := .ref (c 15)) (by rfl) T.t15.gC rfl) pa_nil))) pa_nil)))))))
      (pss_cons (ps_set (i := 1) nd rfl (Or.inl rfl) (pe_op op_cat (pv 1) (pe_lst (pa_cons (pe_callB call_isErr (by rfl) T.m_isinstance (by decide +kernel) (pa_cons (pv 0) (pa_cons (pe_glob (v := .ref (c 16)) (by rfl) T.t16.gC rfl) pa_nil))) (pa_cons (pe_callB call_isErr (by rfl) T.m_isinstance (by decide +kernel) (pa_cons (pv 0) (pa_cons (pe_glob (v := .ref (c 17)) (by rfl) T.t17.gC rfl) pa_nil))) (pa_cons (pe_callB call_isErr (by rfl) T.m_isinstance (by decide +kernel) (pa_cons (pv 0) (pa_cons (pe_glob (v := .ref (c 18)) (by rfl) T.t18.gC rfl) pa_nil))) (pa_cons (pe_callB call_isErr (by rfl) T.m_isinstance (by decide +kernel) (pa_cons (pv 0) (pa_cons (pe_glob (v := .ref (c 19)) (by rfl) T.t19.gC rfl) pa_nil))) pa_nil)))))))
      (pss_one (ps_ret (pe_op op_cat (pv 1) (pe_lst (pa_cons (pe_callB call_isErr (by rfl) T.m_isinstance (by decide +kernel) (pa_cons (pv 0) (pa_cons (pe_glob (v := .ref (c 20)) (by rfl) T.t20.gC rfl) pa_nil))) (pa_cons (pe_callB call_isErr (by rfl) T.m_isinstance (by decide +kernel) (pa_cons (pv 0) (pa_cons (pe_glob (v := .ref (c 21)) (by rfl) T.t21.gC rfl) pa_nil))) pa_nil)))))))))), ?_⟩
    have s0 : Same H H := Same.refl H
    refine ⟨_, rfl, a, c i, d, .ref (c 0), .ref (c 0), _, rfl, .own _, s0 _ _ ea, (fun dx e => let ⟨fs, h⟩ := hd dx e; ⟨fs, s0 _ _ h⟩), hx, T.getc, T.kit i 0 hi (by decide), ?_⟩
    refine ⟨_, rfl, a, c i, d, .ref (c 1), .ref (c 1), _, rfl, .own _, s0 _ _ ea, (fun dx e => let ⟨fs, h⟩ := hd dx e; ⟨fs, s0 _ _ h⟩), hx, T.getc, T.kit i 1 hi (by decide), ?_⟩
    refine ⟨_, rfl, a, c i, d, .ref (c 2), .ref (c 2), _, rfl, .own _, s0 _ _ ea, (fun dx e => let ⟨fs, h⟩ := hd dx e; ⟨fs, s0 _ _ h⟩), hx, T.getc, T.kit i 2 hi (by decide), ?_⟩
    refine ⟨_, rfl, a, c i, d, .ref (c 3), .ref (c 3), _, rfl, .own _, s0 _ _ ea, (fun dx e => let ⟨fs, h⟩ := hd dx e; ⟨fs, s0 _ _ h⟩), hx, T.getc, T.kit i 3 hi (by decide), ?_⟩
    refine ⟨by show 4 ≤ sizeLine; decide, fun p0 n0 => ?_⟩
    have r0 := same_upd (o := .lst [.bl (decide (i = 0)), .bl (decide (i = 1)), .bl (decide (i = 2)), .bl (decide (i = 3))]) n0
    replace s0 := s0.trans r0

    refine ⟨_, rfl, ?_⟩
    refine ⟨_, rfl, a, c i, d, .ref (c 4), .ref (c 4), _, rfl, .own _, s0 _ _ ea, (fun dx e => let ⟨fs, h⟩ := hd dx e; ⟨fs, s0 _ _ h⟩), hx, T.getc, T.kit i 4 hi (by decide), ?_⟩
    refine ⟨_, rfl, a, c i, d, .ref (c 5), .ref (c 5), _, rfl, .own _, s0 _ _ ea, (fun dx e => let ⟨fs, h⟩ := hd dx e; ⟨fs, s0 _ _ h⟩), hx, T.getc, T.kit i 5 hi (by decide), ?_⟩
    refine ⟨_, rfl, a, c i, d, .ref (c 6), .ref (c 6), _, rfl, .own _, s0 _ _ ea, (fun dx e => let ⟨fs, h⟩ := hd dx e; ⟨fs, s0 _ _ h⟩), hx, T.getc, T.kit i 6 hi (by decide), ?_⟩
    refine ⟨_, rfl, a, c i, d, .ref (c 7), .ref (c 7), _, rfl, .own _, s0 _ _ ea, (fun dx e => let ⟨fs, h⟩ := hd dx e; ⟨fs, s0 _ _ h⟩), hx, T.getc, T.kit i 7 hi (by decide), ?_⟩
    refine ⟨by show 4 ≤ sizeLine; decide, fun p1 n1 => ?_⟩
    have r1 := same_upd (o := .lst [.bl (decide (i = 4)), .bl (decide (i = 5)), .bl (decide (i = 6)), .bl (decide (i = 7))]) n1
    refine ⟨p0, p1, _, _, rfl, rfl, r1 _ _ upd_same, upd_same, (by show 4 + 4 ≤ sizeLine; decide), fun q1 m1 => ?_⟩
    have y1 := same_upd (o := .lst [.bl (decide (i = 0)), .bl (decide (i = 1)), .bl (decide (i = 2)), .bl (decide (i = 3)), .bl (decide (i = 4)), .bl (decide (i = 5)), .bl (decide (i = 6)), .bl (decide (i = 7))]) m1
    have s0' := s0.trans (r1.trans y1)
    replace s0 := s0'
    refine ⟨_, rfl, ?_⟩
    refine ⟨_, rfl, a, c i, d, .ref (c 8), .ref (c 8), _, rfl, .own _, s0 _ _ ea, (fun dx e => let ⟨fs, h⟩ := hd dx e; ⟨fs, s0 _ _ h⟩), hx, T.getc, T.kit i 8 hi (by decide), ?_⟩
    refine ⟨_, rfl, a, c i, d, .ref (c 9), .ref (c 9), _, rfl, .own _, s0 _ _ ea, (fun dx e => let ⟨fs, h⟩ := hd dx e; ⟨fs, s0 _ _ h⟩), hx, T.getc, T.kit i 9 hi (by decide), ?_⟩
    refine ⟨_, rfl, a, c i, d, .ref (c 10), .ref (c 10), _, rfl, .own _, s0 _ _ ea, (fun dx e => let ⟨fs, h⟩ := hd dx e; ⟨fs, s0 _ _ h⟩), hx, T.getc, T.kit i 10 hi (by decide), ?_⟩
    refine ⟨_, rfl, a, c i, d, .ref (c 11), .ref (c 11), _, rfl, .own _, s0 _ _ ea, (fun dx e => let ⟨fs, h⟩ := hd dx e; ⟨fs, s0 _ _ h⟩), hx, T.getc, T.kit i 11 hi (by decide), ?_⟩
    refine ⟨by show 4 ≤ sizeLine; decide, fun p2 n2 => ?_⟩
    have r2 := same_upd (o := .lst [.bl (decide (i = 8)), .bl (decide (i = 9)), .bl (decide (i = 10)), .bl (decide (i = 11))]) n2
    refine ⟨q1, p2, _, _, rfl, rfl, r2 _ _ upd_same, upd_same, (by show 8 + 4 ≤ sizeLine; decide), fun q2 m2 => ?_⟩
    have y2 := same_upd (o := .lst [.bl (decide (i = 0)), .bl (decide (i = 1)), .bl (decide (i = 2)), .bl (decide (i = 3)), .bl (decide (i = 4)), .bl (decide (i = 5)), .bl (decide (i = 6)), .bl (decide (i = 7)), .bl (decide (i = 8)), .bl (decide (i = 9)), .bl (decide (i = 10)), .bl (decide (i = 11))]) m2
    have s0' := s0.trans (r2.trans y2)
    replace s0 := s0'
    refine ⟨_, rfl, ?_⟩
    refine ⟨_, rfl, a, c i, d, .ref (c 12), .ref (c 12), _, rfl, .own _, s0 _ _ ea, (fun dx e => let ⟨fs, h⟩ := hd dx e; ⟨fs, s0 _ _ h⟩), hx, T.getc, T.kit i 12 hi (by decide), ?_⟩
    refine ⟨_, rfl, a, c i, d, .ref (c 13), .ref (c 13), _, rfl, .own _, s0 _ _ ea, (fun dx e => let ⟨fs, h⟩ := hd dx e; ⟨fs, s0 _ _ h⟩), hx, T.getc, T.kit i 13 hi (by decide), ?_⟩
    refine ⟨_, rfl, a, c i, d, .ref (c 14), .ref (c 14), _, rfl, .own _, s0 _ _ ea, (fun dx e => let ⟨fs, h⟩ := hd dx e; ⟨fs, s0 _ _ h⟩), hx, T.getc, T.kit i 14 hi (by decide), ?_⟩
    refine ⟨_, rfl, a, c i, d, .ref (c 15), .ref (c 15), _, rfl, .own _, s0 _ _ ea, (fun dx e => let ⟨fs, h⟩ := hd dx e; ⟨fs, s0 _ _ h⟩), hx, T.getc, T.kit i 15 hi (by decide), ?_⟩
    refine ⟨by show 4 ≤ sizeLine; decide, fun p3 n3 => ?_⟩
    have r3 := same_upd (o := .lst [.bl (decide (i = 12)), .bl (decide (i = 13)), .bl (decide (i = 14)), .bl (decide (i = 15))]) n3
    refine ⟨q2, p3, _, _, rfl, rfl, r3 _ _ upd_same, upd_same, (by show 12 + 4 ≤ sizeLine; decide), fun q3 m3 => ?_⟩
    have y3 := same_upd (o := .lst [.bl (decide (i = 0)), .bl (decide (i = 1)), .bl (decide (i = 2)), .bl (decide (i = 3)), .bl (decide (i = 4)), .bl (decide (i = 5)), .bl (decide (i = 6)), .bl (decide (i = 7)), .bl (decide (i = 8)), .bl (decide (i = 9)), .bl (decide (i = 10)), .bl (decide (i = 11)), .bl (decide (i = 12)), .bl (decide (i = 13)), .bl (decide (i = 14)), .bl (decide (i = 15))]) m3
    have s0' := s0.trans (r3.trans y3)
    replace s0 := s0'
    refine ⟨_, rfl, ?_⟩
    refine ⟨_, rfl, a, c i, d, .ref (c 16), .ref (c 16), _, rfl, .own _, s0 _ _ ea, (fun dx e => let ⟨fs, h⟩ := hd dx e; ⟨fs, s0 _ _ h⟩), hx, T.getc, T.kit i 16 hi (by decide), ?_⟩
    refine ⟨_, rfl, a, c i, d, .ref (c 17), .ref (c 17), _, rfl, .own _, s0 _ _ ea, (fun dx e => let ⟨fs, h⟩ := hd dx e; ⟨fs, s0 _ _ h⟩), hx, T.getc, T.kit i 17 hi (by decide), ?_⟩
    refine ⟨_, rfl, a, c i, d, .ref (c 18), .ref (c 18), _, rfl, .own _, s0 _ _ ea, (fun dx e => let ⟨fs, h⟩ := hd dx e; ⟨fs, s0 _ _ h⟩), hx, T.getc, T.kit i 18 hi (by decide), ?_⟩
    refine ⟨_, rfl, a, c i, d, .ref (c 19), .ref (c 19), _, rfl, .own _, s0 _ _ ea, (fun dx e => let ⟨fs, h⟩ := hd dx e; ⟨fs, s0 _ _ h⟩), hx, T.getc, T.kit i 19 hi (by decide), ?_⟩
    refine ⟨by show 4 ≤ sizeLine; decide, fun p4 n4 => ?_⟩
    have r4 := same_upd (o := .lst [.bl (decide (i = 16)), .bl (decide (i = 17)), .bl (decide (i = 18)), .bl (decide (i = 19))]) n4
    refine ⟨q3, p4, _, _, rfl, rfl, r4 _ _ upd_same, upd_same, (by show 16 + 4 ≤ sizeLine; decide), fun q4 m4 => ?_⟩
    have y4 := same_upd (o := .lst [.bl (decide (i = 0)), .bl (decide (i = 1)), .bl (decide (i = 2)), .bl (decide (i = 3)), .bl (decide (i = 4)), .bl (decide (i = 5)), .bl (decide (i = 6)), .bl (decide (i = 7)), .bl (decide (i = 8)), .bl (decide (i = 9)), .bl (decide (i = 10)), .bl (decide (i = 11)), .bl (decide (i = 12)), .bl (decide (i = 13)), .bl (decide (i = 14)), .bl (decide (i = 15)), .bl (decide (i = 16)), .bl (decide (i = 17)), .bl (decide (i = 18)), .bl (decide (i = 19))]) m4
    have s0' := s0.trans (r4.trans y4)
    replace s0 := s0'
    refine ⟨_, rfl, ?_⟩
    refine ⟨_, rfl, a, c i, d, .ref (c 20), .ref (c 20), _, rfl, .own _, s0 _ _ ea, (fun dx e => let ⟨fs, h⟩ := hd dx e; ⟨fs, s0 _ _ h⟩), hx, T.getc, T.kit i 20 hi (by decide), ?_⟩
    refine ⟨_, rfl, a, c i, d, .ref (c 21), .ref (c 21), _, rfl, .own _, s0 _ _ ea, (fun dx e => let ⟨fs, h⟩ := hd dx e; ⟨fs, s0 _ _ h⟩), hx, T.getc, T.kit i 21 hi (by decide), ?_⟩
    refine ⟨by show 2 ≤ sizeLine; decide, fun p5 n5 => ?_⟩
    have r5 := same_upd (o := .lst [.bl (decide (i = 20)), .bl (decide (i = 21))]) n5
    refine ⟨q4, p5, _, _, rfl, rfl, r5 _ _ upd_same, upd_same, (by show 20 + 2 ≤ sizeLine; decide), fun q5 m5 => ?_⟩
    have y5 := same_upd (o := .lst [.bl (decide (i = 0)), .bl (decide (i = 1)), .bl (decide (i = 2)), .bl (decide (i = 3)), .bl (decide (i = 4)), .bl (decide (i = 5)), .bl (decide (i = 6)), .bl (decide (i = 7)), .bl (decide (i = 8)), .bl (decide (i = 9)), .bl (decide (i = 10)), .bl (decide (i = 11)), .bl (decide (i = 12)), .bl (decide (i = 13)), .bl (decide (i = 14)), .bl (decide (i = 15)), .bl (decide (i = 16)), .bl (decide (i = 17)), .bl (decide (i = 18)), .bl (decide (i = 19)), .bl (decide (i = 20)), .bl (decide (i = 21))]) m5
    have s0' := s0.trans (r5.trans y5)
    exact q _ q5 s0' ((s0.trans r5).free m5) upd_same
def spFields (c : Nat → Addr) : Sp := fun vs H Q _ => ∃ (p : Addr) (x : V) (es ds : Nat → Addr), vs = [.ref p] ∧ Errs c H p x es ds ∧
  ∀ H' r, Same H H' → H r = none → H' r = some (.lst (List.replicate 15 x)) → Q (.ref r) H'
theorem ok_fields {f : Addr} {fd : FuncData} (F : Fun K "_law_fields" "_law_fields" sFields f fd) (T : Txt K mg c fi HE fdi) : FnOk P w K mg base CX0 1 f fd ["_law_some"] (spFields c) := by
  refine F.ok scFields (fun vs H Q E h => ?_) (fun cdv A outer s H vs Q E hr h => ?_)
  · obtain ⟨p, x, es, ds, rfl, _⟩ := h
    rfl
  · obtain ⟨p, x, es, ds, rfl, D, q⟩ := h
    have nd := scFields.nd
    refine ⟨_, pss_cons (ps_set (i := 1) nd rfl (Or.inl rfl) (pe_lst (pa_cons (pe_errF (pe_ix ix_list (pv 0) pe_int (fun _ _ => rfl))) (pa_cons (pe_errF (pe_ix ix_list (pv 0) pe_int (fun _ _ => rfl))) (pa_cons (pe_errF (pe_ix ix_list (pv 0) pe_int (fun _ _ => rfl))) (pa_cons (pe_errF (pe_ix ix_list (pv 0) pe_int (fun _ _ => rfl))) (pa_cons (pe_errF (pe_ix ix_list (pv 0) pe_int (fun _ _ => rfl))) (pa_cons (pe_errF (pe_ix ix_list (pv 0) pe_int (fun _ _ => rfl))) (pa_cons (pe_errF (pe_ix ix_list (pv 0) pe_int (fun _ _ => rfl))) pa_nil)))))))))
      (pss_cons (ps_set (i := 1) nd rfl (Or.inl rfl) (pe_op op_cat (pv 1) (pe_lst (pa_cons (pe_errF (pe_ix ix_list (pv 0) pe_int (fun _ _ => rfl))) (pa_cons (pe_errF (pe_ix ix_list (pv 0) pe_int (fun _ _ => rfl))) (pa_cons (pe_errF (pe_ix ix_list (pv 0) pe_int (fun _ _ => rfl))) (pa_cons (pe_errF (pe_ix ix_list (pv 0) pe_int (fun _ _ => rfl))) (pa_cons (pe_errF (pe_ix ix_list (pv 0) pe_int (fun _ _ => rfl))) (pa_cons (pe_errF (pe_ix ix_list (pv 0) pe_int (fun _ _ => rfl))) pa_nil)))))))))
      (pss_one (ps_ret (pe_op op_cat (pv 1) (pe_lst (pa_cons (pe_errF (pe_ix ix_list (pv 0) pe_int (fun _ _ => rfl))) (pa_cons (pe_errF (pe_ix ix_list (pv 0) pe_int (fun _ _ => rfl))) pa_nil))))))), ?_⟩
    have s0 : Same H H := Same.refl H
    refine ⟨_, rfl, p, _, _, .ref (es 0), rfl, rfl, SqL.of (s0 _ _ D.at_), at_of (j := 0) rfl rfl, es 0, c 0, ds 0, [(fld 0, x)], x, rfl, s0 _ _ (D.own 0 (by decide)).1, s0 _ _ (D.own 0 (by decide)).2, T.t0.e.xf, T.i0.no, by simp [fld], ?_⟩
    refine ⟨_, rfl, p, _, _, .ref (es 1), rfl, rfl, SqL.of (s0 _ _ D.at_), at_of (j := 1) rfl rfl, es 1, c 1, ds 1, [(fld 1, x)], x, rfl, s0 _ _ (D.own 1 (by decide)).1, s0 _ _ (D.own 1 (by decide)).2, T.t1.e.xf, T.i1.no, by simp [fld], ?_⟩
    refine ⟨_, rfl, p, _, _, .ref (es 2), rfl, rfl, SqL.of (s0 _ _ D.at_), at_of (j := 2) rfl rfl, es 2, c 2, ds 2, [(fld 2, x)], x, rfl, s0 _ _ (D.own 2 (by decide)).1, s0 _ _ (D.own 2 (by decide)).2, T.t2.e.xf, T.i2.no, by simp [fld], ?_⟩
    refine ⟨_, rfl, p, _, _, .ref (es 3), rfl, rfl, SqL.of (s0 _ _ D.at_), at_of (j := 3) rfl rfl, es 3, c 3, ds 3, [(fld 3, x)], x, rfl, s0 _ _ (D.own 3 (by decide)).1, s0 _ _ (D.own 3 (by decide)).2, T.t3.e.xf, T.i3.no, by simp [fld], ?_⟩
    refine ⟨_, rfl, p, _, _, .ref (es 4), rfl, rfl, SqL.of (s0 _ _ D.at_), at_of (j := 4) rfl rfl, es 4, c 4, ds 4, [(fld 4, x)], x, rfl, s0 _ _ (D.own 4 (by decide)).1, s0 _ _ (D.own 4 (by decide)).2, T.t4.e.xf, T.i4.no, by simp [fld], ?_⟩
    refine ⟨_, rfl, p, _, _, .ref (es 5), rfl, rfl, SqL.of (s0 _ _ D.at_), at_of (j := 5) rfl rfl, es 5, c 5, ds 5, [(fld 5, x)], x, rfl, s0 _ _ (D.own 5 (by decide)).1, s0 _ _ (D.own 5 (by decide)).2, T.t5.e.xf, T.i5.no, by simp [fld], ?_⟩
    refine ⟨_, rfl, p, _, _, .ref (es 6), rfl, rfl, SqL.of (s0 _ _ D.at_), at_of (j := 6) rfl rfl, es 6, c 6, ds 6, [(fld 6, x)], x, rfl, s0 _ _ (D.own 6 (by decide)).1, s0 _ _ (D.own 6 (by decide)).2, T.t6.e.xf, T.i6.no, by simp [fld], ?_⟩
    refine ⟨by show 7 ≤ sizeLine; decide, fun p0 n0 => ?_⟩
    have r0 := same_upd (o := .lst [x, x, x, x, x, x, x]) n0
    replace s0 := s0.trans r0
    refine ⟨_, rfl, ?_⟩
    refine ⟨_, rfl, p, _, _, .ref (es 7), rfl, rfl, SqL.of (s0 _ _ D.at_), at_of (j := 7) rfl rfl, es 7, c 7, ds 7, [(fld 7, x)], x, rfl, s0 _ _ (D.own 7 (by decide)).1, s0 _ _ (D.own 7 (by decide)).2, T.t7.e.xf, T.i7.no, by simp [fld], ?_⟩
    refine ⟨_, rfl, p, _, _, .ref (es 8), rfl, rfl, SqL.of (s0 _ _ D.at_), at_of (j := 8) rfl rfl, es 8, c 8, ds 8, [(fld 8, x)], x, rfl, s0 _ _ (D.own 8 (by decide)).1, s0 _ _ (D.own 8 (by decide)).2, T.t8.e.xf, T.i8.no, by simp [fld], ?_⟩
    refine ⟨_, rfl, p, _, _, .ref (es 9), rfl, rfl, SqL.of (s0 _ _ D.at_), at_of (j := 9) rfl rfl, es 9, c 9, ds 9, [(fld 9, x)], x, rfl, s0 _ _ (D.own 9 (by decide)).1, s0 _ _ (D.own 9 (by decide)).2, T.t9.e.xf, T.i9.no, by simp [fld], ?_⟩
    refine ⟨_, rfl, p, _, _, .ref (es 10), rfl, rfl, SqL.of (s0 _ _ D.at_), at_of (j := 10) rfl rfl, es 10, c 10, ds 10, [(fld 10, x)], x, rfl, s0 _ _ (D.own 10 (by decide)).1, s0 _ _ (D.own 10 (by decide)).2, T.t10.e.xf, T.i10.no, by simp [fld], ?_⟩
    refine ⟨_, rfl, p, _, _, .ref (es 11), rfl, rfl, SqL.of (s0 _ _ D.at_), at_of (j := 11) rfl rfl, es 11, c 11, ds 11, [(fld 11, x)], x, rfl, s0 _ _ (D.own 11 (by decide)).1, s0 _ _ (D.own 11 (by decide)).2, T.t11.e.xf, T.i11.no, by simp [fld], ?_⟩
    refine ⟨_, rfl, p, _, _, .ref (es 12), rfl, rfl, SqL.of (s0 _ _ D.at_), at_of (j := 12) rfl rfl, es 12, c 12, ds 12, [(fld 12, x)], x, rfl, s0 _ _ (D.own 12 (by decide)).1, s0 _ _ (D.own 12 (by decide)).2, T.t12.e.xf, T.i12.no, by simp [fld], ?_⟩
    refine ⟨by show 6 ≤ sizeLine; decide, fun p1 n1 => ?_⟩
    have r1 := same_upd (o := .lst [x, x, x, x, x, x]) n1
    refine ⟨p0, p1, _, _, rfl, rfl, r1 _ _ upd_same, upd_same, (by show 7 + 6 ≤ sizeLine; decide), fun q1 m1 => ?_⟩
    have y1 := same_upd (o := .lst [x, x, x, x, x, x, x, x, x, x, x, x, x]) m1
    have s0' := s0.trans (r1.trans y1)
    replace s0 := s0'
    refine ⟨_, rfl, ?_⟩
    refine ⟨_, rfl, p, _, _, .ref (es 13), rfl, rfl, SqL.of (s0 _ _ D.at_), at_of (j := 13) rfl rfl, es 13, c 13, ds 13, [(fld 13, x)], x, rfl, s0 _ _ (D.own 13 (by decide)).1, s0 _ _ (D.own 13 (by decide)).2, T.t13.e.xf, T.i13.no, by simp [fld], ?_⟩
    refine ⟨_, rfl, p, _, _, .ref (es 14), rfl, rfl, SqL.of (s0 _ _ D.at_), at_of (j := 14) rfl rfl, es 14, c 14, ds 14, [(fld 14, x)], x, rfl, s0 _ _ (D.own 14 (by decide)).1, s0 _ _ (D.own 14 (by decide)).2, T.t14.e.xf, T.i14.no, by simp [fld], ?_⟩
    refine ⟨by show 2 ≤ sizeLine; decide, fun p2 n2 => ?_⟩
    have r2 := same_upd (o := .lst [x, x]) n2
    refine ⟨q1, p2, _, _, rfl, rfl, r2 _ _ upd_same, upd_same, (by show 13 + 2 ≤ sizeLine; decide), fun q2 m2 => ?_⟩
    have y2 := same_upd (o := .lst [x, x, x, x, x, x, x, x, x, x, x, x, x, x, x]) m2
    have s0' := s0.trans (r2.trans y2)
    exact q _ q2 s0' ((s0.trans r2).free m2) upd_same
end
end HG

namespace HG
open PySem PySem.Spec PyProof.Rows L2
open C8 (pss_cut tCut)

section
variable {P : Program} {w : World} {K : PySem.W.Frag} {mg : Str → Option Value} {base : Heap} {c fi : Nat → Addr} {HE : Addr} {fdi : Nat → FuncData}
/-- what _law_value hands back: new if it may be changed -/
inductive XV (H H' : Hp) : V → Prop
  | lst (p : Addr) (xs : List V) (n : H p = none) (h : H' p = some (.lst xs)) (l : xs.length ≤ 5) : XV H H' (.ref p)
  | dct (p : Addr) (kvs : List (Key × V)) (n : H p = none) (h : H' p = some (.dK kvs)) (l : kvs.length ≤ 5) : XV H H' (.ref p)
  | tup (p : Addr) (xs : List V) (h : H' p = some (.tup xs)) : XV H H' (.ref p)
  | non : XV H H' .non
  | str (z : Str) : XV H H' (.str z)
  | bl (z : Bool) : XV H H' (.bl z)
  | int (z : Int) : XV H H' (.int z)
def spValue : Sp := fun vs H Q _ => ∃ (b k : Addr) (ns : List Int), vs = [.ref b] ∧ ABag H b k ns ∧ ∀ H' x, But b H H' → ABag H' b k ns → XV H H' x → Q x H'
theorem scValue : FnScope ["_law_bag_here", "_law_menu"] ["_law_bag_here"] (defScope sValue) := ⟨rfl, rfl, rfl, by decide +kernel, rfl, by decide +kernel, by decide +kernel⟩
theorem ABag.some {H : Hp} {b k : Addr} {ns : List Int} (B : ABag H b k ns) : (∃ o, H b = some o) ∧ ∃ o, H k = some o := by
  obtain ⟨a, c, n, B⟩ := B
  exact ⟨⟨_, B.at_⟩, ⟨_, B.cells⟩⟩
theorem ok_value {f fo ft : Addr} {fd fdo fdt : FuncData} (F : Fun K "_law_value" "_law_value" sValue f fd) (FO : Fun K "_law_one" "_law_one" sOne fo fdo) (FT : Fun K "_law_take" "_law_take" sTake ft fdt)
    (bO : Binds K fdo ["_law_bag_here", "_law_some"] []) (bT : Binds K fdt ["_law_bag_here", "_law_many"] []) (gO : mg "_law_one" = some (.ref fo)) (gT : mg "_law_take" = some (.ref ft)) (ml : mg "len" = none) (mi : mg "int" = none) :
    FnOk P w K mg base CX0 3 f fd ["_law_bag_here"] spValue := by
  refine F.ok scValue (fun vs H Q E h => ?_) (fun cdv A outer s H vs Q E hr h => ?_)
  · obtain ⟨b, k, ns, rfl, _⟩ := h
    rfl
  · obtain ⟨b, k, ns, rfl, B, q⟩ := h
    have nd := scValue.nd
    refine ⟨_, pss_cons (ps_set (i := 1) nd rfl (Or.inl rfl) (pe_lst (pa_cons pe_non (pa_cons pe_str (pa_cons (pe_tup (pa_cons pe_str (pa_cons pe_str pa_nil))) (pa_cons (pe_lst (pa_cons pe_int (pa_cons (pe_lst (pa_cons pe_int pa_nil)) pa_nil)))
        (pa_cons (pe_disp (pps_cons pe_str (pe_lst (pa_cons pe_int pa_nil)) pps_nil) (by rfl) (by rfl) (fun z => by cases z) (by decide)) (pa_cons pe_bl (pa_cons (pe_op op_pow pe_int pe_int) (pa_cons (pe_lst (pa_cons (pe_lst pa_nil) pa_nil)) (pa_cons (pe_tup pa_nil)
        (pa_cons pe_int (pa_cons pe_bl (pa_cons (pe_un un_neg pe_int) (pa_cons pe_str pa_nil)))))))))))))))
      (pss_one (ps_ret (pe_call (ok_one FO FT bT gT ml mi) hr (by rfl) gO FO.kp bO .nil pass0 (pa_cons (pv 0) (pa_cons (pv 1) pa_nil))))), ?_⟩
    refine ⟨by show 2 ≤ sizeLine; decide, fun t1 n1 => ?_⟩
    have u1 := same_upd (o := .tup [.str "a", .str "b"]) n1
    refine ⟨by show 1 ≤ sizeLine; decide, fun t2 n2 => ?_⟩
    have u2 := same_upd (o := .lst [.int 1]) n2
    refine ⟨by show 2 ≤ sizeLine; decide, fun t3 n3 => ?_⟩
    have u3 := same_upd (o := .lst [.int 0, .ref t2]) n3
    intro t4 n4
    refine ⟨by show 1 ≤ sizeLine; decide, fun t5 n5 => ?_⟩
    have u4 := same_upd (o := .dK []) n4
    have u5 := same_upd (o := .lst [.int 2]) n5
    refine ⟨u5 _ _ upd_same, [(.inr "a", .ref t5)], rfl, (by show 1 ≤ 15; decide), ?_⟩
    have e4 : Same (upd (upd (upd H t1 (.tup [.str "a", .str "b"])) t2 (.lst [.int 1])) t3 (.lst [.int 0, .ref t2])) (upd (upd (upd (upd (upd (upd H t1 (.tup [.str "a", .str "b"])) t2 (.lst [.int 1])) t3 (.lst [.int 0, .ref t2])) t4 (.dK [])) t5 (.lst [.int 2])) t4 (.dK (mergeK [] [(.inr "a", .ref t5)]))) := fun r o e => by
      rw [upd_ne (ne_of_none e n4)]
      exact u5 _ _ (u4 _ _ e)
    refine ⟨_, _, rfl, rfl, ⟨by decide, by decide, by decide⟩, ?_⟩
    refine ⟨by show 0 ≤ sizeLine; decide, fun t6 n6 => ?_⟩
    have u6 := same_upd (o := .lst []) n6
    refine ⟨by show 1 ≤ sizeLine; decide, fun t7 n7 => ?_⟩
    have u7 := same_upd (o := .lst [.ref t6]) n7
    refine ⟨by show 0 ≤ sizeLine; decide, fun t8 n8 => ?_⟩
    have u8 := same_upd (o := .tup []) n8
    refine ⟨_, rfl, by show 13 ≤ sizeLine; decide, fun t9 n9 => ?_⟩
    have v8 := same_upd (o := .lst [.non, .str "", .ref t1, .ref t3, .ref t4, .bl true, .int (10 ^ (39 : Int).toNat), .ref t7, .ref t8, .int 0, .bl false, .int (-1), .str "a"]) n9
    have v7 := u8.trans v8
    have v6 := u7.trans v7
    have v4 := u6.trans v6
    have v3 := e4.trans v4
    have v2 := u3.trans v3
    have v1 := u2.trans v2
    have v0 := u1.trans v1
    have f7 : H t7 = none := (u1.trans (u2.trans (u3.trans (e4.trans u6)))).free n7
    have f4 : H t4 = none := (u1.trans (u2.trans u3)).free n4
    have f3 : H t3 = none := (u1.trans u2).free n3
    have f9 : H t9 = none := (u1.trans (u2.trans (u3.trans (e4.trans (u6.trans (u7.trans u8)))))).free n9
    have f8 : H t8 = none := (u1.trans (u2.trans (u3.trans (e4.trans (u6.trans u7))))).free n8
    obtain ⟨⟨ob, hb⟩, _⟩ := B.some
    have nb : ∀ {p : Addr}, H p = none → p ≠ b := fun {p} n z => by
      rw [z, hb] at n
      cases n
    refine ⟨_, rfl, _, rfl, b, k, t9, ns, _, rfl, B.same v0, SqL.of upd_same, nb f9, (fun z => by cases z), (by show 13 < 1000; decide), fun H' x kb B' hx => ?_⟩
    have kb0 : But b H H' := (But.of v0).trans kb
    refine q H' x kb0 B' ?_
    have k1 := kb _ _ (v1 _ _ upd_same) (nb n1)
    have k3 := kb _ _ (v3 _ _ upd_same) (nb f3)
    have k4 := kb _ _ (v4 _ _ upd_same) (nb f4)
    have k7 := kb _ _ (v7 _ _ upd_same) (nb f7)
    have k8 := kb _ _ (v8 _ _ upd_same) (nb f8)
    simp only [List.mem_cons, List.not_mem_nil, or_false] at hx
    rcases hx with rfl | rfl | rfl | rfl | rfl | rfl | rfl | rfl | rfl | rfl | rfl | rfl | rfl
    · exact .non
    · exact .str _
    · exact .tup _ _ k1
    · exact .lst _ _ f3 k3 (by show 2 ≤ 5; decide)
    · exact .dct _ _ f4 k4 (by show 1 ≤ 5; decide)
    · exact .bl _
    · exact .int _
    · exact .lst _ _ f7 k7 (by show 1 ≤ 5; decide)
    · exact .tup _ _ k8
    · exact .int _
    · exact .bl _
    · exact .int _
    · exact .str _
/-! ### the law -/
/-- the drawn value, while a turn goes -/
inductive XS (H : Hp) (b k p : Addr) : V → Prop
  | lst (q : Addr) (xs : List V) (h : H q = some (.lst xs)) (nb : q ≠ b) (nk : q ≠ k) (np : q ≠ p) : XS H b k p (.ref q)
  | dct (q : Addr) (kvs : List (Key × V)) (h : H q = some (.dK kvs)) (l : kvs.length ≤ 9) (nb : q ≠ b) (nk : q ≠ k) (np : q ≠ p) : XS H b k p (.ref q)
  | tup (q : Addr) (xs : List V) (h : H q = some (.tup xs)) : XS H b k p (.ref q)
  | non : XS H b k p .non
  | str (z : Str) : XS H b k p (.str z)
  | bl (z : Bool) : XS H b k p (.bl z)
  | int (z : Int) : XS H b k p (.int z)
theorem XS.plain {H : Hp} {b k p : Addr} {x : V} (h : XS H b k p x) : plainV x = true := by cases h <;> rfl
theorem exo_lst {e C : Addr} {d : Option Addr} {xs : List V} : exo e C d ≠ .lst xs := fun z => by
  have z' : HO.ext _ = HO.lst xs := z
  cases z'
theorem exo_dK {e C : Addr} {d : Option Addr} {xs : List (Key × V)} : exo e C d ≠ .dK xs := fun z => by
  have z' : HO.ext _ = HO.dK xs := z
  cases z'
theorem exd_lst {e : Addr} {fs : List (Str × V)} {xs : List V} : exd e fs ≠ .lst xs := fun z => by
  have z' : HO.ext _ = HO.lst xs := z
  cases z'
theorem exd_dK {e : Addr} {fs : List (Str × V)} {xs : List (Key × V)} : exd e fs ≠ .dK xs := fun z => by
  have z' : HO.ext _ = HO.dK xs := z
  cases z'
theorem Errs.put {H : Hp} {p q : Addr} {x : V} {es ds : Nat → Addr} {o o' : HO} (E : Errs c H p x es ds) (h : H q = some o) (h1 : ∀ e C d, exo e C d ≠ o) (h2 : ∀ e fs, exd e fs ≠ o) (n : q ≠ p) : Errs c (upd H q o') p x es ds := by
  have keep : ∀ (r : Addr) (u : HO), H r = some u → u ≠ o → (upd H q o') r = some u := fun r u e z => by
    rw [upd_ne (ne_of e h z)]
    exact e
  exact ⟨by rw [upd_ne (Ne.symm n)]; exact E.at_, fun i hi => ⟨keep _ _ (E.own i hi).1 (h1 _ _ _), keep _ _ (E.own i hi).2 (h2 _ _)⟩, fun i h h' => keep _ _ (E.bare i h h') (h1 _ _ _)⟩
theorem ABag.put {H : Hp} {b k q : Addr} {ns : List Int} {o : HO} (B : ABag H b k ns) (nb : q ≠ b) (nk : q ≠ k) : ABag (upd H q o) b k ns := by
  obtain ⟨a, c, n, B⟩ := B
  exact ⟨a, c, n, by rw [upd_ne (Ne.symm nb)]; exact B.at_, by rw [upd_ne (Ne.symm nk)]; exact B.cells, B.n0, B.c0, B.c1⟩
def spLaw (K : PySem.W.Frag) : Sp := fun vs H Q _ => ∃ (a : Addr) (ns : List Int), vs = [.ref a] ∧ SqL K H a (ns.map V.int) ∧ ns.length ≤ 63 ∧ ∀ H', Q (.bl true) H'
theorem scL : FnScope ["_law_script", "_law_bag_here", "_law_turn", "_law_x", "_law_some", "_law_at", "_law_e", "_law_k"] ["_law_script"] (defScope sLaw) := ⟨rfl, rfl, rfl, by decide +kernel, rfl, by decide +kernel, by decide +kernel⟩
theorem kLL {K : PySem.W.Frag} : PySem.W.kitOne K (.type "list") (.type "list") = some true := kit_ty (by decide +kernel)
theorem kLD {K : PySem.W.Frag} : PySem.W.kitOne K (.type "list") (.type "dict") = some false := kit_ty (by decide +kernel)
theorem kDL {K : PySem.W.Frag} : PySem.W.kitOne K (.type "dict") (.type "list") = some false := kit_ty (by decide +kernel)
theorem kDD {K : PySem.W.Frag} : PySem.W.kitOne K (.type "dict") (.type "dict") = some true := kit_ty (by decide +kernel)
theorem kTL {K : PySem.W.Frag} : PySem.W.kitOne K (.type "tuple") (.type "list") = some false := kit_ty (by decide +kernel)
theorem kTD {K : PySem.W.Frag} : PySem.W.kitOne K (.type "tuple") (.type "dict") = some false := kit_ty (by decide +kernel)
theorem kNL {K : PySem.W.Frag} : PySem.W.kitOne K (.type "NoneType") (.type "list") = some false := kit_ty (by decide +kernel)
theorem kND {K : PySem.W.Frag} : PySem.W.kitOne K (.type "NoneType") (.type "dict") = some false := kit_ty (by decide +kernel)
theorem kSL {K : PySem.W.Frag} : PySem.W.kitOne K (.type "str") (.type "list") = some false := kit_ty (by decide +kernel)
theorem kSD {K : PySem.W.Frag} : PySem.W.kitOne K (.type "str") (.type "dict") = some false := kit_ty (by decide +kernel)
theorem kBL {K : PySem.W.Frag} : PySem.W.kitOne K (.type "bool") (.type "list") = some false := kit_ty (by decide +kernel)
theorem kBD {K : PySem.W.Frag} : PySem.W.kitOne K (.type "bool") (.type "dict") = some false := kit_ty (by decide +kernel)
theorem kIL {K : PySem.W.Frag} : PySem.W.kitOne K (.type "int") (.type "list") = some false := kit_ty (by decide +kernel)
theorem kID {K : PySem.W.Frag} : PySem.W.kitOne K (.type "int") (.type "dict") = some false := kit_ty (by decide +kernel)
/-- what isinstance says of such a value, unless it is a list | a dict -/
theorem XS.noL {H : Hp} {b k p : Addr} {x : V} (h : XS H b k p x) : (∃ q xs, x = .ref q ∧ H q = some (.lst xs) ∧ q ≠ b ∧ q ≠ k ∧ q ≠ p) ∨ ∃ t, TyX K H x t ∧ PySem.W.kitOne K t (.type "list") = some false := by
  cases h with
  | lst q xs h nb nk np => exact .inl ⟨q, xs, rfl, h, nb, nk, np⟩
  | dct q kvs h l nb nk np => exact .inr ⟨_, .base (.dK h), kDL⟩
  | tup q xs h => exact .inr ⟨_, .base (.tup h), kTL⟩
  | non => exact .inr ⟨_, .base .non, kNL⟩
  | str z => exact .inr ⟨_, .base (.str z), kSL⟩
  | bl z => exact .inr ⟨_, .base (.bl z), kBL⟩
  | int z => exact .inr ⟨_, .base (.int z), kIL⟩
theorem XS.noD {H : Hp} {b k p : Addr} {x : V} (h : XS H b k p x) : (∃ q kvs, x = .ref q ∧ H q = some (.dK kvs) ∧ kvs.length ≤ 9 ∧ q ≠ b ∧ q ≠ k ∧ q ≠ p) ∨ ∃ t, TyX K H x t ∧ PySem.W.kitOne K t (.type "dict") = some false := by
  cases h with
  | dct q kvs h l nb nk np => exact .inl ⟨q, kvs, rfl, h, l, nb, nk, np⟩
  | lst q kvs h nb nk np => exact .inr ⟨_, .base (.lst h), kLD⟩
  | tup q xs h => exact .inr ⟨_, .base (.tup h), kTD⟩
  | non => exact .inr ⟨_, .base .non, kND⟩
  | str z => exact .inr ⟨_, .base (.str z), kSD⟩
  | bl z => exact .inr ⟨_, .base (.bl z), kBD⟩
  | int z => exact .inr ⟨_, .base (.int z), kID⟩
theorem flat_rep (n : Nat) (x : V) : (List.replicate n [x]).flatten = List.replicate n x := by
  induction n with
  | zero => rfl
  | succ n ih => rw [List.replicate_succ, List.flatten_cons, ih]; rfl
theorem map_more {α : Type} (f : Nat → α) (n : Nat) : (List.range (n + 1)).map f = (List.range n).map f ++ [f n] := by
  rw [List.range_succ, List.map_append]
  rfl
theorem ok_law {f fb fe fv ff fg fo ft : Addr} {fd fdb fde fdv fdf fdg fdo fdt : FuncData} (F : Fun K "law" "law" sLaw f fd) (T : Txt K mg c fi HE fdi)
    (FB : Fun K "_law_bag" "_law_bag" sBag fb fdb) (FE : Fun K "_law_errors" "_law_errors" sErrors fe fde) (FV : Fun K "_law_value" "_law_value" sValue fv fdv) (FF : Fun K "_law_flags" "_law_flags" sFlags ff fdf) (FG : Fun K "_law_fields" "_law_fields" sFields fg fdg)
    (FO : Fun K "_law_one" "_law_one" sOne fo fdo) (FT : Fun K "_law_take" "_law_take" sTake ft fdt)
    (bB : Binds K fdb ["_law_script"] []) (bE : Binds K fde ["_law_x"] []) (bV : Binds K fdv ["_law_bag_here"] []) (bF : Binds K fdf ["_law_e"] []) (bG : Binds K fdg ["_law_some"] []) (bO : Binds K fdo ["_law_bag_here", "_law_some"] []) (bT : Binds K fdt ["_law_bag_here", "_law_many"] [])
    (gB : mg "_law_bag" = some (.ref fb)) (gE : mg "_law_errors" = some (.ref fe)) (gV : mg "_law_value" = some (.ref fv)) (gF : mg "_law_flags" = some (.ref ff)) (gG : mg "_law_fields" = some (.ref fg)) (gO : mg "_law_one" = some (.ref fo)) (gT : mg "_law_take" = some (.ref ft)) :
    FnOk P w K mg base CX0 4 f fd ["_law_script"] (spLaw K) := by
  refine F.ok scL (fun vs H Q E h => ?_) (fun cdv A outer s H vs Q E hr h => ?_)
  · obtain ⟨a, ns, rfl, _⟩ := h
    rfl
  · obtain ⟨a, ns, rfl, hS, hlen, q⟩ := h
    have nd := scL.nd
    have hr1 : Room 1 _ := hr.mono (by decide)
    have hu := hu_of hr
    have hu64 : _ + 64 < cLine := hr.units
    refine ⟨_, pss_cons (ps_set (i := 1) nd rfl (Or.inl rfl) (pe_call (ok_bag FB T.m_abs) hr1 (by rfl) gB FB.kp bB .nil pass0 (pa_cons (pv 0) pa_nil)))
      (pss_cons (ps_for PassesOwn.never rfl (pi_range1 rfl T.m_range (pa_cons pe_int pa_nil)) (pg_name (i := 2) nd rfl (Or.inl rfl))
        (pss_cons (ps_set (i := 3) nd rfl (Or.inl rfl) (pe_call (ok_value FV FO FT bO bT gO gT T.m_len T.m_int) hr (by rfl) gV FV.kp bV .nil pass0 (pa_cons (pv 1) pa_nil)))
        (pss_cons (ps_set (i := 4) nd rfl (Or.inl rfl) (pe_call (ok_errors FE T) hr (by rfl) gE FE.kp bE .nil pass0 (pa_cons (pv 3) pa_nil)))
        (pss_cut (ps_if (pt_val (pe_callB call_isi (by rfl) T.m_isinstance (by decide +kernel) (pa_cons (pv 3) (pa_cons (pe_bltn (v := .ty "list") (by rfl) T.m_list (by decide +kernel) rfl) pa_nil))))
          (pss_one (ps_expr (pe_bm PySem.F.plainAttrs_list PySem.F.slot_list_append PySem.F.type_list_append mt_append (pv 3) (pa_cons pe_str pa_nil)))) pss_nil)
        (pss_cut (ps_if (pt_val (pe_callB call_isi (by rfl) T.m_isinstance (by decide +kernel) (pa_cons (pv 3) (pa_cons (pe_bltn (v := .ty "dict") (by rfl) T.m_dict (by decide +kernel) rfl) pa_nil))))
          (pss_one (ps_dput hu (pv 3) pe_str pe_int rfl)) pss_nil)
        (pss_cons (ps_if (pt_cmpR (op_neSame hu64) (pe_call (ok_fields FG T) hr1 (by rfl) gG FG.kp bG .nil pass0 (pa_cons (pv 4) pa_nil)) (pe_op op_rep (pe_lst (pa_cons (pv 3) pa_nil)) pe_int) (nomark _)) (pss_one (ps_ret pe_bl)) pss_nil)
        (pss_one (ps_for PassesOwn.never rfl (pi_enum (by rfl) T.m_enumerate (pa_cons (pv 4) pa_nil)) (pg_tup rfl (pgs_cons (pg_name (i := 5) nd rfl (Or.inr rfl)) (pgs_cons (pg_name (i := 6) nd rfl (Or.inl rfl)) pgs_nil)))
          (pss_cons (ps_if (pt_cmpR (op_neSame hu64) (pe_call (ok_flags FF T) hr1 (by rfl) gF FF.kp bF .nil pass0 (pa_cons (pv 6) pa_nil))
              (pe_lc (own := [("_law_k", 7)]) (g := gName 7) (tt := tYes) rfl nd (pi_range1 rfl T.m_range (pa_cons pe_int pa_nil)) (blkOk_by (N := ["_law_script", "_law_bag_here", "_law_turn", "_law_x", "_law_some", "_law_at", "_law_e", "_law_k"]) (sc := defScope sLaw) (by decide +kernel)) (fun _ _ _ _ _ => pg_name (i := 7) nd rfl (Or.inl rfl)) (fun _ _ _ _ _ => pts_nil)
                (fun _ _ _ _ _ => pe_cmpR op_eq (pv 7) (pv 5) (nomark _))) (nomark _)) (pss_one (ps_ret pe_bl)) pss_nil)
          (pss_one (ps_if (PW.pt (pw_or (pt_not (pt_val (pe_callB call_isErr (by rfl) T.m_isinstance (by decide +kernel) (pa_cons (pv 6) (pa_cons (pe_glob (v := .ref HE) (by rfl) T.gHE rfl) pa_nil)))))
            (pw_or1 (pt_not (pt_val (pe_callB call_isErr (by rfl) T.m_isinstance (by decide +kernel) (pa_cons (pv 6) (pa_cons (pe_bltn (v := .ty "ValueError") (by rfl) T.m_ValueError (by decide +kernel) rfl) pa_nil)))))))) (pss_one (ps_ret pe_bl)) pss_nil)))))))))))
      (pss_one (ps_ret pe_bl))), ?_⟩
    -- the bag
    refine ⟨_, rfl, a, ns, rfl, hS, by omega, fun H1 b k ns' s1 B1 nb1 nk1 => ?_⟩
    refine ⟨8, rfl, by decide, by decide, for_range (n := 8) (fun i σ H2 => ∃ v2 v3 v4 v5 v6, σ = [some (.ref a), some (.ref b), v2, v3, v4, v5, v6, none] ∧ ABag H2 b k ns') ⟨none, none, none, none, none, rfl, B1⟩ ?_ ?_⟩
    · rintro i σ H2 _ ⟨v2, v3, v4, v5, v6, rfl, B2⟩
      -- x, some
      refine ⟨_, rfl, b, k, ns', rfl, B2, fun H3 x kb3 B3 hx => ?_⟩
      refine ⟨_, rfl, x, rfl, fun H4 p es ds s4 E4 np => ?_⟩
      have B4 := B3.same s4
      obtain ⟨⟨ob, hb⟩, ok, hk⟩ := B2.some
      have X4 : XS H4 b k p x := by
        have ne : ∀ {q : Addr} {o : HO}, H2 q = none → H3 q = some o → q ≠ b ∧ q ≠ k ∧ q ≠ p := fun {q o} n h => ⟨fun z => (by rw [z, hb] at n; cases n), fun z => (by rw [z, hk] at n; cases n), ne_of_none h np⟩
        cases hx with
        | lst q xs n h l => exact .lst q xs (s4 _ _ h) (ne n h).1 (ne n h).2.1 (ne n h).2.2
        | dct q xs n h l => exact .dct q xs (s4 _ _ h) (by omega) (ne n h).1 (ne n h).2.1 (ne n h).2.2
        | tup q xs h => exact .tup q xs (s4 _ _ h)
        | non => exact .non
        | str z => exact .str z
        | bl z => exact .bl z
        | int z => exact .int z
      have L4 : ∀ q xs, x = .ref q → H4 q = some (.lst xs) → xs.length ≤ 5 := fun q xs ex e => by
        cases hx with
        | lst q' xs' n h l =>
          cases ex
          have z := (s4 _ _ h).symm.trans e
          cases z
          exact l
        | dct q' xs' n h l =>
          cases ex
          have z := (s4 _ _ h).symm.trans e
          cases z
        | tup q' xs' h =>
          cases ex
          have z := (s4 _ _ h).symm.trans e
          cases z
        | non => cases ex
        | str z => cases ex
        | bl z => cases ex
        | int z => cases ex
      -- if isinstance(x, list)
      refine ⟨fun σ' H5 => σ' = [some (.ref a), some (.ref b), some (.int (0 + i)), some x, some (.ref p), v5, v6, none] ∧ ABag H5 b k ns' ∧ Errs c H5 p x es ds ∧ XS H5 b k p x, ?_, ?_⟩
      · rcases X4.noL (K := K) with ⟨qa, xs, rfl, h, nb, nk, np'⟩ | ⟨t, ty, kt⟩
        · have l := L4 qa xs rfl h
          refine ⟨_, rfl, _, .ty "list", _, _, true, rfl, .ty _, .base (.lst h), kLL, _, rfl, iteT ?_⟩
          refine ⟨_, rfl, .inl ⟨rfl, _, SqL.of h⟩, qa, xs, _, rfl, rfl, h, small1000 (by omega), ?_⟩
          exact ⟨rfl, B4.put nb nk, E4.put h (fun _ _ _ => exo_lst) (fun _ _ => exd_lst) np', .lst qa _ upd_same nb nk np'⟩
        · refine ⟨_, rfl, _, .ty "list", t, _, false, rfl, .ty _, ty, kt, _, rfl, iteF ?_⟩
          exact ⟨rfl, B4, E4, X4⟩
      rintro σ' H5 ⟨rfl, B5, E5, X5⟩
      refine ⟨fun σ' H5 => σ' = [some (.ref a), some (.ref b), some (.int (0 + i)), some x, some (.ref p), v5, v6, none] ∧ ABag H5 b k ns' ∧ Errs c H5 p x es ds, ?_, ?_⟩
      · rcases X5.noD (K := K) with ⟨qa, kvs, rfl, h, l, nb, nk, np'⟩ | ⟨t, ty, kt⟩
        · refine ⟨_, rfl, _, .ty "dict", _, _, true, rfl, .ty _, .base (.dK h), kDD, _, rfl, iteT ?_⟩
          refine ⟨_, rfl, qa, _, rfl, DPut.k (k := Sum.inr "more") h (small1000 (by omega)), ?_⟩
          exact ⟨rfl, B5.put nb nk, E5.put h (fun _ _ _ => exo_dK) (fun _ _ => exd_dK) np'⟩
        · refine ⟨_, rfl, _, .ty "dict", t, _, false, rfl, .ty _, ty, kt, _, rfl, iteF ?_⟩
          exact ⟨rfl, B5, E5⟩
      rintro σ' H6 ⟨rfl, B6, E6⟩
      -- the fields
      have hpl := X4.plain
      refine ⟨_, rfl, p, x, es, ds, rfl, E6, fun H7 r s7 n7 h7 => ?_⟩
      refine ⟨_, rfl, (by show 1 ≤ sizeLine; decide), fun l nl => ⟨l, 15, [x], rfl, rfl, upd_same, by decide, by decide, (by show 1 * 15 ≤ sizeLine; decide), fun r2 n2 => ?_⟩⟩
      have sl := same_upd (o := .lst [x]) nl
      have s2 := same_upd (o := .lst (List.replicate (15 : Int).toNat [x]).flatten) n2
      refine ⟨r, r2, List.replicate 15 x, rfl, rfl, SqL.of (s2 _ _ (sl _ _ h7)), SqL.of (by rw [upd_same, flat_rep]; rfl), (fun z hz => by rw [(List.mem_replicate.mp hz).2]; exact hpl), _, rfl, iteF ?_⟩
      have s8 := s7.trans (sl.trans s2)
      have B8 := B6.same s8
      have E8 := E6.same s8
      -- the flags
      refine ⟨_, rfl, p, _, rfl, SqL.of E8.at_, for_enum (K := K) (a := p) (xs := (List.range 22).map fun i => V.ref (es i)) (fun j σ H9 => ∃ v5 v6, σ = [some (.ref a), some (.ref b), some (.int (0 + i)), some x, some (.ref p), v5, v6, none] ∧ ABag H9 b k ns' ∧ Errs c H9 p x es ds)
        ⟨v5, v6, rfl, B8, E8⟩ (fun j σ H9 ⟨_, _, _, _, E9⟩ => SqL.of E9.at_) ?_ ?_⟩
      · rintro j y t σ H9 hj ⟨v5, v6, rfl, B9, E9⟩ nt
        obtain ⟨hj22, rfl⟩ : j < 22 ∧ y = V.ref (es j) := by
          obtain ⟨h1, h2⟩ := List.getElem?_eq_some_iff.mp hj
          rw [List.length_map, List.length_range] at h1
          refine ⟨h1, ?_⟩
          rw [← h2]
          simp
        have st := same_upd (o := .tup [.int (j : Nat), .ref (es j)]) nt
        have B10 := B9.same st
        have E10 := E9.same st
        refine ⟨t, _, rfl, SqT.of upd_same, rfl, _, _, rfl, _, _, rfl, rfl, ?_⟩
        obtain ⟨d, hd, hd2⟩ : ∃ d, (upd H9 t (.tup [.int (j : Nat), .ref (es j)])) (es j) = some (exo (es j) (c j) d) ∧ ∀ dx, d = some dx → ∃ fs, (upd H9 t (.tup [.int (j : Nat), .ref (es j)])) dx = some (exd dx fs) := by
          by_cases h15 : j < 15
          · exact ⟨some (ds j), (E10.own j h15).1, fun dx e => by cases e; exact ⟨_, (E10.own j h15).2⟩⟩
          · exact ⟨none, E10.bare j (by omega) hj22, fun dx e => nomatch e⟩
        refine ⟨_, rfl, es j, j, d, rfl, hj22, hd, hd2, fun H11 r s11 n11 h11 => ?_⟩
        refine ⟨22, rfl, by decide, by decide, fun D nD => ?_⟩
        refine lc_range (lo := 0) (n := 22) (fun m H12 => H12 D = some (.lst ((List.range m).map fun z => V.bl (decide (j = z)))) ∧ Same H11 H12) ⟨upd_same, same_upd nD⟩ ?_ ?_
        · rintro m H12 hm ⟨hD, s12⟩
          refine ⟨rfl, _, rfl, _, rfl, rfl, _, hD, small1000 (by rw [List.length_map, List.length_range]; omega), ?_, fun q o e => ?_⟩
          · rw [upd_same, map_more]
            have e : decide (V.int (0 + (m : Int)) = V.int (j : Int)) = decide (j = m) := by
              rw [Bool.eq_iff_iff, decide_eq_true_iff, decide_eq_true_iff]
              constructor
              · intro z
                have z2 := V.int.inj z
                omega
              · intro z
                rw [z, Int.zero_add]
            rw [e]
          · rw [upd_ne (ne_of_none e nD)]
            exact s12 _ _ e
        · rintro H12 ⟨hD, s12⟩
          refine ⟨r, D, _, rfl, rfl, SqL.of (s12 _ _ h11), SqL.of hD, (fun z hz => by
            obtain ⟨_, _, rfl⟩ := List.mem_map.mp hz
            rfl), _, rfl, iteF ?_⟩
          have s13 := s11.trans s12
          have hx2 := T.ec j hj22
          refine ⟨_, rfl, es j, c j, d, .ref HE, .ref HE, true, rfl, .own _, s13 _ _ hd, (fun dx e => let ⟨fs, h⟩ := hd2 dx e; ⟨fs, s13 _ _ h⟩), hx2, T.getc, T.kHE j hj22, _, rfl, iteF ?_⟩
          refine ⟨_, rfl, es j, c j, d, .ty "ValueError", .type "ValueError", true, rfl, .ty _, s13 _ _ hd, (fun dx e => let ⟨fs, h⟩ := hd2 dx e; ⟨fs, s13 _ _ h⟩), hx2, T.getc, T.kVE j hj22, _, rfl, iteF ?_⟩
          exact ⟨_, _, rfl, B10.same s13, E10.same s13⟩
      · rintro σ H9 ⟨v5, v6, rfl, B9, E9⟩
        exact ⟨_, _, _, _, _, rfl, B9⟩
    · rintro σ H2 ⟨v2, v3, v4, v5, v6, rfl, B2⟩
      exact q _
end

end HG

namespace HG
open PySem PySem.Spec PyProof.Rows L2
open C8 (pss_cut tCut)

/-! ### what the top has written -/
theorem getD_get {α : Type} {l : List α} {i : Nat} {d : α} (h : i < l.length) : l.getD i d = l[i] := by simp [List.getD, List.getElem?_eq_getElem h]
abbrev VE4 : List Value := [.type "ValueError", .type "Exception", .type "BaseException", .type "object"]
/-- the class nm at C, under HE -/
structure CF (K : PySem.W.Frag) (nm : Str) (C HE : Addr) : Prop where
  ns : PySem.W.nsIn K mainGlobals nm = some (some (.ref C))
  lk : ∃ nm' q N bs sn sub ab col dd k0 k1 k2 k3 k5, K.lookup C = some (excClassObj nm' q C N bs (.ref HE :: VE4) true sn sub ab col dd k0 k1 k2 k3 k5 "ValueError.__new__")
  kC : PySem.W.keepIn K (.ref C) = true
  sa : PySem.W.findIn K (.ref C) "__setattr__" = some (some (.builtin "object.__setattr__"))
  ga : PySem.W.findIn K (.ref C) "__getattribute__" = some (some (.builtin "BaseException.__getattribute__"))
  gg : PySem.W.findIn K (.ref C) "__getattr__" = some none
  cl : PySem.W.findIn K (.ref C) "__class__" = some (some (.builtin "object.__class__"))
theorem CF.mk' {K : PySem.W.Frag} {nm nm' q : Str} {C HE N : Addr} {bs : List Value} {sn : List Str} {sub : List Value} {ab : Bool} {col : Option Bool} {dd : Option Addr} {k0 k1 k2 k3 k5 : Option Value}
    (ns : PySem.W.nsIn K mainGlobals nm = some (some (.ref C))) (lk : K.lookup C = some (excClassObj nm' q C N bs (.ref HE :: VE4) true sn sub ab col dd k0 k1 k2 k3 k5 "ValueError.__new__"))
    (kC : PySem.W.keepIn K (.ref C) = true) (sa : PySem.W.findIn K (.ref C) "__setattr__" = some (some (.builtin "object.__setattr__"))) (ga : PySem.W.findIn K (.ref C) "__getattribute__" = some (some (.builtin "BaseException.__getattribute__")))
    (gg : PySem.W.findIn K (.ref C) "__getattr__" = some none) (cl : PySem.W.findIn K (.ref C) "__class__" = some (some (.builtin "object.__class__"))) : CF K nm C HE := ⟨ns, ⟨_, _, _, _, _, _, _, _, _, _, _, _, _, _, lk⟩, kC, sa, ga, gg, cl⟩
section
variable {K : PySem.W.Frag} {nm : Str} {C D HE : Addr}
theorem CF.cls (F : CF K nm C HE) : ∃ cd, PySem.W.clsIn K C = some cd ∧ cd.mro = .ref C :: .ref HE :: VE4 ∧ cd.hasDict = true := by
  obtain ⟨nm', q, N, bs, sn, sub, ab, col, dd, k0, k1, k2, k3, k5, l⟩ := F.lk
  refine ⟨{ name := nm', bases := bs, mro := .ref C :: .ref HE :: VE4, ns := N, qualname := q, hasDict := true, slotNames := sn, subclasses := sub, abstract := ab, collection := col, hasDel := false }, ?_, rfl, rfl⟩
  unfold PySem.W.clsIn
  rw [l] <;> rfl
theorem CF.typ (F : CF K nm C HE) : PySem.W.typeIn K (.ref C) = some (.type "type") := by
  obtain ⟨nm', q, N, bs, sn, sub, ab, col, dd, k0, k1, k2, k3, k5, l⟩ := F.lk
  show (K.lookup C).map (·.cls) = _
  rw [l]
  rfl
theorem CF.mro (F : CF K nm C HE) (b : Value) : PySem.W.mroIn K C b = some ((Value.ref C :: Value.ref HE :: VE4).contains b) := by
  obtain ⟨cd, h, m, _⟩ := F.cls
  unfold PySem.W.mroIn
  rw [h]
  show (if cd.mro.isEmpty = true then none else some (cd.mro.contains b)) = _
  rw [m]
  rfl
theorem CF.xf (F : CF K nm C HE) : XfC K C where
  ga := F.ga
  gg := F.gg
  exC := by
    show PySem.W.mroIn K C (.type "BaseException") = some true
    rw [F.mro]
    exact congrArg some (by simp [VE4])
  hdC := by
    obtain ⟨cd, h, _, hd⟩ := F.cls
    unfold PySem.W.hasDictIn
    rw [h]
    exact hd
theorem CF.err (F : CF K nm C HE) : ErrC K C where
  xf := F.xf
  cl := by
    obtain ⟨cd, h, _⟩ := F.cls
    rw [h]
    rfl
  ha := F.cl
  hm := by
    rw [F.mro]
    exact congrArg some (by simp [VE4])
theorem CF.oex (F : CF K nm C HE) : OexC K C where
  cls := by
    obtain ⟨nm', q, N, bs, sn, sub, ab, col, dd, k0, k1, k2, k3, k5, l⟩ := F.lk
    exact ⟨nm', q, N, bs, _, sn, sub, ab, col, dd, k0, k1, k2, k3, k5, l, by rfl⟩
  sa := F.sa
  exC := F.xf.exC
  tyC := F.typ
  kC := F.kC
theorem CF.kit (F : CF K nm C HE) {nm2 : Str} (G : CF K nm2 D HE) (hD : D ≠ HE) : PySem.W.kitOne K (.ref C) (.ref D) = some (decide (C = D)) := by
  unfold PySem.W.kitOne
  by_cases h : C = D
  · subst h
    rw [if_pos (beq_self_eq_true _), decide_eq_true rfl]
  · rw [if_neg (by simpa using h), decide_eq_false h]
    have e2 : ((PySem.W.clsIn K D).isSome && PySem.W.typeIn K (.ref D) == some (.type "type")) = true := by
      rw [G.err.cl, G.typ]
      rfl
    show (if ((PySem.W.clsIn K D).isSome && PySem.W.typeIn K (.ref D) == some (.type "type")) = true then PySem.W.subIn K (.ref C) (.ref D) else none) = _
    rw [if_pos e2]
    show PySem.W.mroIn K C (.ref D) = _
    rw [F.mro]
    have h1 : ¬ D = C := fun z => h z.symm
    exact congrArg some (by simp [VE4, h1, hD])
theorem CF.kitH (F : CF K nm C HE) (c1 : (PySem.W.clsIn K HE).isSome = true) (t1 : PySem.W.typeIn K (.ref HE) = some (.type "type")) : PySem.W.kitOne K (.ref C) (.ref HE) = some true := by
  unfold PySem.W.kitOne
  by_cases h : C = HE
  · subst h
    rw [if_pos (beq_self_eq_true _)]
  · rw [if_neg (by simpa using h)]
    have e2 : ((PySem.W.clsIn K HE).isSome && PySem.W.typeIn K (.ref HE) == some (.type "type")) = true := by
      rw [c1, t1]
      rfl
    show (if ((PySem.W.clsIn K HE).isSome && PySem.W.typeIn K (.ref HE) == some (.type "type")) = true then PySem.W.subIn K (.ref C) (.ref HE) else none) = _
    rw [if_pos e2]
    show PySem.W.mroIn K C (.ref HE) = _
    rw [F.mro]
    exact congrArg some (by simp [VE4])
theorem CF.kitV (F : CF K nm C HE) : PySem.W.kitOne K (.ref C) (.type "ValueError") = some true := by
  unfold PySem.W.kitOne
  rw [if_neg (by simp)]
  show (if PySem.W.kitMeta "ValueError" = true then PySem.W.subIn K (.ref C) (.type "ValueError") else none) = _
  rw [if_pos (by decide +kernel)]
  show PySem.W.mroIn K C (.type "ValueError") = _
  rw [F.mro]
  exact congrArg some (by simp [VE4])
end
/-- an __init__ of such a class -/
structure IF (K : PySem.W.Frag) (f qual : Str) (st : Stmt) (C fI : Addr) (fd : FuncData) : Prop where
  iC : PySem.W.findIn K (.ref C) "__init__" = some (some (.ref fI))
  tI : PySem.W.typeIn K (.ref fI) = some (.type "function")
  no : PySem.W.findIn K (.ref C) f = some none
  F : Fun K "__init__" qual st fI fd
theorem IF.mk' {K : PySem.W.Frag} {f qual : Str} {st : Stmt} {C fI : Addr} {od an : Option Addr} {sl : Array (Option Value)} {oc kV dc pm cd ct : Value} (iC : PySem.W.findIn K (.ref C) "__init__" = some (some (.ref fI))) (tI : PySem.W.typeIn K (.ref fI) = some (.type "function"))
    (no : PySem.W.findIn K (.ref C) f = some none) (l : K.lookup fI = some ⟨oc, od, .func (PySem.W.fnOf "__init__" qual (defArgs st) (defBody st) (defScope st) .none kV dc pm an cd ct), sl⟩) (c : PySem.W.codeIn K cd qual = true) (k : PySem.W.keepIn K (.ref fI) = true) :
    IF K f qual st C fI (PySem.W.fnOf "__init__" qual (defArgs st) (defBody st) (defScope st) .none kV dc pm an cd ct) := ⟨iC, tI, no, fun_mk l c k⟩
/-- a def of the top -/
structure DF (K : PySem.W.Frag) (x : Str) (st : Stmt) (f : Addr) (fd : FuncData) : Prop where
  ns : PySem.W.nsIn K mainGlobals x = some (some (.ref f))
  F : Fun K x x st f fd
theorem DF.mk' {K : PySem.W.Frag} {x : Str} {st : Stmt} {f : Addr} {od an : Option Addr} {sl : Array (Option Value)} {oc kV dc pm cd ct : Value} (ns : PySem.W.nsIn K mainGlobals x = some (some (.ref f)))
    (l : K.lookup f = some ⟨oc, od, .func (PySem.W.fnOf x x (defArgs st) (defBody st) (defScope st) .none kV dc pm an cd ct), sl⟩) (c : PySem.W.codeIn K cd x = true) (k : PySem.W.keepIn K (.ref f) = true) :
    DF K x st f (PySem.W.fnOf x x (defArgs st) (defBody st) (defScope st) .none kV dc pm an cd ct) := ⟨ns, fun_mk l c k⟩

theorem all_mk {l : PySem.W.OpenLaw} {w : World} {K : PySem.W.Frag} {h : Heap} {mg : Str → Option Value} {fa HE C0 C1 C2 C3 C4 C5 C6 C7 C8 C9 C10 C11 C12 C13 C14 C15 C16 C17 C18 C19 C20 C21 g0 g1 g2 g3 g4 g5 g6 g7 g8 g9 g10 g11 g12 g13 g14 h0 h1 h2 h3 h4 h5 h6 h7 : Addr} {fd0 fd1 fd2 fd3 fd4 fd5 fd6 fd7 fd8 fd9 fd10 fd11 fd12 fd13 fd14 hd0 hd1 hd2 hd3 hd4 hd5 hd6 hd7 : FuncData} (X : K.In h) (G : h.Ns mainGlobals mg) (hfa : mg "law" = some (.ref fa))
    (nHE : PySem.W.nsIn K mainGlobals "HeightError" = some (some (.ref HE))) (cHE : PySem.W.isClsIn K HE = true) (tHE : PySem.W.typeIn K (.ref HE) = some (.type "type"))
    (hn : PySem.W.specialIn K (.builtin "object.__class__") "__get__" = some (some (.builtin "getset_descriptor.__get__"))) (ht : PySem.W.takesIn K (.builtin "object.__class__") = some true)
    (c0 : CF K "Wrong" C0 HE)
    (c1 : CF K "NoChooser" C1 HE)
    (c2 : CF K "NoWay" C2 HE)
    (c3 : CF K "NoStanding" C3 HE)
    (c4 : CF K "NoChange" C4 HE)
    (c5 : CF K "NoLine" C5 HE)
    (c6 : CF K "NoStep" C6 HE)
    (c7 : CF K "NoSquare" C7 HE)
    (c8 : CF K "NoRing" C8 HE)
    (c9 : CF K "NoRoad" C9 HE)
    (c10 : CF K "NoPair" C10 HE)
    (c11 : CF K "NoOrder" C11 HE)
    (c12 : CF K "Untold" C12 HE)
    (c13 : CF K "Clash" C13 HE)
    (c14 : CF K "Full" C14 HE)
    (c15 : CF K "Unlike" C15 HE)
    (c16 : CF K "NoHeight" C16 HE)
    (c17 : CF K "NoTies" C17 HE)
    (c18 : CF K "TooWide" C18 HE)
    (c19 : CF K "Nothing" C19 HE)
    (c20 : CF K "NoText" C20 HE)
    (c21 : CF K "NoCommand" C21 HE)
    (i0 : IF K "place" "Wrong.__init__" (inClass (topS 2) 0) C0 g0 fd0)
    (i1 : IF K "name" "NoChooser.__init__" (inClass (topS 3) 0) C1 g1 fd1)
    (i2 : IF K "name" "NoWay.__init__" (inClass (topS 4) 0) C2 g2 fd2)
    (i3 : IF K "standing" "NoStanding.__init__" (inClass (topS 5) 0) C3 g3 fd3)
    (i4 : IF K "change" "NoChange.__init__" (inClass (topS 6) 0) C4 g4 fd4)
    (i5 : IF K "line" "NoLine.__init__" (inClass (topS 7) 0) C5 g5 fd5)
    (i6 : IF K "index" "NoStep.__init__" (inClass (topS 8) 0) C6 g6 fd6)
    (i7 : IF K "square" "NoSquare.__init__" (inClass (topS 10) 0) C7 g7 fd7)
    (i8 : IF K "ring" "NoRing.__init__" (inClass (topS 11) 0) C8 g8 fd8)
    (i9 : IF K "name" "NoRoad.__init__" (inClass (topS 13) 0) C9 g9 fd9)
    (i10 : IF K "pair" "NoPair.__init__" (inClass (topS 14) 0) C10 g10 fd10)
    (i11 : IF K "order" "NoOrder.__init__" (inClass (topS 16) 0) C11 g11 fd11)
    (i12 : IF K "line" "Untold.__init__" (inClass (topS 17) 0) C12 g12 fd12)
    (i13 : IF K "name" "Clash.__init__" (inClass (topS 18) 0) C13 g13 fd13)
    (i14 : IF K "limit" "Full.__init__" (inClass (topS 22) 0) C14 g14 fd14)
    (x15 : PySem.W.excIn K C15 VE4 "ValueError.__new__" = true)
    (x16 : PySem.W.excIn K C16 VE4 "ValueError.__new__" = true)
    (x17 : PySem.W.excIn K C17 VE4 "ValueError.__new__" = true)
    (x18 : PySem.W.excIn K C18 VE4 "ValueError.__new__" = true)
    (x19 : PySem.W.excIn K C19 VE4 "ValueError.__new__" = true)
    (x20 : PySem.W.excIn K C20 VE4 "ValueError.__new__" = true)
    (x21 : PySem.W.excIn K C21 VE4 "ValueError.__new__" = true)
    (d0 : DF K "_law_bag" sBag h0 hd0)
    (d1 : DF K "_law_take" sTake h1 hd1)
    (d2 : DF K "_law_one" sOne h2 hd2)
    (d3 : DF K "_law_value" sValue h3 hd3)
    (d4 : DF K "_law_errors" sErrors h4 hd4)
    (d5 : DF K "_law_flags" sFlags h5 hd5)
    (d6 : DF K "_law_fields" sFields h6 hd6)
    (d7 : DF K "law" sLaw h7 hd7)
    (nd : ([HE, C0, C1, C2, C3, C4, C5, C6, C7, C8, C9, C10, C11, C12, C13, C14, C15, C16, C17, C18, C19, C20, C21] : List Addr).Nodup)
    (m_len : PySem.W.nsIn K mainGlobals "len" = some none)
    (m_int : PySem.W.nsIn K mainGlobals "int" = some none)
    (m_abs : PySem.W.nsIn K mainGlobals "abs" = some none)
    (m_range : PySem.W.nsIn K mainGlobals "range" = some none)
    (m_isinstance : PySem.W.nsIn K mainGlobals "isinstance" = some none)
    (m_list : PySem.W.nsIn K mainGlobals "list" = some none)
    (m_dict : PySem.W.nsIn K mainGlobals "dict" = some none)
    (m_enumerate : PySem.W.nsIn K mainGlobals "enumerate" = some none)
    (m_ValueError : PySem.W.nsIn K mainGlobals "ValueError" = some none) :
    ∃ fd : FuncData, (∀ (s : Shared) (v : Value), BindsTo s fd ⟨[v], []⟩ [("_law_script", v)]) ∧ ∀ base : Heap, K.In base → base.Ns mainGlobals mg → FnOk l.prog w K mg base CX0 4 fa fd ["_law_script"] (spLaw K) := by
  have e := hfa.symm.trans (PySem.W.mg_of X G d7.ns)
  cases e
  have hc : ∀ i, i < 22 → ∃ nm, CF K nm (([C0, C1, C2, C3, C4, C5, C6, C7, C8, C9, C10, C11, C12, C13, C14, C15, C16, C17, C18, C19, C20, C21] : List Addr).getD i 0) HE := by
    intro i hi
    by_cases h15 : i < 15
    · exact all15 (P := fun i => ∃ nm, CF K nm (([C0, C1, C2, C3, C4, C5, C6, C7, C8, C9, C10, C11, C12, C13, C14, C15, C16, C17, C18, C19, C20, C21] : List Addr).getD i 0) HE) ⟨_, c0⟩ ⟨_, c1⟩ ⟨_, c2⟩ ⟨_, c3⟩ ⟨_, c4⟩ ⟨_, c5⟩ ⟨_, c6⟩ ⟨_, c7⟩ ⟨_, c8⟩ ⟨_, c9⟩ ⟨_, c10⟩ ⟨_, c11⟩ ⟨_, c12⟩ ⟨_, c13⟩ ⟨_, c14⟩ i h15
    · exact all7 (P := fun i => ∃ nm, CF K nm (([C0, C1, C2, C3, C4, C5, C6, C7, C8, C9, C10, C11, C12, C13, C14, C15, C16, C17, C18, C19, C20, C21] : List Addr).getD i 0) HE) ⟨_, c15⟩ ⟨_, c16⟩ ⟨_, c17⟩ ⟨_, c18⟩ ⟨_, c19⟩ ⟨_, c20⟩ ⟨_, c21⟩ i (by omega) hi
  have hne : ∀ i, i < 22 → (([C0, C1, C2, C3, C4, C5, C6, C7, C8, C9, C10, C11, C12, C13, C14, C15, C16, C17, C18, C19, C20, C21] : List Addr).getD i 0) ≠ HE := by
    intro i hi z
    obtain ⟨h1, _⟩ := List.nodup_cons.mp nd
    refine h1 ?_
    rw [← z, getD_get (by show i < 22; exact hi)]
    exact List.getElem_mem _
  have hinj : ∀ i j, i < 22 → j < 22 → ((([C0, C1, C2, C3, C4, C5, C6, C7, C8, C9, C10, C11, C12, C13, C14, C15, C16, C17, C18, C19, C20, C21] : List Addr).getD i 0) = (([C0, C1, C2, C3, C4, C5, C6, C7, C8, C9, C10, C11, C12, C13, C14, C15, C16, C17, C18, C19, C20, C21] : List Addr).getD j 0) ↔ i = j) := by
    intro i j hi hj
    obtain ⟨_, h2⟩ := List.nodup_cons.mp nd
    rw [getD_get (by show i < 22; exact hi), getD_get (by show j < 22; exact hj)]
    exact List.getElem_inj h2
  have T : Txt K mg (fun i => ([C0, C1, C2, C3, C4, C5, C6, C7, C8, C9, C10, C11, C12, C13, C14, C15, C16, C17, C18, C19, C20, C21] : List Addr).getD i 0) (fun i => ([g0, g1, g2, g3, g4, g5, g6, g7, g8, g9, g10, g11, g12, g13, g14] : List Addr).getD i 0) HE (fun i => ([fd0, fd1, fd2, fd3, fd4, fd5, fd6, fd7, fd8, fd9, fd10, fd11, fd12, fd13, fd14] : List FuncData).getD i fd0) := {
    getc := ⟨hn, ht⟩
    gHE := PySem.W.mg_of X G nHE
    kit := fun i j hi hj => by
      obtain ⟨n1, F1⟩ := hc i hi
      obtain ⟨n2, F2⟩ := hc j hj
      refine (F1.kit F2 (hne j hj)).trans (congrArg some ?_)
      rw [Bool.eq_iff_iff, decide_eq_true_iff, decide_eq_true_iff]
      exact hinj i j hi hj
    kHE := fun i hi => by
      obtain ⟨n1, F1⟩ := hc i hi
      exact F1.kitH cHE tHE
    kVE := fun i hi => by
      obtain ⟨n1, F1⟩ := hc i hi
      exact F1.kitV
    ec := fun i hi => by
      obtain ⟨n1, F1⟩ := hc i hi
      exact F1.err
    t0 := ⟨PySem.W.mg_of X G c0.ns, c0.kC, c0.err⟩
    t1 := ⟨PySem.W.mg_of X G c1.ns, c1.kC, c1.err⟩
    t2 := ⟨PySem.W.mg_of X G c2.ns, c2.kC, c2.err⟩
    t3 := ⟨PySem.W.mg_of X G c3.ns, c3.kC, c3.err⟩
    t4 := ⟨PySem.W.mg_of X G c4.ns, c4.kC, c4.err⟩
    t5 := ⟨PySem.W.mg_of X G c5.ns, c5.kC, c5.err⟩
    t6 := ⟨PySem.W.mg_of X G c6.ns, c6.kC, c6.err⟩
    t7 := ⟨PySem.W.mg_of X G c7.ns, c7.kC, c7.err⟩
    t8 := ⟨PySem.W.mg_of X G c8.ns, c8.kC, c8.err⟩
    t9 := ⟨PySem.W.mg_of X G c9.ns, c9.kC, c9.err⟩
    t10 := ⟨PySem.W.mg_of X G c10.ns, c10.kC, c10.err⟩
    t11 := ⟨PySem.W.mg_of X G c11.ns, c11.kC, c11.err⟩
    t12 := ⟨PySem.W.mg_of X G c12.ns, c12.kC, c12.err⟩
    t13 := ⟨PySem.W.mg_of X G c13.ns, c13.kC, c13.err⟩
    t14 := ⟨PySem.W.mg_of X G c14.ns, c14.kC, c14.err⟩
    t15 := ⟨PySem.W.mg_of X G c15.ns, c15.kC, c15.err⟩
    t16 := ⟨PySem.W.mg_of X G c16.ns, c16.kC, c16.err⟩
    t17 := ⟨PySem.W.mg_of X G c17.ns, c17.kC, c17.err⟩
    t18 := ⟨PySem.W.mg_of X G c18.ns, c18.kC, c18.err⟩
    t19 := ⟨PySem.W.mg_of X G c19.ns, c19.kC, c19.err⟩
    t20 := ⟨PySem.W.mg_of X G c20.ns, c20.kC, c20.err⟩
    t21 := ⟨PySem.W.mg_of X G c21.ns, c21.kC, c21.err⟩
    i0 := ⟨c0.oex, i0.iC, i0.tI, i0.no⟩
    f0 := i0.F
    i1 := ⟨c1.oex, i1.iC, i1.tI, i1.no⟩
    f1 := i1.F
    i2 := ⟨c2.oex, i2.iC, i2.tI, i2.no⟩
    f2 := i2.F
    i3 := ⟨c3.oex, i3.iC, i3.tI, i3.no⟩
    f3 := i3.F
    i4 := ⟨c4.oex, i4.iC, i4.tI, i4.no⟩
    f4 := i4.F
    i5 := ⟨c5.oex, i5.iC, i5.tI, i5.no⟩
    f5 := i5.F
    i6 := ⟨c6.oex, i6.iC, i6.tI, i6.no⟩
    f6 := i6.F
    i7 := ⟨c7.oex, i7.iC, i7.tI, i7.no⟩
    f7 := i7.F
    i8 := ⟨c8.oex, i8.iC, i8.tI, i8.no⟩
    f8 := i8.F
    i9 := ⟨c9.oex, i9.iC, i9.tI, i9.no⟩
    f9 := i9.F
    i10 := ⟨c10.oex, i10.iC, i10.tI, i10.no⟩
    f10 := i10.F
    i11 := ⟨c11.oex, i11.iC, i11.tI, i11.no⟩
    f11 := i11.F
    i12 := ⟨c12.oex, i12.iC, i12.tI, i12.no⟩
    f12 := i12.F
    i13 := ⟨c13.oex, i13.iC, i13.tI, i13.no⟩
    f13 := i13.F
    i14 := ⟨c14.oex, i14.iC, i14.tI, i14.no⟩
    f14 := i14.F
    x15 := x15
    x16 := x16
    x17 := x17
    x18 := x18
    x19 := x19
    x20 := x20
    x21 := x21
    m_len := PySem.W.mg_none_of X G m_len
    m_int := PySem.W.mg_none_of X G m_int
    m_abs := PySem.W.mg_none_of X G m_abs
    m_range := PySem.W.mg_none_of X G m_range
    m_isinstance := PySem.W.mg_none_of X G m_isinstance
    m_list := PySem.W.mg_none_of X G m_list
    m_dict := PySem.W.mg_none_of X G m_dict
    m_enumerate := PySem.W.mg_none_of X G m_enumerate
    m_ValueError := PySem.W.mg_none_of X G m_ValueError
  }
  have b0 := d0.F.binds (ps := ["_law_script"]) fun _ _ _ _ _ _ us hl => match us, hl with | [_], _ => rfl
  have b1 := d1.F.binds (ps := ["_law_bag_here", "_law_many"]) fun _ _ _ _ _ _ us hl => match us, hl with | [_, _], _ => rfl
  have b2 := d2.F.binds (ps := ["_law_bag_here", "_law_some"]) fun _ _ _ _ _ _ us hl => match us, hl with | [_, _], _ => rfl
  have b3 := d3.F.binds (ps := ["_law_bag_here"]) fun _ _ _ _ _ _ us hl => match us, hl with | [_], _ => rfl
  have b4 := d4.F.binds (ps := ["_law_x"]) fun _ _ _ _ _ _ us hl => match us, hl with | [_], _ => rfl
  have b5 := d5.F.binds (ps := ["_law_e"]) fun _ _ _ _ _ _ us hl => match us, hl with | [_], _ => rfl
  have b6 := d6.F.binds (ps := ["_law_some"]) fun _ _ _ _ _ _ us hl => match us, hl with | [_], _ => rfl
  obtain ⟨oc, od, kV, doc, pm, an, cdv, ct, osl, e7, lk7, hcd7⟩ := d7.F.ex
  refine ⟨hd7, fun s v => by rw [e7]; exact .of_eq rfl, fun base _ _ => ?_⟩
  exact ok_law d7.F T d0.F d4.F d3.F d5.F d6.F d2.F d1.F b0 b4 b3 b5 b6 b2 b1 (PySem.W.mg_of X G d0.ns) (PySem.W.mg_of X G d4.ns) (PySem.W.mg_of X G d3.ns) (PySem.W.mg_of X G d5.ns) (PySem.W.mg_of X G d6.ns) (PySem.W.mg_of X G d2.ns) (PySem.W.mg_of X G d1.ns)
theorem walk {l : PySem.W.OpenLaw} {q : Program} {loose : List Str} {XP : (Str → Option Value) → Heap → Prop} {YP : World → Heap → Prop} {d : DefRec} {K : Params → PySem.W.Frag} (hn : l.most = some 63) (hdf : d.params.defaults = [])
    (hY : ∀ (w : World) (h : Heap), YP w h → (K w.params).In h)
    (F : ∀ (w : World) (mg : Str → Option Value) (fa : Addr) (h : Heap), (K w.params).In h → h.Ns mainGlobals mg → mg d.name = some (.ref fa) →
      ∃ fd : FuncData, (∀ (s : Shared) (u : Value), BindsTo s fd ⟨[u], []⟩ [("_law_script", u)]) ∧ ∀ base : Heap, (K w.params).In base → base.Ns mainGlobals mg → FnOk l.prog w (K w.params) mg base CX0 4 fa fd ["_law_script"] (spLaw (K w.params))) :
    PySem.W.WalkO q loose XP YP l.row.toRowW d [] (fun f vs => PySem.call f vs) :=
  L2.walk_of (n := 63) (k := 4) (x := "_law_script") (CX := fun _ => CX0) (sp := fun w => spLaw (K w.params)) hn (by decide) hdf ⟨rfl, by decide, by decide⟩ hY F (fun _ _ a ns hl _ hS => ⟨a, ns, rfl, hS, hl, fun _ => rfl⟩) fun _ _ _ _ _ z => z

end HG

open PySem PySem.W PyProof.Rows
set_option maxRecDepth 100000 in
set_option maxHeartbeats 0 in
theorem PySem.Challenge.cw_heightgames_k10_errors_apart_holds : PySem.Challenge.rw_heightgames_k10_errors_apart.Holds := by
  w_on; o_law; k_head; (case hw => w_witness2)
  k_fill
  refine HG.walk (l := PySem.Challenge.rw_heightgames_k10_errors_apart) rfl rfl (fun w h Y => PySem.W.kIn_of Y) ?F
  case F =>
    intro w mg fa h KX G hmg
    refine' HG.all_mk KX G hmg ?nHE ?cHE ?tHE ?hn ?ht ?c0 ?c1 ?c2 ?c3 ?c4 ?c5 ?c6 ?c7 ?c8 ?c9 ?c10 ?c11 ?c12 ?c13 ?c14 ?c15 ?c16 ?c17 ?c18 ?c19 ?c20 ?c21 ?i0 ?i1 ?i2 ?i3 ?i4 ?i5 ?i6 ?i7 ?i8 ?i9 ?i10 ?i11 ?i12 ?i13 ?i14 ?x15 ?x16 ?x17 ?x18 ?x19 ?x20 ?x21 ?d0 ?d1 ?d2 ?d3 ?d4 ?d5 ?d6 ?d7 ?nd ?m_len ?m_int ?m_abs ?m_range ?m_isinstance ?m_list ?m_dict ?m_enumerate ?m_ValueError
    (case nHE => k_is)
    (case cHE => k_is)
    (case tHE => k_is)
    (case hn => k_is)
    (case ht => k_is)
    (case c0 => (refine' HG.CF.mk' ?a ?b ?c ?d ?e ?f ?g; (case a => k_is); (case b => k_is); (case c => k_is); (case d => k_is); (case e => k_is); (case f => k_is); (case g => k_is)))
    (case c1 => (refine' HG.CF.mk' ?a ?b ?c ?d ?e ?f ?g; (case a => k_is); (case b => k_is); (case c => k_is); (case d => k_is); (case e => k_is); (case f => k_is); (case g => k_is)))
    (case c2 => (refine' HG.CF.mk' ?a ?b ?c ?d ?e ?f ?g; (case a => k_is); (case b => k_is); (case c => k_is); (case d => k_is); (case e => k_is); (case f => k_is); (case g => k_is)))
    (case c3 => (refine' HG.CF.mk' ?a ?b ?c ?d ?e ?f ?g; (case a => k_is); (case b => k_is); (case c => k_is); (case d => k_is); (case e => k_is); (case f => k_is); (case g => k_is)))
    (case c4 => (refine' HG.CF.mk' ?a ?b ?c ?d ?e ?f ?g; (case a => k_is); (case b => k_is); (case c => k_is); (case d => k_is); (case e => k_is); (case f => k_is); (case g => k_is)))
    (case c5 => (refine' HG.CF.mk' ?a ?b ?c ?d ?e ?f ?g; (case a => k_is); (case b => k_is); (case c => k_is); (case d => k_is); (case e => k_is); (case f => k_is); (case g => k_is)))
    (case c6 => (refine' HG.CF.mk' ?a ?b ?c ?d ?e ?f ?g; (case a => k_is); (case b => k_is); (case c => k_is); (case d => k_is); (case e => k_is); (case f => k_is); (case g => k_is)))
    (case c7 => (refine' HG.CF.mk' ?a ?b ?c ?d ?e ?f ?g; (case a => k_is); (case b => k_is); (case c => k_is); (case d => k_is); (case e => k_is); (case f => k_is); (case g => k_is)))
    (case c8 => (refine' HG.CF.mk' ?a ?b ?c ?d ?e ?f ?g; (case a => k_is); (case b => k_is); (case c => k_is); (case d => k_is); (case e => k_is); (case f => k_is); (case g => k_is)))
    (case c9 => (refine' HG.CF.mk' ?a ?b ?c ?d ?e ?f ?g; (case a => k_is); (case b => k_is); (case c => k_is); (case d => k_is); (case e => k_is); (case f => k_is); (case g => k_is)))
    (case c10 => (refine' HG.CF.mk' ?a ?b ?c ?d ?e ?f ?g; (case a => k_is); (case b => k_is); (case c => k_is); (case d => k_is); (case e => k_is); (case f => k_is); (case g => k_is)))
    (case c11 => (refine' HG.CF.mk' ?a ?b ?c ?d ?e ?f ?g; (case a => k_is); (case b => k_is); (case c => k_is); (case d => k_is); (case e => k_is); (case f => k_is); (case g => k_is)))
    (case c12 => (refine' HG.CF.mk' ?a ?b ?c ?d ?e ?f ?g; (case a => k_is); (case b => k_is); (case c => k_is); (case d => k_is); (case e => k_is); (case f => k_is); (case g => k_is)))
    (case c13 => (refine' HG.CF.mk' ?a ?b ?c ?d ?e ?f ?g; (case a => k_is); (case b => k_is); (case c => k_is); (case d => k_is); (case e => k_is); (case f => k_is); (case g => k_is)))
    (case c14 => (refine' HG.CF.mk' ?a ?b ?c ?d ?e ?f ?g; (case a => k_is); (case b => k_is); (case c => k_is); (case d => k_is); (case e => k_is); (case f => k_is); (case g => k_is)))
    (case c15 => (refine' HG.CF.mk' ?a ?b ?c ?d ?e ?f ?g; (case a => k_is); (case b => k_is); (case c => k_is); (case d => k_is); (case e => k_is); (case f => k_is); (case g => k_is)))
    (case c16 => (refine' HG.CF.mk' ?a ?b ?c ?d ?e ?f ?g; (case a => k_is); (case b => k_is); (case c => k_is); (case d => k_is); (case e => k_is); (case f => k_is); (case g => k_is)))
    (case c17 => (refine' HG.CF.mk' ?a ?b ?c ?d ?e ?f ?g; (case a => k_is); (case b => k_is); (case c => k_is); (case d => k_is); (case e => k_is); (case f => k_is); (case g => k_is)))
    (case c18 => (refine' HG.CF.mk' ?a ?b ?c ?d ?e ?f ?g; (case a => k_is); (case b => k_is); (case c => k_is); (case d => k_is); (case e => k_is); (case f => k_is); (case g => k_is)))
    (case c19 => (refine' HG.CF.mk' ?a ?b ?c ?d ?e ?f ?g; (case a => k_is); (case b => k_is); (case c => k_is); (case d => k_is); (case e => k_is); (case f => k_is); (case g => k_is)))
    (case c20 => (refine' HG.CF.mk' ?a ?b ?c ?d ?e ?f ?g; (case a => k_is); (case b => k_is); (case c => k_is); (case d => k_is); (case e => k_is); (case f => k_is); (case g => k_is)))
    (case c21 => (refine' HG.CF.mk' ?a ?b ?c ?d ?e ?f ?g; (case a => k_is); (case b => k_is); (case c => k_is); (case d => k_is); (case e => k_is); (case f => k_is); (case g => k_is)))
    (case i0 => (refine' HG.IF.mk' ?a ?b ?c ?d ?e ?f; (case a => k_is); (case b => k_is); (case c => k_is); (case d => k_is); (case e => k_is); (case f => k_is)))
    (case i1 => (refine' HG.IF.mk' ?a ?b ?c ?d ?e ?f; (case a => k_is); (case b => k_is); (case c => k_is); (case d => k_is); (case e => k_is); (case f => k_is)))
    (case i2 => (refine' HG.IF.mk' ?a ?b ?c ?d ?e ?f; (case a => k_is); (case b => k_is); (case c => k_is); (case d => k_is); (case e => k_is); (case f => k_is)))
    (case i3 => (refine' HG.IF.mk' ?a ?b ?c ?d ?e ?f; (case a => k_is); (case b => k_is); (case c => k_is); (case d => k_is); (case e => k_is); (case f => k_is)))
    (case i4 => (refine' HG.IF.mk' ?a ?b ?c ?d ?e ?f; (case a => k_is); (case b => k_is); (case c => k_is); (case d => k_is); (case e => k_is); (case f => k_is)))
    (case i5 => (refine' HG.IF.mk' ?a ?b ?c ?d ?e ?f; (case a => k_is); (case b => k_is); (case c => k_is); (case d => k_is); (case e => k_is); (case f => k_is)))
    (case i6 => (refine' HG.IF.mk' ?a ?b ?c ?d ?e ?f; (case a => k_is); (case b => k_is); (case c => k_is); (case d => k_is); (case e => k_is); (case f => k_is)))
    (case i7 => (refine' HG.IF.mk' ?a ?b ?c ?d ?e ?f; (case a => k_is); (case b => k_is); (case c => k_is); (case d => k_is); (case e => k_is); (case f => k_is)))
    (case i8 => (refine' HG.IF.mk' ?a ?b ?c ?d ?e ?f; (case a => k_is); (case b => k_is); (case c => k_is); (case d => k_is); (case e => k_is); (case f => k_is)))
    (case i9 => (refine' HG.IF.mk' ?a ?b ?c ?d ?e ?f; (case a => k_is); (case b => k_is); (case c => k_is); (case d => k_is); (case e => k_is); (case f => k_is)))
    (case i10 => (refine' HG.IF.mk' ?a ?b ?c ?d ?e ?f; (case a => k_is); (case b => k_is); (case c => k_is); (case d => k_is); (case e => k_is); (case f => k_is)))
    (case i11 => (refine' HG.IF.mk' ?a ?b ?c ?d ?e ?f; (case a => k_is); (case b => k_is); (case c => k_is); (case d => k_is); (case e => k_is); (case f => k_is)))
    (case i12 => (refine' HG.IF.mk' ?a ?b ?c ?d ?e ?f; (case a => k_is); (case b => k_is); (case c => k_is); (case d => k_is); (case e => k_is); (case f => k_is)))
    (case i13 => (refine' HG.IF.mk' ?a ?b ?c ?d ?e ?f; (case a => k_is); (case b => k_is); (case c => k_is); (case d => k_is); (case e => k_is); (case f => k_is)))
    (case i14 => (refine' HG.IF.mk' ?a ?b ?c ?d ?e ?f; (case a => k_is); (case b => k_is); (case c => k_is); (case d => k_is); (case e => k_is); (case f => k_is)))
    (case x15 => k_exc)
    (case x16 => k_exc)
    (case x17 => k_exc)
    (case x18 => k_exc)
    (case x19 => k_exc)
    (case x20 => k_exc)
    (case x21 => k_exc)
    (case d0 => (refine' HG.DF.mk' ?a ?b ?c ?d; (case a => k_is); (case b => k_is); (case c => k_is); (case d => k_is)))
    (case d1 => (refine' HG.DF.mk' ?a ?b ?c ?d; (case a => k_is); (case b => k_is); (case c => k_is); (case d => k_is)))
    (case d2 => (refine' HG.DF.mk' ?a ?b ?c ?d; (case a => k_is); (case b => k_is); (case c => k_is); (case d => k_is)))
    (case d3 => (refine' HG.DF.mk' ?a ?b ?c ?d; (case a => k_is); (case b => k_is); (case c => k_is); (case d => k_is)))
    (case d4 => (refine' HG.DF.mk' ?a ?b ?c ?d; (case a => k_is); (case b => k_is); (case c => k_is); (case d => k_is)))
    (case d5 => (refine' HG.DF.mk' ?a ?b ?c ?d; (case a => k_is); (case b => k_is); (case c => k_is); (case d => k_is)))
    (case d6 => (refine' HG.DF.mk' ?a ?b ?c ?d; (case a => k_is); (case b => k_is); (case c => k_is); (case d => k_is)))
    (case d7 => (refine' HG.DF.mk' ?a ?b ?c ?d; (case a => k_is); (case b => k_is); (case c => k_is); (case d => k_is)))
    (case nd => decide)
    (case m_len => k_is)
    (case m_int => k_is)
    (case m_abs => k_is)
    (case m_range => k_is)
    (case m_isinstance => k_is)
    (case m_list => k_is)
    (case m_dict => k_is)
    (case m_enumerate => k_is)
    (case m_ValueError => k_is)

