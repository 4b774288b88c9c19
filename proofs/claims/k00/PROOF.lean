import PyProof.Rows.All
import Wide.All
import OpenK.AllK
import Wide.FinOn
import HandS.ForMost
import HandS.ExcInit
import HandS.ExcIs
import HandS.ExcField
import HandS.ExcOwn
import KE.KSuper
import KE.KExcSuper
import HandS.MakeKw
import KE.KExcIs
import HandS.ExcValue
import HandS.IsInst
import HandS.Walk
import HandS.Deep
import HandS.Style
import HandS.Conv
import HandS.TupAny
import HandS.TupMul
import HandS.TupSets
import HandS.HeadHook1
import HandS.Zip
import HandS.Defaults
import HandS.WordsExc
import KE.OsArith
import HandS.HeadEnd
import PyProof.ReprRoads
import HandS.Flow
import HandS.TupLe
import KE.GoesMore
import PyProof.EnumMake
import PyProof.Draws
import PyProof.Rows.IntBool
import HandS.HeadHook4
import PyProof.ReprLen
import PyProof.StrLawsRepr
import HandS.HeadHook2
import HandS.Head0
import HandS.Head1
import HandS.Head2
import PySem.Challenge.RW_sixkeepers_k00_errors_and_bounds
set_option Elab.async false
set_option linter.all false
set_option maxRecDepth 100000
set_option maxHeartbeats 4000000
/-! Own errors: made by a class under ValueError whose __init__ says super().__init__(a text) and keeps one field. -/
namespace Er
open PySem PySem.Spec PyProof.Rows L2
section
variable {prog : Program} {w : World} {A : Around} {E : Value → Shared → Prop} {h : Heap} {g : Array GenState} {d : Drawn} {t : Nat} {os : OsState}
variable {nm q : Str} {C N : Addr} {bs bm : List Value} {sn : List Str} {sub : List Value} {ab : Bool} {col : Option Bool} {dd : Option Addr} {k0 k1 k2 k3 k5 : Option Value}
/-- ValueError.__init__, bound, called with some values -/
theorem bound_init {u e t0 : Addr} {vs : List Value} {Q : Value → Shared → Prop} (hC : h.get? C = some (excClassObj nm q C N bs bm true sn sub ab col dd k0 k1 k2 k3 k5 "ValueError.__new__"))
    (he : h.get? e = some (HandSPX.excO C t0)) (hu : h.get? u = some (W.kxs_mw "ValueError.__init__" e)) (hz : vs.length ≤ sizeLine)
    (hq : ∀ h' t1, (∀ b o, b ≠ e → h.get? b = some o → h'.get? b = some o) → h'.get? e = some (HandSPX.excO C t1) → Q .none ⟨h', g, d, t, os⟩) : wpAny (model prog w) A (call (.ref u) vs) Q E ⟨h, g, d, t, os⟩ := by
  have FB := F.excBase_ValueError
  have kind : (Value.type "method-wrapper" == Value.type "method" || Value.type "method-wrapper" == Value.type "builtin_function_or_method" || Value.type "method-wrapper" == Value.type "method-wrapper") = true := by decide
  refine wpAny_call (codeAny_of_tree ?_)
  show wpAny _ A.in1 (callAny (.ref u) ⟨vs, []⟩) _ _ _
  unfold callAny
  refine wpAny_bind (wpAny_load hu ?_)
  dsimp only
  refine W.KFB.if_so kind ?_
  refine wpAny_bind (W.check_bound_init FB.toExcCallFacts hC he rfl ?_)
  refine wpAny_bind (wpAny_pure (wpAny_pure ?_))
  exact ⟨plainId_quiet FB.init.plain _, codeAny_builtin FB.initEntry (W.exc_init_tree (cls := .ref C) (t0 := t0) (dv := none) (c2 := .none) (c3 := .none) (b4 := .bool false) he hz fun h' k ex _ => hq h' _ k ex)⟩
end
/-! ### the text of such an __init__ -/
structure ErrT where
  name : Str
  qual : Str
  params : Arguments
  scope : Scope
  f : Str
  m : Str
  j : Nat
  p0 : Pos
  p1 : Pos
  p2 : Pos
  p3 : Pos
  p4 : Pos
  p5 : Pos
  p6 : Pos
  p7 : Pos
  p8 : Pos
  p9 : Pos
def ErrT.body (T : ErrT) : List Stmt :=
  [.Expr (.Call (.Attribute (.Call (.Name "super" T.p0) [] [] T.p1) "__init__" T.p2) [.Constant (.str T.m) T.j T.p3] [] T.p4) T.p5, .Assign [.Attribute (.Name "self" T.p6) T.f T.p7] (.Name T.f T.p8) T.p9]
/-- what its scope says -/
structure ErrT.Ok (T : ErrT) : Prop where
  par : ∃ ar : Arg, (T.params.posonlyargs ++ T.params.args).head? = some ar ∧ ar.arg = "self"
  self : T.scope.names.lookup ("self" : Str) = some .local
  fld : T.scope.names.lookup T.f = some .local
  sup : T.scope.names.lookup ("super" : Str) = some .globalImplicit
  cls : T.scope.names.lookup ("__class__" : Str) = some .free
  kind : T.scope.kind = .function
  co : T.scope.isCoroutine = false
  gen : T.scope.isGenerator = false
  cell : ∀ x ∈ T.scope.names, x.2 ≠ .cell
  ns : T.f ≠ "self"
  ln : (T.p2.endLine == T.p4.line) = true
  nd : (T.f == ("__debug__" : Str)) = false
/-- what the written part says of the class and of its __init__ -/
structure ErrK (P : Program) (K : W.Frag) (T : ErrT) (C fI : Addr) (fd : FuncData) : Prop where
  oex : OexC K C
  fn : ∃ oc od osl dV kV doc pm an cda ct cc, fd = W.fnX T.name T.qual T.params T.body T.scope [("__class__", cc)] dV kV doc pm an (.ref cda) ct ∧ K.lookup fI = some ⟨oc, od, .func fd, osl⟩ ∧ W.codeIn K (.ref cda) T.qual = true ∧
    (∃ ccl cdd vs ccs file tf, K.lookup cda = some ⟨ccl, cdd, .fields vs, ccs⟩ ∧ vs[2]? = some (.str file tf) ∧ ((P.main.file : Str) == file) = true) ∧ ∃ cl cld csl, K.lookup cc = some ⟨cl, cld, .cell (some (.ref C)), csl⟩
  init : W.findIn K (.ref C) "__init__" = some (some (.ref fI))
  ty : W.typeIn K (.ref fI) = some (.type "function")
  sup : W.ks_superIn K C C "__init__" = some (some (.builtin "ValueError.__init__"))
  ve : W.subIn K (.ref C) (.type "ValueError") = some true
  self : W.mroIn K C (.ref C) = some true
  opq : W.nsIn K cStatics "thirdparty.any" = some none
  nsup : W.nsIn K mainGlobals "super" = some none
  noF : W.findIn K (.ref C) T.f = some none
  top : (P.main.scope.names.lookup ("super" : Str)).isSome = false
section
variable {P : Program} {w : World} {K : W.Frag} {T : ErrT} {C fI a t0 : Addr} {fd : FuncData} {mg mb : Str → Option Value} {A : Around} {h : Heap} {g : Array GenState} {d : Drawn} {t : Nat} {os : OsState} {u : Value} {ar : PySem.Args} {R : Result → Shared → Prop}
theorem ns_keep {h h' : Heap} {L : Addr} {m : Str → Option Value} (n : h.Ns L m) (k : ∀ o, h.get? L = some o → h'.get? L = some o) : h'.Ns L m := by
  obtain ⟨o, es, ep, ho, r⟩ := n
  exact ⟨o, es, ep, k o ho, r⟩
theorem ev_sup {o : Expr} {m : Str} {x : Str} {j : Nat} {p2 p3 p4 : Pos} {env : Env} (ln : (p2.endLine == p4.line) = true) :
    eval (.Call (.Attribute o m p2) [.Constant (.str x) j p3] [] p4) env = (do
      let ov ← attributeBase o m env (eval o env)
      standAt p2.atName
      let (f, first) ← holding [ov] (getMethod ov m (do return (← importBound o env).getD true))
      callWith p4 f first (backTo p4 (starEach [.Constant (.str x) j p3] env)) []) := by
  have e : ∀ ov, methodCall o m p2 p4 env ov 1 (backTo p4 (starEach [.Constant (.str x) j p3] env)) [] = (do
      let (f, first) ← holding [ov] (getMethod ov m (do return (← importBound o env).getD true))
      callWith p4 f first (backTo p4 (starEach [.Constant (.str x) j p3] env)) []) := fun ov => by
    have few : methodCallForm 1 (backTo p4 (starEach [.Constant (.str x) j p3] env)) [] = true := rfl
    unfold methodCall methodCallPos calleeOf
    rw [few, ln]
    rfl
  show (do
    let ov ← attributeBase o m env (eval o env)
    standAt p2.atName
    methodCall o m p2 p4 env ov 1 (backTo p4 (starEach [.Constant (.str x) j p3] env)) []) = _
  simp only [e]
theorem init_run (T1 : T.Ok) (T2 : ErrK P K T C fI fd) (X : K.In h) (G : h.Ns mainGlobals mg) (B : h.Ns builtinsNs mb) (Bb : ∀ x : Str, x ≠ "__name__" → mb x = bootBuiltins x) (nl : h.NoLimit) (room : A.depth < recursionLimit)
    (ha : h.get? a = some (HandSPX.excO C t0)) (na : K.lookup a = none) (bi : BindsTo ⟨h, g, d, t, os⟩ fd ar [("self", .ref a), (T.f, u)])
    (hq : ∀ h' tk' dx t1, (∀ b o, b ≠ a → h.get? b = some o → h'.get? b = some o) → h.objs.size ≤ dx → dx ≠ a → h'.get? a = some ({ cls := .ref C, dict := some dx, data := .fields #[.ref t1, .none, .none, .none, .bool false, .none] } : Obj) →
      h'.Ns1 dx (fun y => if y = T.f then some u else none) → R (.ok (.ret .none)) ⟨h', g, d, tk', os⟩) : codeAny (model P w) A (.call (.ref fI) ar) R ⟨h, g, d, t, os⟩ := by
  obtain ⟨oc, od, osl, dV, kV, doc, pm, an, cda, ct, cc, rfl, lk, code, ⟨ccl, cdd, vs, ccs, file, tf, lc, hvs, hfile⟩, cl, cld, csl, lcell⟩ := T2.fn
  obtain ⟨nm, qn, N, bs, bm, sn, sub, ab, col, dd, k0, k1, k2, k3, k5, hC, hbm⟩ := T2.oex.cls
  obtain ⟨ar0, hp, har⟩ := T1.par
  refine ks_codeAny_call_defAt (body := T.body) room (X _ _ lk) rfl nl (W.codeRec_of X code) rfl bi T1.cell (fun x hx => ?_) (fun h0 n0 e0 => ?_) T1.co T1.gen T1.kind
  · rcases List.mem_cons.mp hx with rfl | hx
    · exact T1.self
    · rcases List.mem_cons.mp hx with rfl | hx
      · exact T1.fld
      · cases hx
  have X0 : K.In h0 := fun b o z => e0 b o (X b o z)
  have a0 := e0 _ _ ha
  have c0 := X0 _ _ hC
  have g0 : h0.Ns mainGlobals mg := ns_keep G fun o z => e0 _ o z
  have b0 : h0.Ns builtinsNs mb := ns_keep B fun o z => e0 _ o z
  have lS : (fun x => (List.reverse [(("self" : Str), Value.ref a), (T.f, u)]).lookup x) "self" = some (.ref a) := by
    have z : ((("self" : Str) == T.f)) = false := beq_eq_false_iff_ne.mpr (Ne.symm T1.ns)
    simp [List.lookup, z]
  have lF : (fun x => (List.reverse [(("self" : Str), Value.ref a), (T.f, u)]).lookup x) T.f = some u := by
    simp [List.lookup]
  generalize (fun x => (List.reverse [(("self" : Str), Value.ref a), (T.f, u)]).lookup x) = mL at n0 lS lF
  have hL : h.objs.size ≠ a := Nat.ne_of_gt (Heap.lt_size ha)
  show PySem.wpAt _ _ _ (execs T.body (W.ksEnv T.qual T.scope h.objs.size fI (.ref cda) cc)) _ _ _
  refine ks_wpAt_execs_cons (ks_wpAt_Expr_any (ks_wpAt_MethodCall ?_ (ev_sup T1.ln)) (by unfold interactive; simp [T1.kind]))
  refine ks_wpAt_super_base (env := W.ksEnv T.qual T.scope h.objs.size fI (.ref cda) cc) T1.sup T1.cls (by decide) rfl (X0 _ _ lk) rfl hp rfl (X0 _ _ lc) rfl hvs hfile T2.top ?_
  refine W.ks_loadName_global T1.kind T1.sup (Calls.loadGlobal_builtin g0 (W.mg_none_of X0 g0 T2.nsup) b0 ((Bb _ (by decide)).trans (by decide +kernel : bootBuiltins "super" = some (.type "super"))) ⟨rfl, ?_⟩)
  refine wpAny_loadName_free T1.kind T1.cls rfl ⟨_, X0 _ _ lcell, rfl⟩ ?_
  refine wpAny_loadName_local T1.kind (har ▸ T1.self) n0 (har ▸ lS) ?_
  refine ks_wpAny_isType_cls c0 rfl ⟨rfl, ?_⟩
  refine ks_wpAny_call_super c0 rfl a0 rfl (fun c z => by cases z) (W.looks_mroIn X0 T2.self) fun h1 e1 k1' => ?_
  have X1 : K.In h1 := fun b o z => k1' b o (X0 b o z)
  have a1 := k1' _ _ a0
  have c1 := X1 _ _ hC
  have hcl : W.clsIn K C = some { name := nm, bases := bs, mro := .ref C :: bm, ns := N, qualname := qn, hasDict := true, slotNames := sn, subclasses := sub, abstract := ab, collection := col, hasDel := false } := by
    unfold W.clsIn
    rw [hC]
  have aC : a ≠ C := fun z => by
    rw [z] at a1
    rw [a1] at c1
    cases c1
  have al : W.alongIn K "__init__" (((Value.ref C :: bm).dropWhile (· != .ref C)).drop 1) = some (some (.builtin "ValueError.__init__")) := by
    have z := T2.sup
    unfold W.ks_superIn at z
    rw [hcl] at z
    exact z
  have isB : W.Looks (model P w) h1 (isInstance (.ref a) (.type "ValueError")) true := W.Looks.andThen (W.InstAt.type (od := none) ⟨a1, rfl, rfl, trivial⟩) (W.looks_subIn X1 T2.ve)
  have mro : W.Looks (model P w) h1 (mroOf (.ref C)) (Value.ref C :: bm) := (W.looks_clsIn X1 hcl).andThen .now
  refine W.kxs_getMethod W.kxs_ValueError e1 (W.looks_opaque X1 T2.opq) mro rfl X1 al isB aC (by decide) ?_
  have a2 : (h1.push (W.kxs_mw "ValueError.__init__" a)).get? a = some (HandSPX.excO C t0) := Heap.get?_push_of_some _ a1
  have c2 : (h1.push (W.kxs_mw "ValueError.__init__" a)).get? C = _ := Heap.get?_push_of_some _ c1
  have u2 : (h1.push (W.kxs_mw "ValueError.__init__" a)).get? h1.objs.size = some (W.kxs_mw "ValueError.__init__" a) := Heap.get?_push_at rfl rfl
  refine W.kxs_callWith (i := "ValueError.__init__") (x := a) rfl (Calls.evalArgs_plain (Calls.spliced_cons (Calls.Constant_str (k := T.j) (pos := T.p3) (Calls.spliced_nil ⟨u2, ?_⟩))))
  refine bound_init c2 a2 u2 (by rw [sizeLine_eq]; show 1 ≤ 16777216; decide) fun h2 t1 k2' a3 => ?_
  have kk : ∀ b o, b ≠ a → h0.get? b = some o → h2.get? b = some o := fun b o hb z => k2' b o hb (Heap.get?_push_of_some _ (k1' b o z))
  have n2 : h2.Ns h.objs.size mL := ns_keep n0 fun o z => kk _ o hL z
  have X2 : K.In h2 := fun b o z => kk b o (fun e => by
    rw [e, na] at z
    cases z) (X0 b o z)
  show PySem.wpAt _ _ _ (execs [_] _) _ _ _
  refine ks_wpAt_execs_cons (wpAt_of_wpAny (plainObj_wpAny_Assign_Attribute ?_))
  refine wpAny_Name (wpAny_loadName_local T1.kind T1.fld n2 lF ?_) T1.nd
  refine wpAny_Name (wpAny_loadName_local T1.kind T1.self n2 lS ?_) (by decide)
  refine W.set_plain X2 (od := none) ⟨a3, rfl, rfl, trivial⟩ T2.oex.sa ?_
  refine HandSPX.exc_osa X2 a3 hcl (show HandSPX.refsVE (.ref C :: bm) = true from hbm) rfl T2.noF fun h3 tk3 dx k3 dn dne a4 n4 => ?_
  refine wpAt_of_wpAny (wpAny_execs_nil ?_)
  have s2 : h.objs.size ≤ dx := by
    obtain ⟨o, _, _, z, _⟩ := n2
    exact Nat.le_trans (Nat.le_of_lt (Heap.lt_size z)) dn
  exact hq h3 tk3 dx t1 (fun b o hb z => k3 b o hb (kk b o hb (e0 b o z))) s2 dne a4 n4
end
end Er

set_option maxRecDepth 100000
set_option maxHeartbeats 4000000
namespace Er
open PySem PySem.Spec PyProof.Rows L2
section
variable {prog : Program} {w : World} {M : Model} {A : Around} {E : Value → Shared → Prop} {R : Result → Shared → Prop} {h : Heap} {g : Array GenState} {d : Drawn} {t : Nat} {os : OsState}
variable {nm q : Str} {C N fI : Addr} {bs bm bmB : List Value} {sn : List Str} {sub : List Value} {ab : Bool} {col : Option Bool} {dd : Option Addr} {k0 k1 k2 k3 k5 : Option Value} {B newId initId : String} {kw : List (Str × Value)}
/-! ### the class called by keywords alone -/
theorem kwCheck (F : ExcBaseFacts B newId initId bmB) (hT : ∀ X : String, bm.contains (.type X) = bmB.contains (.type X)) {Q : Unit → Shared → Prop} (hC : h.get? C = some (excClassObj nm q C N bs bm true sn sub ab col dd k0 k1 k2 k3 k5 newId))
    (hq : Q () ⟨h, g, d, t, os⟩) : wpAny M A (checkBuiltinCall newId ⟨[.ref C], kw⟩) Q E ⟨h, g, d, t, os⟩ := by
  have inB : (Value.ref C :: bm).contains (.type B) = true := by
    rw [List.contains_cons, hT, F.hasB, Bool.or_true]
  have star := F.noStar
  simp only [checkBuiltinCall, F.newKind, F.newSplit, F.newRow]
  repeat (first | refine wpAny_loadPart_at hC ?_ | (refine wpAny_isSubtype_exc hC ?_; rw [inB]) | refine wpAny_staticBase_exc hC ?_ | refine wpAny_madeBy_exc hC ?_ | (simp only [bne_self_eq_false, Bool.false_eq_true, if_false]) | wp_step)
  exact hq
theorem kwNew (F : ExcBaseFacts B newId initId bmB) (hT : ∀ X : String, bm.contains (.type X) = bmB.contains (.type X)) (hC : h.get? C = some (excClassObj nm q C N bs bm true sn sub ab col dd k0 k1 k2 k3 k5 newId))
    (hq : R (.ok (.ret (.ref (h.objs.size + 1)))) ⟨(h.push (W.kdv_tup [])).push (HandSPX.excO C h.objs.size), g, d, t, os⟩) : codeAny (model prog w) A (.builtin newId ⟨[.ref C], kw⟩) R ⟨h, g, d, t, os⟩ := by
  have ends := F.ends
  have in1 : (Value.ref C :: bm).contains (.type B) = true := by
    rw [List.contains_cons, hT, F.hasB, Bool.or_true]
  have in2 : (Value.ref C :: bm).contains (.type "AttributeError") = false := by
    rw [List.contains_cons, hT, F.noAttr]
    rfl
  have in3 : (Value.ref C :: bm).contains (.type "NameError") = false := by
    rw [List.contains_cons, hT, F.noName]
    rfl
  refine codeAny_builtinAt F.entry ?_
  unfold Builtin.«BaseException.__new__»
  refine PySem.wpAt_bind ?_
  show PySem.wpAt _ _ _ (stack >>= _) _ _ _
  refine PySem.wpAt_bind (PySem.wpAt_stack fun p below => PySem.wpAt_of_wpAny ?_)
  wp_walk
  refine PySem.wpAt_of_wpAny ?_
  rw [F.owner]
  repeat (first | with_reducible refine wpAny_madeHere_exc F.canon hC ?_ | with_reducible refine wpAny_loadPart_at hC ?_ | (with_reducible refine wpAny_isSubtype_exc hC ?_; first | rw [in1] | rw [in2] | rw [in3]) | wp_step)
  show R _ _
  rw [Heap.size_push]
  exact hq
theorem kwType (F : ExcBaseFacts B newId initId bmB) (hT : ∀ X : String, bm.contains (.type X) = bmB.contains (.type X)) {Q : Fin → Shared → Prop} (hC : h.get? C = some (excClassObj nm q C N bs bm true sn sub ab col dd k0 k1 k2 k3 k5 newId))
    (hi : W.Looks (model prog w) h (typeLookup (.ref C) "__init__") (some (.ref fI))) (hb : ∀ self, W.Looks (model prog w) h (bindSpecial (.ref fI) self) (.ref fI, [self]))
    (hq : codeAny (model prog w) A (.call (.ref fI) ⟨[.ref (h.objs.size + 1)], kw⟩) (fun r s' => match r with
      | .ok (.ret v) => v = .none ∧ Q (.done (.ret (.ref (h.objs.size + 1)))) s'
      | .ok _ => False
      | .error e => E e s') ⟨(h.push (W.kdv_tup [])).push (HandSPX.excO C h.objs.size), g, d, t, os⟩) : wpAny (model prog w) A (Builtin.«type.__call__» ⟨[.ref C], kw⟩) Q E ⟨h, g, d, t, os⟩ := by
  repeat (first | with_reducible refine wpAny_loadPart_at hC ?_ | with_reducible refine wpAny_madeBy_exc hC ?_ | wp_step)
  refine codeAny_call_builtin_code (Code.quiet_builtin _ F.quiet) (kwCheck F hT hC (kwNew F hT hC ?_))
  show wpAny _ _ _ _ _ _
  have up : ∀ b o, h.get? b = some o → ((h.push (W.kdv_tup [])).push (HandSPX.excO C h.objs.size)).get? b = some o := fun b o e => Heap.get?_push_of_some _ (Heap.get?_push_of_some _ e)
  have hC1 := up _ _ hC
  have he : ((h.push (W.kdv_tup [])).push (HandSPX.excO C h.objs.size)).get? (h.objs.size + 1) = some (HandSPX.excO C h.objs.size) := by heap_get
  have inC : (Value.ref C :: bm).contains (.ref C) = true := by simp
  unfold isInstance
  repeat (first | with_reducible refine wpAny_loadPart_at he ?_ | (with_reducible refine wpAny_isSubtype_exc hC1 ?_; rw [inC]) | wp_step)
  show wpAny _ _ (typeLookup (.ref C) _) _ _ _
  refine (hi.keeps up).at ?_
  refine wpAny_holding (wpAny_bind (((hb (.ref (h.objs.size + 1))).keeps up).at ?_))
  refine wpAny_bind (wpAny_call (codeAny_mono hq fun r s' z => ?_))
  rcases r with e | (v | _ | _ | _) <;> first | exact z | exact z.elim | skip
  obtain ⟨rfl, z⟩ := z
  first
    | exact wpAny_pure (wpAny_pure z)
    | (wp_walk; exact z)
theorem kwSub {Q : Unit → Shared → Prop} (hC : h.get? C = some (excClassObj nm q C N bs bm true sn sub ab col dd k0 k1 k2 k3 k5 newId)) (hq : Q () ⟨h, g, d, t, os⟩) : wpAny M A (checkBuiltinCall "type.__call__" ⟨[.ref C], kw⟩) Q E ⟨h, g, d, t, os⟩ := by
  have f3 := tc_sub
  have ty : (⟨h, g, d, t, os⟩ : Shared).TypeIs (.ref C) "type" := ⟨_, hC, rfl⟩
  simp only [checkBuiltinCall, tc_kind, tc_split]
  repeat (any_goals (first | assumption | with_reducible refine wpAny_loadPart_at hC ?_ | with_reducible refine wpAny_onRaise ?_ | with_reducible refine wpAny_map ?_ | wp_step))
theorem kwCall (F : ExcBaseFacts B newId initId bmB) (hT : ∀ X : String, bm.contains (.type X) = bmB.contains (.type X)) (hC : h.get? C = some (excClassObj nm q C N bs bm true sn sub ab col dd k0 k1 k2 k3 k5 newId))
    (hi : W.Looks (model prog w) h (typeLookup (.ref C) "__init__") (some (.ref fI))) (hb : ∀ self, W.Looks (model prog w) h (bindSpecial (.ref fI) self) (.ref fI, [self]))
    (hq : codeAny (model prog w) (A.under (.builtin "type.__call__" ⟨[.ref C], kw⟩)) (.call (.ref fI) ⟨[.ref (h.objs.size + 1)], kw⟩) (W.InitBack (h.objs.size + 1) R) ⟨(h.push (W.kdv_tup [])).push (HandSPX.excO C h.objs.size), g, d, t, os⟩) :
    codeAny (model prog w) A (.call (.ref C) ⟨[], kw⟩) R ⟨h, g, d, t, os⟩ := by
  have f1 := tc_lookup
  have f2 := tc_bind (.ref C)
  have ty : (⟨h, g, d, t, os⟩ : Shared).TypeIs (.ref C) "type" := ⟨_, hC, rfl⟩
  refine codeAny_of_tree ?_
  show wpAny _ _ (callAny (.ref C) _) _ _ _
  repeat (any_goals (first | assumption | with_reducible refine wpAny_loadPart_at hC ?_ | wp_step))
  refine ⟨rfl, ?_⟩
  refine codeAny_call_builtin_at (Code.quiet_builtin _ (by decide +kernel)) entry_typeCall (kwSub hC (kwType F hT hC hi hb ?_))
  refine codeAny_mono hq fun r s' z => ?_
  rcases r with e | (v | _ | _ | _) <;> exact z
end
end Er

set_option maxRecDepth 100000
set_option maxHeartbeats 4000000
namespace Er
open PySem PySem.Spec PyProof.Rows L2
section
variable {X : Cx} {pins : List (Addr × Obj)} {σ : L2.St} {H : Hp} {s : Shared}
/-- the field is stored: the error stands with its dict -/
theorem inv_field {a C dx t1 : Addr} {f : Str} {y : V} {u : Value} {h' : Heap} {tk' : Nat} (I : L2.Inv X pins σ H s) (e : H a = some (exo a C none)) (k : ∀ b o, b ≠ a → s.heap.get? b = some o → h'.get? b = some o) (dn : s.heap.objs.size ≤ dx) (dne : dx ≠ a)
    (hx : h'.get? a = some ({ cls := .ref C, dict := some dx, data := .fields #[.ref t1, .none, .none, .none, .bool false, .none] } : Obj)) (hn : h'.Ns1 dx (fun z => if z = f then some u else none)) (ry : RelV y u) :
    H dx = none ∧ L2.Inv X pins σ (upd (upd H dx (exd dx [(f, y)])) a (exo a C (some dx))) { s with heap := h', toks := tk' } := by
  have free : H dx = none := I.hok.fresh dn
  have old : ∀ {b : Addr} {o : Obj}, s.heap.get? b = some o → b ≠ dx := fun {b o} z => Nat.ne_of_lt (Nat.lt_of_lt_of_le (Heap.lt_size z) dn)
  have out : ∀ {b : Addr}, H b = none → b ≠ a := fun {b} n z => by
    rw [z] at n
    rw [n] at e
    cases e
  have keepH : ∀ {b : Addr} {o : HO}, H b = some o → exo a C none ≠ o → upd (upd H dx (exd dx [(f, y)])) a (exo a C (some dx)) b = some o := fun {b o} z d => by
    rw [upd_ne (at_ne e z d), upd_ne (ne_of_none z free)]
    exact z
  refine ⟨free, I.un (t' := tk') ⟨fun b o z n _ _ => k b o (out n) z, fun b o z n _ _ => ⟨o.slots, k b o (out n) z⟩, fun b o z n _ => ?_, fun b o z _ => ?_, fun b xs z => keepH z exo_tup, fun b o v z => keepH z exo_frz, fun b ps z => ⟨#[], ?_⟩⟩ fun b o z => ?_⟩
  · rw [upd_ne (out n), upd_ne (old z)]
    exact n
  · by_cases hb : b = a
    · rw [hb]
      exact ⟨_, hx⟩
    · exact ⟨o, k b o hb z⟩
  · rw [keepH z exo_tbl]
    simp
  · by_cases hb : b = a
    · subst hb
      rw [upd_same] at z
      cases z
      exact exo_ok hx
    · rw [upd_ne hb] at z
      by_cases hd : b = dx
      · subst hd
        rw [upd_same] at z
        cases z
        exact exd_ok hn (relO_put (fs := []) ry fun _ => True.intro)
      · rw [upd_ne hd] at z
        refine (I.hok b o z).stay (fun c v hc q => k c v ?_ q) (fun c q => keepH q exo_own) fun c xs q => keepH q exo_tup
        rcases hc with hc | hc
        · rw [hc]
          exact hb
        · exact at_ne e hc exo_own
end
/-- what comes: a new error with its field -/
def ErP (X : Cx) (pins : List (Addr × Obj)) (σ : L2.St) (H : Hp) (C : Addr) (f : Str) (y : V) (u : Value) (s' : Shared) : Prop :=
  ∃ a dx, u = .ref a ∧ H a = none ∧ H dx = none ∧ dx ≠ a ∧ L2.Inv X pins σ (upd (upd H dx (exd dx [(f, y)])) a (exo a C (some dx))) s'
def tErr (C : Addr) (f : Str) (te : TE) : TE := fun σ H Q => te σ H fun y H1 => ∀ a dx, H1 a = none → H1 dx = none → dx ≠ a → Q (.ref a) (upd (upd H1 dx (exd dx [(f, y)])) a (exo a C (some dx)))
section
variable {X : Cx} {pins : List (Addr × Obj)} {σ : L2.St} {H : Hp} {s : Shared} {T : ErrT} {C fI : Addr} {fd : FuncData} {y : V} {u : Value}
/-- the __init__ behind the object just laid -/
theorem init_at {A : Around} {ar : PySem.Args} {h1 : Heap} {a t0 : Addr} {R : Result → Shared → Prop} (T1 : T.Ok) (T2 : ErrK X.prog X.K T C fI fd) (I : L2.Inv X pins σ H s) (k1 : ∀ b o, s.heap.get? b = some o → h1.get? b = some o) (na : s.heap.objs.size ≤ a)
    (ha : h1.get? a = some (HandSPX.excO C t0)) (room : A.depth < recursionLimit) (bi : BindsTo { s with heap := h1 } fd ar [("self", .ref a), (T.f, u)]) (ry : RelV y u)
    (hq : ∀ s', (∃ dx, H a = none ∧ H dx = none ∧ dx ≠ a ∧ L2.Inv X pins σ (upd (upd H dx (exd dx [(T.f, y)])) a (exo a C (some dx))) s') → R (.ok (.ret .none)) s') : codeAny (model X.prog X.w) A (.call (.ref fI) ar) R { s with heap := h1 } := by
  have free : H a = none := I.hok.fresh na
  have J : L2.Inv X pins σ (upd H a (exo a C none)) { s with heap := h1 } := I.laid (t' := s.toks) (o := exo a C none) k1 na (exo_ok ha)
  have E0 := J.env0
  have nk : X.K.lookup a = none := by
    cases e : X.K.lookup a with
    | none => rfl
    | some o =>
      have z := (E0.bs a o (E0.mod.kin a o e)).2
      rw [upd_same] at z
      cases z
  have old : ∀ b o, X.base.get? b = some o → h1.get? b = some o := fun b o e => (E0.bs b o e).1
  obtain ⟨mb, B, Bb⟩ := E0.mod.blt
  obtain ⟨hp, g, d, t, os⟩ := s
  refine init_run T1 T2 (fun b o e => old b o (E0.mod.kin b o e)) (ns_keep E0.mod.glob fun o e => old _ o e) (ns_keep B fun o e => old _ o e) Bb (E0.mod.nolimit.keeps old) room ha nk bi fun h2 tk2 dx t1 k2 dn dne a2 n2 => hq _ ?_
  obtain ⟨z, J2⟩ := inv_field (tk' := tk2) J upd_same k2 dn dne a2 n2 ry
  have fdx : H dx = none := by
    rw [upd_ne dne] at z
    exact z
  refine ⟨dx, free, fdx, dne, ?_⟩
  have e : upd (upd (upd H a (exo a C none)) dx (exd dx [(T.f, y)])) a (exo a C (some dx)) = upd (upd H dx (exd dx [(T.f, y)])) a (exo a C (some dx)) := by
    funext b
    by_cases hb : b = a
    · rw [hb, upd_same, upd_same]
    · rw [upd_ne hb, upd_ne hb]
      by_cases hd : b = dx
      · rw [hd, upd_same, upd_same]
      · rw [upd_ne hd, upd_ne hd, upd_ne hb]
  rw [e] at J2
  exact J2
theorem run_err {k : Nat} (T1 : T.Ok) (T2 : ErrK X.prog X.K T C fI fd) (I : L2.Inv X pins σ H s) (hr : Room (k + 1) X.A) (bi : ∀ (s' : Shared) (a v : Value), BindsTo s' fd ⟨[a, v], []⟩ [("self", a), (T.f, v)]) (ry : RelV y u) :
    wpAny (model X.prog X.w) X.A (call (.ref C) [u]) (ErP X pins σ H C T.f y) X.xe s := by
  obtain ⟨nm, q, N, bs, bm, sn, sub, ab, col, dd, k0, k1, k2, k3, k5, hC, hbm⟩ := T2.oex.cls
  have room := (hr.make C [u] []).dp
  obtain ⟨hp, g, d, tk, os⟩ := s
  have kk : ∀ b o, hp.get? b = some o → ((hp.push (W.kdv_tup [u])).push (HandSPX.excO C hp.objs.size)).get? b = some o := fun b o e => Heap.get?_push_of_some _ (Heap.get?_push_of_some _ e)
  have he : ((hp.push (W.kdv_tup [u])).push (HandSPX.excO C hp.objs.size)).get? (hp.objs.size + 1) = some (HandSPX.excO C hp.objs.size) := by heap_get
  refine wpAny_call (HandSPX.call_own F.excBase_ValueError (fun Y => HandSPX.refsVE_contains Y bm hbm) (I.kIn _ _ hC) (W.looks_findIn I.kIn T2.init) (fun self => W.bind_fn I.kIn self T2.ty) (by rw [sizeLine_eq]; show 1 ≤ 16777216; decide) ?_)
  exact init_at (s := ⟨hp, g, d, tk, os⟩) T1 T2 I kk (Nat.le_succ _) he (by omega) (bi _ _ _) ry fun s' ⟨dx, q1, q2, q3, q4⟩ => ⟨rfl, _, dx, rfl, q1, q2, q3, q4⟩
theorem run_errK {k : Nat} (T1 : T.Ok) (T2 : ErrK X.prog X.K T C fI fd) (I : L2.Inv X pins σ H s) (hr : Room (k + 1) X.A) (bi : ∀ (s' : Shared) (a v : Value), BindsTo s' fd ⟨[a], [(T.f, v)]⟩ [("self", a), (T.f, v)]) (ry : RelV y u) :
    wpAny (model X.prog X.w) X.A (call (.ref C) [] [(T.f, u)]) (ErP X pins σ H C T.f y) X.xe s := by
  obtain ⟨nm, q, N, bs, bm, sn, sub, ab, col, dd, k0, k1, k2, k3, k5, hC, hbm⟩ := T2.oex.cls
  have room := (hr.make C [] [(T.f, u)]).dp
  obtain ⟨hp, g, d, tk, os⟩ := s
  have kk : ∀ b o, hp.get? b = some o → ((hp.push (W.kdv_tup [])).push (HandSPX.excO C hp.objs.size)).get? b = some o := fun b o e => Heap.get?_push_of_some _ (Heap.get?_push_of_some _ e)
  have he : ((hp.push (W.kdv_tup [])).push (HandSPX.excO C hp.objs.size)).get? (hp.objs.size + 1) = some (HandSPX.excO C hp.objs.size) := by heap_get
  refine wpAny_call (kwCall F.excBase_ValueError (fun Y => HandSPX.refsVE_contains Y bm hbm) (I.kIn _ _ hC) (W.looks_findIn I.kIn T2.init) (fun self => W.bind_fn I.kIn self T2.ty) ?_)
  exact init_at (s := ⟨hp, g, d, tk, os⟩) T1 T2 I kk (Nat.le_succ _) he (by omega) (bi _ _ _) ry fun s' ⟨dx, q1, q2, q3, q4⟩ => ⟨rfl, _, dx, rfl, q1, q2, q3, q4⟩
end
section
variable {X : Cx} {T : ErrT} {C fI : Addr} {fd : FuncData} {x : Str} {p pos : Pos} {e : Expr} {te : TE} {kws : List Keyword}
/-- C(e) -/
theorem pe_err {k : Nat} (T1 : T.Ok) (T2 : ErrK X.prog X.K T C fI fd) (hr : Room (k + 1) X.A) (bi : ∀ (s' : Shared) (a v : Value), BindsTo s' fd ⟨[a, v], []⟩ [("self", a), (T.f, v)]) (hg : Gl X x) (hm : X.mg x = some (.ref C)) (he : PE X e te)
    (hdb : (x == ("__debug__" : Str)) = false := by decide) (hs : starEach [e] X.env = (false, eval e X.env) :: starEach [] X.env := by rfl) : PE X (.Call (.Name x p) [e] [] pos) (tErr C T.f te) := by
  refine ⟨fun pins s σ H Q I h => wpAny_Call_Name_kw (ld_glob I hg hm ?_ hdb)⟩
  refine W.callWith_K (h₀ := X.base) I.ok.mod.kin T2.oex.kC ?_ hs rfl
  rw [hs]
  refine Calls.spliced_cons (thn (he.run pins s σ H _ I h) fun u s1 ⟨y, H1, I1, r1, q⟩ => Calls.spliced_nil ⟨I1.kIn, ?_⟩)
  exact thn (run_err T1 T2 I1 hr bi r1) fun r s2 ⟨a, dx, er, n1, n2, n3, J⟩ => ⟨.ref a, _, J, er, q a dx n1 n2 n3⟩
/-- C(f = e) -/
theorem pe_errK {k : Nat} (T1 : T.Ok) (T2 : ErrK X.prog X.K T C fI fd) (hr : Room (k + 1) X.A) (bi : ∀ (s' : Shared) (a v : Value), BindsTo s' fd ⟨[a], [(T.f, v)]⟩ [("self", a), (T.f, v)]) (hg : Gl X x) (hm : X.mg x = some (.ref C)) (he : PE X e te)
    (hdb : (x == ("__debug__" : Str)) = false := by decide) (hk : keywordEach kws X.env = [(some T.f, eval e X.env)] := by rfl) : PE X (.Call (.Name x p) [] kws pos) (tErr C T.f te) := by
  refine ⟨fun pins s σ H Q I h => wpAny_Call_Name_kw (ld_glob I hg hm ?_ hdb)⟩
  refine W.callWith_KW0 (h₀ := X.base) I.ok.mod.kin T2.oex.kC (by rw [hk]; rfl) ?_ (by rw [hk]; rfl)
  rw [hk]
  show wpAny _ _ (evalAll [do let v ← eval e X.env; standAt pos; pure v]) _ _ _
  refine wpAny_bind (wpAny_bind (thn (he.run pins s σ H _ I h) fun u s1 ⟨y, H1, I1, r1, q⟩ => wpAny_bind (wpAny_standAt (wpAny_pure (wpAny_bind (wpAny_holding (wpAny_pure (wpAny_pure ⟨I1.kIn, ?_⟩))))))))
  exact thn (run_errK T1 T2 I1 hr bi r1) fun r s2 ⟨a, dx, er, n1, n2, n3, J⟩ => ⟨.ref a, _, J, er, q a dx n1 n2 n3⟩
/-- C(), C without an own __init__ -/
theorem pe_err0 {bmB : List Value} {B newId initId : String} (FB : ExcBaseFacts B newId initId bmB) (q : W.excIn X.K C bmB newId = true) (kC : W.keepIn X.K (.ref C) = true) (hg : Gl X x) (hm : X.mg x = some (.ref C)) (hdb : (x == ("__debug__" : Str)) = false := by decide) :
    PE X (.Call (.Name x p) [] [] pos) (fun σ H Q => ∀ a, H a = none → Q (.ref a) (upd H a (exo a C none))) := by
  refine ⟨fun pins s σ H Q I h => wpAny_Call_Name_kw (ld_glob I hg hm ?_ hdb)⟩
  refine W.callWith_K0 I.kIn kC ?_
  obtain ⟨bm, N, nm, qn, bs, hdct, sn, sub, ab, col, dd, k0, k1, k2, k3, k5, mN, hC, hN, hni, TT⟩ := exc_obj I.kIn q
  refine wpAny_call_exc_subT FB TT hC hN hni (fun h' a hm => ?_) (Nat.zero_le _)
  have n := I.hok.gone hm.new
  obtain ⟨t, ht, _, _⟩ := hm.there
  exact ⟨.ref a, _, I.laidN hm.keeps hm.new n (exo_ok ht), rfl, h a n⟩
end
end Er

set_option maxRecDepth 100000
set_option maxHeartbeats 4000000
namespace Er
open PySem PySem.Spec PyProof.Rows L2
/-- at a stands an error of the class D, perhaps with fields -/
def ErAt (H : Hp) (a D : Addr) (fs : List (Str × V)) : Prop := (H a = some (exo a D none) ∧ fs = []) ∨ ∃ dx, H a = some (exo a D (some dx)) ∧ H dx = some (exd dx fs)
theorem er_inst {X : Cx} {pins : List (Addr × Obj)} {σ : L2.St} {H : Hp} {s : Shared} {a D : Addr} {fs : List (Str × V)} (I : L2.Inv X pins σ H s) (h : ErAt H a D fs) : ∃ oe od, W.InstAt s.heap a oe D od := by
  rcases h with ⟨e, _⟩ | ⟨dx, e, ed⟩
  · obtain ⟨t1, ho⟩ := exo_at I.hok e
    exact ⟨_, none, ho, rfl, rfl, trivial⟩
  · obtain ⟨t1, ho⟩ := exo_at I.hok e
    obtain ⟨mA, ⟨o, es, ep, hd, _⟩, _⟩ := exd_at I.hok ed
    exact ⟨_, some o, ho, rfl, rfl, hd⟩
/-- isinstance(error, class) -/
def rIsEr (K : W.Frag) : List V → Hp → VK → Prop := fun xs H Q => ∃ (a D : Addr) (fs : List (Str × V)) (c : V) (u : Value) (b : Bool), xs = [.ref a, c] ∧ ErAt H a D fs ∧ ExcC K D ∧ ClsV c u ∧ W.kitOne K (.ref D) u = some b ∧ Q (.bl b) H
theorem call_isEr {X : Cx} : CallR X (.builtin "isinstance") (rIsEr X.K) := by
  intro pins s σ H xs us Q I r h
  obtain ⟨a, D, fs, c, u, b, rfl, hE, C, k, e, q⟩ := h
  obtain ⟨u1, u2, rfl, r1, r2⟩ := vals2 r
  obtain rfl : u1 = Value.ref a := r1
  have e2 := k.eq r2
  subst e2
  obtain ⟨oe, od, J⟩ := er_inst I hE
  obtain ⟨cd, hc, _⟩ := W.any_some C.hd
  exact W.kia_one (W.kitx_exc (by rw [hc]; rfl) C.hg C.hk C.hs C.ha C.hn C.ht C.hm) I.kIn J e (fun z => nomatch z) fun tk => ⟨.bl b, H, I.kept (t' := tk) fun _ _ z => z, rfl, q⟩
/-- error.f -/
def tErF (K : W.Frag) (n : Str) (te : TE) : TE := fun σ H Q => te σ H fun x H1 => ∃ (a D dx : Addr) (fs : List (Str × V)) (v : V), x = .ref a ∧ XfC K D ∧ W.findIn K (.ref D) n = some none ∧ H1 a = some (exo a D (some dx)) ∧ H1 dx = some (exd dx fs) ∧ fs.lookup n = some v ∧ Q v H1
theorem pe_erF {X : Cx} {e : Expr} {te : TE} {pos : Pos} {n : Str} (he : PE X e te) (hb : attributeBase e n X.env (eval e X.env) = eval e X.env := by rfl) : PE X (.Attribute e n pos) (tErF X.K n te) := by
  refine ⟨fun pins s σ H Q I h => attr_of hb (thn (he.run pins s σ H _ I h) fun u s1 hh => ?_)⟩
  obtain ⟨x, H1, I1, rx, a, D, dx, fs, v, rfl, T, no, ea, ed, l, q⟩ := hh
  obtain rfl : u = Value.ref a := rx
  obtain ⟨t1, ho⟩ := exo_at I1.hok ea
  obtain ⟨mA, hns, rel⟩ := exd_at I1.hok ed
  obtain ⟨od, hd, look⟩ := lookIn_ns hns
  obtain ⟨w, hw, rw'⟩ := RelO.some_of (v := v) (o := mA n) (by rw [← l]; exact rel n)
  have J : W.InstAt s1.heap a _ D (some od) := ⟨ho, rfl, rfl, hd⟩
  exact HandSPX.exc_get I1.kIn J T.ga T.gg T.exC (W.findObj_own T.hdC no rfl (by rw [look, hw])) (handed_of rw') ⟨v, H1, I1.tok _, rw', q⟩
end Er

set_option maxRecDepth 100000
/-! Data without addresses: what values stand for, what a def's frame holds, readings that speak of data alone. -/
namespace DL
open PySem PySem.Spec PyProof.Rows L2

/-- a value that never changes -/
inductive D where
  | non | bl (b : Bool) | int (i : Int) | str (x : Str) | tup (ds : List D) | lst (ds : List D) | dic
  | er0 (x : Str) | er1 (x f : Str) (d : D)
/-- what the written part says of an error's class, called x -/
structure ErC (K : PySem.W.Frag) (x : Str) : Prop where
  ex : ExcC K (He.ga K x)
  no : ∀ n ∈ ["int", "bool", "tuple", "list", "str", "dict"], PySem.W.kitOne K (.ref (He.ga K x)) (.type n) = some false

mutual
inductive IsD (K : PySem.W.Frag) (H : Hp) : D → V → Prop
  | non : IsD K H .non .non
  | bl (b : Bool) : IsD K H (.bl b) (.bl b)
  | int (i : Int) : IsD K H (.int i) (.int i)
  | str (x : Str) : IsD K H (.str x) (.str x)
  | tup {a : Addr} {xs : List V} {ds : List D} : SqT K H a xs → IsAll K H ds xs → IsD K H (.tup ds) (.ref a)
  | lst {a : Addr} {o : Obj} {xs : List V} {ds : List D} : a ≠ sysModules → H a = some (.frz o (.lst xs)) → IsAll K H ds xs → IsD K H (.lst ds) (.ref a)
  | dic {a : Addr} {o : Obj} : H a = some (.frz o (.dK [])) → IsD K H .dic (.ref a)
  | er0 {a : Addr} {x : Str} : ErC K x → H a = some (exo a (He.ga K x) none) → IsD K H (.er0 x) (.ref a)
  | er1 {a dx : Addr} {x f : Str} {v : V} {d : D} : ErC K x → XfC K (He.ga K x) → PySem.W.findIn K (.ref (He.ga K x)) f = some none → H a = some (exo a (He.ga K x) (some dx)) → H dx = some (exd dx [(f, v)]) → IsD K H d v → IsD K H (.er1 x f d) (.ref a)
inductive IsAll (K : PySem.W.Frag) (H : Hp) : List D → List V → Prop
  | nil : IsAll K H [] []
  | cons {d : D} {ds : List D} {v : V} {vs : List V} : IsD K H d v → IsAll K H ds vs → IsAll K H (d :: ds) (v :: vs)
end

/-- tuples stay, and what is frozen -/
structure Tups (H H' : Hp) : Prop where
  t : ∀ a xs, Rd H a (.tup xs) → Rd H' a (.tup xs)
  z : ∀ a o u, H a = some (.frz o u) → H' a = some (.frz o u)
  x : ∀ a φ, H a = some (.ext φ) → H' a = some (.ext φ)
theorem Tups.refl (H : Hp) : Tups H H := ⟨fun _ _ h => h, fun _ _ _ h => h, fun _ _ h => h⟩
theorem Tups.trans {H H1 H2 : Hp} (a : Tups H H1) (b : Tups H1 H2) : Tups H H2 := ⟨fun x o h => b.t x o (a.t x o h), fun x o u h => b.z x o u (a.z x o u h), fun y o h => b.x y o (a.x y o h)⟩
theorem Tups.sq {K : PySem.W.Frag} {H H' : Hp} {a : Addr} {xs : List V} (e : Tups H H') (h : SqT K H a xs) : SqT K H' a xs := by
  rcases h with h | h
  · exact Or.inl (e.t _ _ h)
  · exact Or.inr h
theorem rd_upd {H : Hp} {p a : Addr} {o u : HO} (h : Rd H a u) (hp : p ≠ a) : Rd (upd H p o) a u := by
  rcases h with h | ⟨z, h⟩
  · exact .inl (by rw [upd_ne (fun e => hp e.symm)]; exact h)
  · exact .inr ⟨z, by rw [upd_ne (fun e => hp e.symm)]; exact h⟩
theorem rd_ne {H : Hp} {a b : Addr} {u : HO} (h : Rd H a u) (hb : H b = none) : b ≠ a := by
  intro e
  subst e
  rcases h with h | ⟨z, h⟩ <;> rw [hb] at h <;> cases h
theorem Tups.new {H : Hp} {p : Addr} {o : HO} (h : H p = none) : Tups H (upd H p o) := ⟨fun a xs r => rd_upd r (rd_ne r h), fun a o u r => by
  rw [upd_ne (fun e => by rw [e, h] at r; cases r)]
  exact r, fun a o r => by
  rw [upd_ne (fun e => by rw [e, h] at r; cases r)]
  exact r⟩
theorem Tups.mut {H : Hp} {p : Addr} {xs : List V} {o : HO} (h : H p = some (.lst xs)) : Tups H (upd H p o) := ⟨fun a ys r => rd_upd r (by
  rintro rfl
  rcases r with r | ⟨z, r⟩ <;> rw [h] at r <;> cases r), fun a o u r => by
  rw [upd_ne (fun e => by rw [e, h] at r; cases r)]
  exact r, fun a o r => by
  rw [upd_ne (fun e => by rw [e, h] at r; cases r)]
  exact r⟩

mutual
theorem IsD.to {K : PySem.W.Frag} {H H' : Hp} (e : Tups H H') : ∀ {d : D} {v : V}, IsD K H d v → IsD K H' d v
  | _, _, .non => .non
  | _, _, .bl b => .bl b
  | _, _, .int i => .int i
  | _, _, .str x => .str x
  | _, _, .tup h t => .tup (e.sq h) (IsAll.to e t)
  | _, _, .lst n h t => .lst n (e.z _ _ _ h) (IsAll.to e t)
  | _, _, .dic h => .dic (e.z _ _ _ h)
  | _, _, .er0 c h => .er0 c (e.x _ _ h)
  | _, _, .er1 c g n h k r => .er1 c g n (e.x _ _ h) (e.x _ _ k) (IsD.to e r)
theorem IsAll.to {K : PySem.W.Frag} {H H' : Hp} (e : Tups H H') : ∀ {ds : List D} {vs : List V}, IsAll K H ds vs → IsAll K H' ds vs
  | _, _, .nil => .nil
  | _, _, .cons h t => .cons (IsD.to e h) (IsAll.to e t)
end
section
variable {K : PySem.W.Frag} {H : Hp}
theorem IsAll.length : ∀ {ds : List D} {vs : List V}, IsAll K H ds vs → ds.length = vs.length
  | _, _, .nil => rfl
  | _, _, .cons _ t => by rw [List.length_cons, List.length_cons, t.length]
theorem IsAll.app : ∀ {ds es : List D} {vs ws : List V}, IsAll K H ds vs → IsAll K H es ws → IsAll K H (ds ++ es) (vs ++ ws)
  | _, _, _, _, .nil, s => s
  | _, _, _, _, .cons h t, s => .cons h (t.app s)
theorem IsAll.get : ∀ {ds : List D} {vs : List V}, IsAll K H ds vs → ∀ (i : Nat) {d : D}, ds[i]? = some d → ∃ v, vs[i]? = some v ∧ IsD K H d v
  | _, _, .nil, _, _, e => by simp at e
  | _, _, .cons h t, 0, d, e => by
    simp at e
    subst e
    exact ⟨_, rfl, h⟩
  | _, _, .cons h t, i + 1, d, e => by
    obtain ⟨v, e1, h1⟩ := t.get i (d := d) (by simpa using e)
    exact ⟨v, by simpa using e1, h1⟩
theorem IsAll.get' : ∀ {ds : List D} {vs : List V}, IsAll K H ds vs → ∀ (i : Nat) {v : V}, vs[i]? = some v → ∃ d, ds[i]? = some d ∧ IsD K H d v
  | _, _, .nil, _, _, e => by simp at e
  | _, _, .cons h t, 0, d, e => by
    simp at e
    subst e
    exact ⟨_, rfl, h⟩
  | _, _, .cons h t, i + 1, d, e => by
    obtain ⟨v, e1, h1⟩ := t.get' i (v := d) (by simpa using e)
    exact ⟨v, by simpa using e1, h1⟩
theorem IsAll.take : ∀ {ds : List D} {vs : List V} (n : Nat), IsAll K H ds vs → IsAll K H (ds.take n) (vs.take n)
  | _, _, 0, _ => by
    rw [List.take_zero, List.take_zero]
    exact .nil
  | _, _, n + 1, .nil => by
    rw [List.take_nil, List.take_nil]
    exact .nil
  | _, _, n + 1, .cons h t => by
    rw [List.take_succ_cons, List.take_succ_cons]
    exact .cons h (t.take n)
theorem IsAll.drop : ∀ {ds : List D} {vs : List V} (n : Nat), IsAll K H ds vs → IsAll K H (ds.drop n) (vs.drop n)
  | _, _, 0, t => t
  | _, _, n + 1, .nil => by
    rw [List.drop_nil, List.drop_nil]
    exact .nil
  | _, _, n + 1, .cons h t => t.drop n
theorem IsAll.set : ∀ {ds : List D} {vs : List V} {d : D} {v : V} (n : Nat), IsAll K H ds vs → IsD K H d v → IsAll K H (ds.set n d) (vs.set n v)
  | _, _, _, _, _, .nil, _ => .nil
  | _, _, _, _, 0, .cons _ t, s => .cons s t
  | _, _, _, _, n + 1, .cons h t, s => .cons h (t.set n s)
theorem IsAll.rev {ds : List D} {vs : List V} (t : IsAll K H ds vs) : IsAll K H ds.reverse vs.reverse := by
  induction ds generalizing vs with
  | nil => cases t; exact .nil
  | cons d ds ih =>
    cases t with
    | cons h t =>
      rw [List.reverse_cons, List.reverse_cons]
      exact (ih t).app (.cons h .nil)
theorem IsAll.ints : ∀ (ns : List Int), IsAll K H (ns.map D.int) (ns.map V.int)
  | [] => .nil
  | n :: ns => .cons (.int n) (IsAll.ints ns)
theorem IsAll.ints_inv : ∀ {ns : List Int} {vs : List V}, IsAll K H (ns.map D.int) vs → vs = ns.map V.int
  | [], _, t => by cases t; rfl
  | n :: ns, _, t => by
    cases t with
    | cons h t =>
      cases h
      rw [t.ints_inv]
      rfl
end

/-! ### the deck -/
structure Dk where
  d : Addr
  d0 : Addr
  d1 : Addr
def inDk : Option Dk → Addr → Prop
  | none, _ => False
  | some k, a => a = k.d ∨ a = k.d0 ∨ a = k.d1
/-- what stands in the deck's three lists -/
structure DkAt (k : Dk) (H : Hp) (ns ms : List Int) (c : Int) : Prop where
  n1 : k.d ≠ k.d0
  n2 : k.d ≠ k.d1
  n3 : k.d0 ≠ k.d1
  h : H k.d = some (.lst [.ref k.d0, .ref k.d1, .int c])
  h0 : H k.d0 = some (.lst (ns.map V.int))
  h1 : H k.d1 = some (.lst (ms.map V.int))
  p0 : ∀ n ∈ ns, 0 ≤ n
  p1 : ∀ n ∈ ms, 0 ≤ n
  l0 : ns.length ≤ 64
  l1 : ms.length ≤ 64
  ne : ms ≠ []
  pc : 0 ≤ c
def DkInv : Option Dk → Hp → Prop
  | none, _ => True
  | some k, H => ∃ ns ms c, DkAt k H ns ms c
theorem inDk_some {dk : Option Dk} {H : Hp} {a : Addr} (i : DkInv dk H) (h : inDk dk a) : ∃ xs, H a = some (.lst xs) := by
  cases dk with
  | none => exact h.elim
  | some k =>
    obtain ⟨ns, ms, c, z⟩ := i
    rcases h with rfl | rfl | rfl
    · exact ⟨_, z.h⟩
    · exact ⟨_, z.h0⟩
    · exact ⟨_, z.h1⟩
theorem notDk_none {dk : Option Dk} {H : Hp} {a : Addr} (i : DkInv dk H) (h : H a = none) : ¬ inDk dk a := fun z => by
  obtain ⟨xs, e⟩ := inDk_some i z
  rw [h] at e
  cases e
theorem DkInv.upd {dk : Option Dk} {H : Hp} {p : Addr} {o : HO} (i : DkInv dk H) (h : ¬ inDk dk p) : DkInv dk (upd H p o) := by
  cases dk with
  | none => exact trivial
  | some k =>
    obtain ⟨ns, ms, c, z⟩ := i
    have a : k.d ≠ p := fun e => h (.inl e.symm)
    have b : k.d0 ≠ p := fun e => h (.inr (.inl e.symm))
    have e : k.d1 ≠ p := fun e => h (.inr (.inr e.symm))
    exact ⟨ns, ms, c, ⟨z.n1, z.n2, z.n3, by rw [upd_ne a]; exact z.h, by rw [upd_ne b]; exact z.h0, by rw [upd_ne e]; exact z.h1, z.p0, z.p1, z.l0, z.l1, z.ne, z.pc⟩⟩

/-- all that is tracked stays but the deck's lists, which stay a deck -/
structure Ext (dk : Option Dk) (H H' : Hp) : Prop where
  keep : ∀ a o, H a = some o → ¬ inDk dk a → H' a = some o
  tup : Tups H H'
  inv : DkInv dk H → DkInv dk H'
theorem Ext.refl {dk : Option Dk} (H : Hp) : Ext dk H H := ⟨fun _ _ h _ => h, Tups.refl H, fun h => h⟩
theorem Ext.trans {dk : Option Dk} {H H1 H2 : Hp} (a : Ext dk H H1) (b : Ext dk H1 H2) : Ext dk H H2 :=
  ⟨fun x o h n => b.keep x o (a.keep x o h n) n, a.tup.trans b.tup, fun h => b.inv (a.inv h)⟩
theorem Ext.new {dk : Option Dk} {H : Hp} {p : Addr} {o : HO} (i : DkInv dk H) (h : H p = none) : Ext dk H (upd H p o) :=
  ⟨fun a u e _ => by rw [upd_ne (ne_of_none e h)]; exact e, Tups.new h, fun i => i.upd (notDk_none i h)⟩
theorem Ext.none_back {dk : Option Dk} {H H' : Hp} {p : Addr} (i : DkInv dk H) (e : Ext dk H H') (h : H' p = none) : H p = none := by
  cases q : H p with
  | none => rfl
  | some o =>
    by_cases z : inDk dk p
    · obtain ⟨xs, u⟩ := inDk_some (e.inv i) z
      rw [h] at u
      cases u
    · rw [e.keep p o q z] at h
      cases h
theorem Ext.rd {dk : Option Dk} {H H' : Hp} {p : Addr} {u : HO} (e : Ext dk H H') (n : ¬ inDk dk p) (h : Rd H p u) : Rd H' p u := by
  rcases h with h | ⟨o, h⟩
  · exact .inl (e.keep _ _ h n)
  · exact .inr ⟨o, e.keep _ _ h n⟩

/-! ### a frame -/
/-- what a slot holds: data; a list of data (true: this def's own, that it may change); the deck -/
inductive Sv where
  | val (d : D) | lst (own : Bool) (a : Addr) (ds : List D) | deck | scr (ns : List Int)
abbrev En := List (Option Sv)
/-- what a loop walks, held as it stands: lists, data -/
structure Pn where
  l : List (Addr × List D)
  v : List (D × V)
def ListAt (K : PySem.W.Frag) (H : Hp) (a : Addr) (ds : List D) : Prop := ∃ xs, Rd H a (.lst xs) ∧ IsAll K H ds xs
def OwnAt (K : PySem.W.Frag) (H : Hp) (a : Addr) (ds : List D) : Prop := ∃ xs, H a = some (.lst xs) ∧ IsAll K H ds xs
theorem OwnAt.list {K : PySem.W.Frag} {H : Hp} {a : Addr} {ds : List D} (h : OwnAt K H a ds) : ListAt K H a ds := let ⟨xs, e, t⟩ := h; ⟨xs, .inl e, t⟩
def SvOk (K : PySem.W.Frag) (dk : Option Dk) (B H : Hp) : Sv → V → Prop
  | .val d, v => IsD K H d v
  | .lst true a ds, v => v = .ref a ∧ ¬ inDk dk a ∧ B a = none ∧ OwnAt K H a ds
  | .lst false a ds, v => v = .ref a ∧ ¬ inDk dk a ∧ ListAt K H a ds
  | .deck, v => ∃ k, dk = some k ∧ v = .ref k.d
  | .scr ns, v => ∃ a, v = .ref a ∧ ¬ inDk dk a ∧ SqL K B a (ns.map V.int)
def SvOk.to {K : PySem.W.Frag} {dk : Option Dk} {B H H' : Hp} (e : Ext dk H H') : ∀ {sv : Sv} {v : V}, SvOk K dk B H sv v → SvOk K dk B H' sv v
  | .val _, _, h => IsD.to e.tup h
  | .lst true _ _, _, ⟨a, b, c, xs, h, t⟩ => ⟨a, b, c, xs, e.keep _ _ h b, t.to e.tup⟩
  | .lst false _ _, _, ⟨a, b, xs, h, t⟩ => ⟨a, b, xs, e.rd b h, t.to e.tup⟩
  | .deck, _, h => h
  | .scr _, _, h => h
structure Rel (K : PySem.W.Frag) (dk : Option Dk) (B : Hp) (pn : Pn) (σ : L2.St) (H : Hp) (env : En) : Prop where
  len : σ.length = env.length
  ok : ∀ (i : Nat) (sv : Sv), env[i]? = some (some sv) → ∃ v : V, σ[i]? = some (some v) ∧ SvOk K dk B H sv v
  inj : ∀ (i j : Nat) (a : Addr) (ds : List D) (o : Bool) (ds' : List D), env[i]? = some (some (.lst true a ds)) → env[j]? = some (some (.lst o a ds')) → i = j
  pins : ∀ p ∈ pn.l, ¬ inDk dk p.1 ∧ ListAt K H p.1 p.2
  apart : ∀ p ∈ pn.l, ∀ (i : Nat) (ds : List D), env[i]? ≠ some (some (.lst true p.1 ds))
  vals : ∀ p ∈ pn.v, IsD K H p.1 p.2
  ext : Ext dk B H
  inv : DkInv dk H
  invB : DkInv dk B
section
variable {K : PySem.W.Frag} {dk : Option Dk} {B H H' : Hp} {pn : Pn} {σ : L2.St} {env : En}
theorem Rel.to (R : Rel K dk B pn σ H env) (e : Ext dk H H') : Rel K dk B pn σ H' env :=
  ⟨R.len, fun i sv h => let ⟨v, a, b⟩ := R.ok i sv h; ⟨v, a, b.to e⟩, R.inj, fun p hp => let ⟨a, xs, b, c⟩ := R.pins p hp; ⟨a, xs, e.rd a b, c.to e.tup⟩, R.apart, fun p hp => IsD.to e.tup (R.vals p hp), R.ext.trans e, e.inv R.inv, R.invB⟩
/-- a slot takes data -/
theorem Rel.setV (R : Rel K dk B pn σ H env) (i : Nat) {d : D} {v : V} (h : IsD K H d v) : Rel K dk B pn (σ.set i (some v)) H (env.set i (some (.val d))) where
  len := by rw [List.length_set, List.length_set]; exact R.len
  ok := fun j sv e => by
    by_cases ij : i = j
    · subst ij
      rw [List.getElem?_set] at e
      split at e
      · split at e
        · rename_i hl
          cases e
          refine ⟨v, ?_, h⟩
          rw [List.getElem?_set, if_pos rfl, if_pos (by rw [R.len]; exact hl)]
        · cases e
      · exact absurd rfl ‹_›
    · rw [List.getElem?_set_ne ij] at e
      rw [List.getElem?_set_ne ij]
      exact R.ok j sv e
  inj := fun a b x ds o ds' e1 e2 => by
    have f : ∀ {c : Nat} {o : Bool} {ds : List D}, (env.set i (some (.val d)))[c]? = some (some (.lst o x ds)) → env[c]? = some (some (.lst o x ds)) := fun {c o ds} e => by
      by_cases ic : i = c
      · subst ic
        rw [List.getElem?_set, if_pos rfl] at e
        split at e <;> cases e
      · rw [List.getElem?_set_ne ic] at e
        exact e
    exact R.inj a b x ds o ds' (f e1) (f e2)
  pins := R.pins
  apart := fun p hp j ds e => by
    by_cases ic : i = j
    · subst ic
      rw [List.getElem?_set, if_pos rfl] at e
      split at e <;> cases e
    · rw [List.getElem?_set_ne ic] at e
      exact R.apart p hp j ds e
  vals := R.vals
  ext := R.ext
  inv := R.inv
  invB := R.invB
/-- an address that no list of the frame has -/
def Free (K : PySem.W.Frag) (pn : Pn) (env : En) (a : Addr) : Prop := (∀ (i : Nat) (o : Bool) (ds : List D), env[i]? ≠ some (some (.lst o a ds))) ∧ ∀ p ∈ pn.l, p.1 ≠ a
theorem Rel.free (R : Rel K dk B pn σ H env) {a : Addr} (h : H a = none) : Free K pn env a := by
  refine ⟨fun i o ds e => ?_, fun p hp z => ?_⟩
  · obtain ⟨v, _, q⟩ := R.ok i _ e
    cases o with
    | true =>
      obtain ⟨_, _, _, xs, e, _⟩ := q
      rw [h] at e
      cases e
    | false =>
      obtain ⟨_, _, xs, e, _⟩ := q
      exact rd_ne e h rfl
  · obtain ⟨_, xs, e, _⟩ := R.pins p hp
    exact rd_ne e h z.symm
/-- a slot takes a new list -/
theorem Rel.setN (R : Rel K dk B pn σ H env) (i : Nat) {a : Addr} {ds : List D} (hb : B a = none) (hd : ¬ inDk dk a) (h : OwnAt K H a ds) (fr : Free K pn env a) : Rel K dk B pn (σ.set i (some (.ref a))) H (env.set i (some (.lst true a ds))) where
  len := by rw [List.length_set, List.length_set]; exact R.len
  ok := fun j sv e => by
    by_cases ij : i = j
    · subst ij
      rw [List.getElem?_set, if_pos rfl] at e
      split at e
      · rename_i hl
        cases e
        refine ⟨_, ?_, rfl, hd, hb, h⟩
        rw [List.getElem?_set, if_pos rfl, if_pos (by rw [R.len]; exact hl)]
      · cases e
    · rw [List.getElem?_set_ne ij] at e
      rw [List.getElem?_set_ne ij]
      exact R.ok j sv e
  inj := fun p q x es o es' e1 e2 => by
    by_cases ip : i = p
    · by_cases iq : i = q
      · exact ip.symm.trans iq
      · subst ip
        rw [List.getElem?_set, if_pos rfl] at e1
        split at e1
        · cases e1
          rw [List.getElem?_set_ne iq] at e2
          exact absurd e2 (fr.1 _ _ _)
        · cases e1
    · rw [List.getElem?_set_ne ip] at e1
      by_cases iq : i = q
      · subst iq
        rw [List.getElem?_set, if_pos rfl] at e2
        split at e2
        · cases e2
          exact absurd e1 (fr.1 _ _ _)
        · cases e2
      · rw [List.getElem?_set_ne iq] at e2
        exact R.inj _ _ _ _ _ _ e1 e2
  pins := R.pins
  apart := fun p hp j es e => by
    by_cases ic : i = j
    · subst ic
      rw [List.getElem?_set, if_pos rfl] at e
      split at e
      · cases e
        exact fr.2 p hp rfl
      · cases e
    · rw [List.getElem?_set_ne ic] at e
      exact R.apart p hp j es e
  vals := R.vals
  ext := R.ext
  inv := R.inv
  invB := R.invB
/-- an own list changes -/
theorem Rel.mut (R : Rel K dk B pn σ H env) {i : Nat} {a : Addr} {ds : List D} (hi : env[i]? = some (some (.lst true a ds))) {xs : List V} {es : List D} (t : IsAll K H es xs) :
    Rel K dk B pn σ (upd H a (.lst xs)) (env.set i (some (.lst true a es))) := by
  obtain ⟨v, hv, rfl, hd, hb, xs0, h0, _⟩ := R.ok i _ hi
  have il : i < env.length := (List.getElem?_eq_some_iff.mp hi).1
  have tp : Tups H (upd H a (.lst xs)) := Tups.mut h0
  have la : ∀ {p : Addr} {fs : List D}, p ≠ a → ListAt K H p fs → ListAt K (upd H a (.lst xs)) p fs := fun {p fs} n ⟨ys, r, q⟩ => ⟨ys, rd_upd r n.symm, q.to tp⟩
  refine ⟨by rw [List.length_set]; exact R.len, fun j sv e => ?_, fun p q x fs o fs' e1 e2 => ?_, fun p hp => ?_, fun p hp j fs e => ?_, fun p hp => IsD.to tp (R.vals p hp), ⟨fun b o e n => ?_, R.ext.tup.trans tp, fun z => (R.ext.inv z).upd hd⟩, R.inv.upd hd, R.invB⟩
  · by_cases ij : i = j
    · subst ij
      rw [List.getElem?_set, if_pos rfl, if_pos il] at e
      cases e
      exact ⟨_, hv, rfl, hd, hb, xs, upd_same, t.to tp⟩
    · rw [List.getElem?_set_ne ij] at e
      obtain ⟨u, hu, q⟩ := R.ok j sv e
      refine ⟨u, hu, ?_⟩
      cases sv with
      | val d => exact IsD.to tp q
      | deck => exact q
      | scr ns => exact q
      | lst o b fs =>
        have nb : b ≠ a := fun z => by
          subst z
          exact ij (R.inj i j _ _ _ _ hi e)
        cases o with
        | true =>
          obtain ⟨q1, q2, q3, ys, q4, q5⟩ := q
          exact ⟨q1, q2, q3, ys, by rw [upd_ne nb]; exact q4, q5.to tp⟩
        | false =>
          obtain ⟨q1, q2, q3⟩ := q
          exact ⟨q1, q2, la nb q3⟩
  · have f : ∀ {c : Nat} {o : Bool} {fs : List D}, (env.set i (some (.lst true a es)))[c]? = some (some (.lst o x fs)) → ∃ gs, env[c]? = some (some (.lst o x gs)) := fun {c o fs} e => by
      by_cases ic : i = c
      · subst ic
        rw [List.getElem?_set, if_pos rfl, if_pos il] at e
        cases e
        exact ⟨_, hi⟩
      · rw [List.getElem?_set_ne ic] at e
        exact ⟨_, e⟩
    obtain ⟨g1, k1⟩ := f e1
    obtain ⟨g2, k2⟩ := f e2
    exact R.inj p q x _ _ _ k1 k2
  · obtain ⟨z, q⟩ := R.pins p hp
    exact ⟨z, la (fun e => R.apart p hp i ds (by rw [e]; exact hi)) q⟩
  · by_cases ic : i = j
    · subst ic
      rw [List.getElem?_set, if_pos rfl, if_pos il] at e
      cases e
      exact R.apart p hp i ds hi
    · rw [List.getElem?_set_ne ic] at e
      exact R.apart p hp j fs e
  · have nb : b ≠ a := fun z => by
      subst z
      rw [hb] at e
      cases e
    rw [upd_ne nb]
    exact R.ext.keep b o e n
/-- an address of nobody's changes -/
theorem Rel.other (R : Rel K dk B pn σ H env) {a : Addr} {xs ys : List V} (hb : B a = none) (hd : ¬ inDk dk a) (h : H a = some (.lst ys)) (fr : Free K pn env a) : Rel K dk B pn σ (upd H a (.lst xs)) env := by
  have tp : Tups H (upd H a (.lst xs)) := Tups.mut h
  have la : ∀ {p : Addr} {fs : List D}, p ≠ a → ListAt K H p fs → ListAt K (upd H a (.lst xs)) p fs := fun {p fs} n ⟨ys, r, q⟩ => ⟨ys, rd_upd r n.symm, q.to tp⟩
  refine ⟨R.len, fun j sv e => ?_, R.inj, fun p hp => ⟨(R.pins p hp).1, la (fr.2 p hp) (R.pins p hp).2⟩, R.apart, fun p hp => IsD.to tp (R.vals p hp), ⟨fun b o e n => ?_, R.ext.tup.trans tp, fun z => (R.ext.inv z).upd hd⟩, R.inv.upd hd, R.invB⟩
  · obtain ⟨u, hu, q⟩ := R.ok j sv e
    refine ⟨u, hu, ?_⟩
    cases sv with
    | val d => exact IsD.to tp q
    | deck => exact q
    | scr ns => exact q
    | lst o b fs =>
      have nb : b ≠ a := fun z => by
        subst z
        exact fr.1 _ _ _ e
      cases o with
      | true =>
        obtain ⟨q1, q2, q3, ys, q4, q5⟩ := q
        exact ⟨q1, q2, q3, ys, by rw [upd_ne nb]; exact q4, q5.to tp⟩
      | false =>
        obtain ⟨q1, q2, q3⟩ := q
        exact ⟨q1, q2, la nb q3⟩
  · have nb : b ≠ a := fun z => by
      subst z
      rw [hb] at e
      cases e
    rw [upd_ne nb]
    exact R.ext.keep b o e n
/-- a list that is walked -/
theorem Rel.pinL (R : Rel K dk B pn σ H env) {a : Addr} {ds : List D} (n : ¬ inDk dk a) (l : ListAt K H a ds) (ap : ∀ (i : Nat) (es : List D), env[i]? ≠ some (some (.lst true a es))) : Rel K dk B ⟨(a, ds) :: pn.l, pn.v⟩ σ H env where
  len := R.len
  ok := R.ok
  inj := R.inj
  pins := fun p hp => by
    rcases List.mem_cons.mp hp with rfl | hp
    · exact ⟨n, l⟩
    · exact R.pins p hp
  apart := fun p hp => by
    rcases List.mem_cons.mp hp with rfl | hp
    · exact ap
    · exact R.apart p hp
  vals := R.vals
  ext := R.ext
  inv := R.inv
  invB := R.invB
theorem Rel.pinV (R : Rel K dk B pn σ H env) {d : D} {v : V} (h : IsD K H d v) : Rel K dk B ⟨pn.l, (d, v) :: pn.v⟩ σ H env where
  len := R.len
  ok := R.ok
  inj := R.inj
  pins := R.pins
  apart := R.apart
  vals := fun p hp => by
    rcases List.mem_cons.mp hp with rfl | hp
    · exact h
    · exact R.vals p hp
  ext := R.ext
  inv := R.inv
  invB := R.invB
def Pn.le (p q : Pn) : Prop := (∀ x ∈ p.l, x ∈ q.l) ∧ ∀ x ∈ p.v, x ∈ q.v
theorem Pn.le.rfl {p : Pn} : p.le p := ⟨fun _ h => h, fun _ h => h⟩
theorem Pn.le.trans {p q r : Pn} (a : p.le q) (b : q.le r) : p.le r := ⟨fun x h => b.1 x (a.1 x h), fun x h => b.2 x (a.2 x h)⟩
theorem Rel.unpin {qn : Pn} (R : Rel K dk B qn σ H env) (h : pn.le qn) : Rel K dk B pn σ H env :=
  ⟨R.len, R.ok, R.inj, fun p hp => R.pins p (h.1 p hp), fun p hp => R.apart p (h.1 p hp), fun p hp => R.vals p (h.2 p hp), R.ext, R.inv, R.invB⟩
/-- an own list is not changed any more -/
theorem Rel.freeze (R : Rel K dk B pn σ H env) {i : Nat} {o : Bool} {a : Addr} {ds : List D} (hi : env[i]? = some (some (.lst o a ds))) : Rel K dk B pn σ H (env.set i (some (.lst false a ds))) := by
  have il : i < env.length := (List.getElem?_eq_some_iff.mp hi).1
  have f : ∀ {c : Nat} {x : Addr} {fs : List D}, (env.set i (some (.lst false a ds)))[c]? = some (some (.lst true x fs)) → c ≠ i ∧ env[c]? = some (some (.lst true x fs)) := fun {c x fs} e => by
    by_cases ic : i = c
    · subst ic
      rw [List.getElem?_set, if_pos rfl, if_pos il] at e
      cases e
    · rw [List.getElem?_set_ne ic] at e
      exact ⟨fun z => ic z.symm, e⟩
  refine ⟨by rw [List.length_set]; exact R.len, fun j sv e => ?_, fun p q x fs w fs' e1 e2 => ?_, R.pins, fun p hp j fs e => R.apart p hp j fs (f e).2, R.vals, R.ext, R.inv, R.invB⟩
  · by_cases ij : i = j
    · subst ij
      rw [List.getElem?_set, if_pos rfl, if_pos il] at e
      cases e
      obtain ⟨v, hv, q⟩ := R.ok _ _ hi
      refine ⟨v, hv, ?_⟩
      cases o with
      | true =>
        obtain ⟨q1, q2, _, q3⟩ := q
        exact ⟨q1, q2, q3.list⟩
      | false => exact q
    · rw [List.getElem?_set_ne ij] at e
      exact R.ok j sv e
  · obtain ⟨_, k1⟩ := f e1
    by_cases iq : i = q
    · subst iq
      rw [List.getElem?_set, if_pos rfl, if_pos il] at e2
      cases e2
      exact R.inj _ _ _ _ _ _ k1 hi
    · rw [List.getElem?_set_ne iq] at e2
      exact R.inj _ _ _ _ _ _ k1 e2
/-- a slot is forgotten -/
theorem Rel.setO (R : Rel K dk B pn σ H env) (i : Nat) : Rel K dk B pn (σ.set i none) H (env.set i none) := by
  have f : ∀ {c : Nat} {sv : Sv}, (env.set i none)[c]? = some (some sv) → i ≠ c ∧ env[c]? = some (some sv) := fun {c sv} e => by
    by_cases ic : i = c
    · subst ic
      rw [List.getElem?_set, if_pos rfl] at e
      split at e <;> cases e
    · rw [List.getElem?_set_ne ic] at e
      exact ⟨ic, e⟩
  refine ⟨by rw [List.length_set, List.length_set]; exact R.len, fun j sv e => ?_, fun p q x fs w fs' e1 e2 => R.inj _ _ _ _ _ _ (f e1).2 (f e2).2, R.pins, fun p hp j fs e => R.apart p hp j fs (f e).2, R.vals, R.ext, R.inv, R.invB⟩
  obtain ⟨n, e⟩ := f e
  obtain ⟨v, hv, q⟩ := R.ok j sv e
  exact ⟨v, by rw [List.getElem?_set_ne n]; exact hv, q⟩
end
end DL

set_option maxRecDepth 100000
namespace DL
open PySem PySem.Spec PyProof.Rows L2

abbrev DT := En → (D → Prop) → Prop
abbrev DB := En → (Bool → Prop) → Prop
abbrev DLs := En → (List D → Prop) → Prop
section
variable (K : PySem.W.Frag)
def tD (t : DT) : TE := fun σ H Q => ∃ dk B pn env, Rel K dk B pn σ H env ∧ t env fun d => ∀ v H', Ext dk H H' → IsD K H' d v → Q v H'
def tTb (t : DB) : TT := fun σ H Q => ∃ dk B pn env, Rel K dk B pn σ H env ∧ t env fun b => ∀ H', Ext dk H H' → Q b H'
/-- a new list -/
def tN (t : DLs) : TE := fun σ H Q => ∃ dk B pn env, Rel K dk B pn σ H env ∧ t env fun ds => ∀ a H', H a = none → Ext dk H H' → OwnAt K H' a ds → Q (.ref a) H'
/-- a list to be read -/
def tR (t : DLs) : TE := fun σ H Q => ∃ dk B pn env, Rel K dk B pn σ H env ∧ t env fun ds => ∀ a H', ¬ inDk dk a → Ext dk H H' → ListAt K H' a ds → Q (.ref a) H'
/-- data, one after another -/
def tAs (t : DLs) : TA := fun σ H Q => ∃ dk B pn env, Rel K dk B pn σ H env ∧ t env fun ds => ∀ vs H', Ext dk H H' → IsAll K H' ds vs → Q vs H'
end
def Mono {α : Type} (t : En → (α → Prop) → Prop) : Prop := ∀ env (P P' : α → Prop), (∀ d, P d → P' d) → t env P → t env P'
structure DE (X : Cx) (e : Expr) (t : DT) : Prop where
  mono : Mono t
  pe : PE X e (tD X.K t)
structure DC (X : Cx) (e : Expr) (t : DB) : Prop where
  mono : Mono t
  pt : PT X e (tTb X.K t)
structure DN (X : Cx) (e : Expr) (t : DLs) : Prop where
  mono : Mono t
  pe : PE X e (tN X.K t)
structure DR (X : Cx) (e : Expr) (t : DLs) : Prop where
  mono : Mono t
  pe : PE X e (tR X.K t)
structure DAs (X : Cx) (es : List Expr) (t : DLs) : Prop where
  mono : Mono t
  pa : PA X es (tAs X.K t)
theorem PE.imp {X : Cx} {e : Expr} {t t' : TE} (h : PE X e t) (i : ∀ σ H Q, t' σ H Q → t σ H Q) : PE X e t' := ⟨fun pins s σ H Q I q => h.run pins s σ H Q I (i _ _ _ q)⟩
theorem PT.imp {X : Cx} {e : Expr} {t t' : TT} (h : PT X e t) (i : ∀ σ H Q, t' σ H Q → t σ H Q) : PT X e t' := ⟨fun pins s σ H Q I q => h.run pins s σ H Q I (i _ _ _ q)⟩
theorem PA.imp {X : Cx} {e : List Expr} {t t' : TA} (h : PA X e t) (i : ∀ σ H Q, t' σ H Q → t σ H Q) : PA X e t' := ⟨fun p pins s σ H Q I q => h.run p pins s σ H Q I (i _ _ _ q)⟩
theorem PS.imp {X : Cx} {e : Stmt} {t t' : TS} (h : PS X e t) (i : ∀ D σ H, t' D σ H → t D σ H) : PS X e t' := ⟨fun pins s σ H D I q => h.run pins s σ H D I (i _ _ _ q)⟩
theorem PSs.imp {X : Cx} {e : List Stmt} {t t' : TS} (h : PSs X e t) (i : ∀ D σ H, t' D σ H → t D σ H) : PSs X e t' := ⟨fun pins s σ H D I q => h.run pins s σ H D I (i _ _ _ q)⟩
theorem PW.imp {X : Cx} {e : Expr} {t t' : TT} (h : PW X e t) (i : ∀ σ H Q, t' σ H Q → t σ H Q) : PW X e t' := ⟨fun w pins s σ H Q I q => h.run w pins s σ H Q I (i _ _ _ q)⟩
section
variable {X : Cx} {a b c e : Expr} {es : List Expr} {pos : Pos} {ta tb tc te : DT} {tl : DLs}
theorem DN.read (h : DN X e tl) : DR X e tl := ⟨h.mono, PE.imp h.pe fun σ H Q ⟨dk, B, pn, env, R, q⟩ => ⟨dk, B, pn, env, R, h.mono env _ _ (fun ds k a H' na ex o => k a H' (notDk_none R.inv na) ex o.list) q⟩⟩

/-! ### names, constants -/
def vAt (env : En) (i : Nat) (Q : D → Prop) : Prop := match env[i]? with
  | some (some (.val d)) => Q d
  | _ => False
def lAt (env : En) (i : Nat) (Q : List D → Prop) : Prop := match env[i]? with
  | some (some (.lst _ _ ds)) => Q ds
  | _ => False
def dVar (i : Nat) : DT := fun env Q => vAt env i Q
def lVar (i : Nat) : DLs := fun env Q => lAt env i Q
theorem vAt_of {env : En} {i : Nat} {Q : D → Prop} (h : vAt env i Q) : ∃ d, env[i]? = some (some (.val d)) ∧ Q d := by
  unfold vAt at h
  split at h
  · exact ⟨_, by assumption, h⟩
  · exact h.elim
theorem vAt_mk {env : En} {i : Nat} {Q : D → Prop} {d : D} (e : env[i]? = some (some (.val d))) (h : Q d) : vAt env i Q := by
  unfold vAt
  rw [e]
  exact h
theorem lAt_of {env : En} {i : Nat} {Q : List D → Prop} (h : lAt env i Q) : ∃ o a ds, env[i]? = some (some (.lst o a ds)) ∧ Q ds := by
  unfold lAt at h
  split at h
  · exact ⟨_, _, _, by assumption, h⟩
  · exact h.elim
theorem lAt_mk {env : En} {i : Nat} {Q : List D → Prop} {o : Bool} {a : Addr} {ds : List D} (e : env[i]? = some (some (.lst o a ds))) (h : Q ds) : lAt env i Q := by
  unfold lAt
  rw [e]
  exact h
theorem de_var {i : Nat} (h : PE X e (tVar i)) : DE X e (dVar i) := by
  refine ⟨fun env P P' i q => ?_, PE.imp h fun σ H Q ⟨dk, B, pn, env, R, q⟩ => ?_⟩
  · obtain ⟨d, e, q⟩ := vAt_of q
    exact vAt_mk e (i d q)
  · obtain ⟨d, e, q⟩ := vAt_of q
    obtain ⟨v, hv, r⟩ := R.ok _ _ e
    exact ⟨v, hv, q v H (Ext.refl H) r⟩
theorem dr_var {i : Nat} (h : PE X e (tVar i)) : DR X e (lVar i) := by
  refine ⟨fun env P P' i q => ?_, PE.imp h fun σ H Q ⟨dk, B, pn, env, R, q⟩ => ?_⟩
  · obtain ⟨o, a, ds, e, q⟩ := lAt_of q
    exact lAt_mk e (i ds q)
  · obtain ⟨o, a, ds, e, q⟩ := lAt_of q
    obtain ⟨v, hv, r⟩ := R.ok _ _ e
    cases o with
    | true =>
      obtain ⟨rfl, n, _, w⟩ := r
      exact ⟨_, hv, q a H n (Ext.refl H) w.list⟩
    | false =>
      obtain ⟨rfl, n, w⟩ := r
      exact ⟨_, hv, q a H n (Ext.refl H) w⟩
def dC (d : D) : DT := fun _ Q => Q d
theorem de_of {d : D} {v : V} (h : PE X e (tC v)) (r : ∀ H, IsD X.K H d v) : DE X e (dC d) :=
  ⟨fun _ _ _ i q => i _ q, PE.imp h fun σ H Q ⟨dk, B, pn, env, R, q⟩ => q v H (Ext.refl H) (r H)⟩
theorem de_int {i : Int} {j} : DE X (.Constant (.int i) j pos) (dC (.int i)) := de_of pe_int fun _ => .int i
theorem de_bl {i : Bool} {j} : DE X (.Constant (.bool i) j pos) (dC (.bl i)) := de_of pe_bl fun _ => .bl i
theorem de_non {j} : DE X (.Constant .none j pos) (dC .non) := de_of pe_non fun _ => .non
theorem de_str {i : Str} {j} : DE X (.Constant (.str i) j pos) (dC (.str i)) := de_of pe_str fun _ => .str i

/-! ### operators -/
def dOp (g : D → D → (D → Prop) → Prop) (ta tb : DT) : DT := fun env Q => ta env fun x => tb env fun y => g x y Q
def OpD (K : PySem.W.Frag) (r : R2) (g : D → D → (D → Prop) → Prop) : Prop :=
  (∀ x y (P P' : D → Prop), (∀ d, P d → P' d) → g x y P → g x y P') ∧
  ∀ (dk : Option Dk) (H : Hp) (d e : D) (x y : V) (Q : VK), DkInv dk H → IsD K H d x → IsD K H e y → g d e (fun z => ∀ v H', Ext dk H H' → IsD K H' z v → Q v H') → r x y H Q
theorem dOp_mono {g : D → D → (D → Prop) → Prop} (hg : ∀ x y (P P' : D → Prop), (∀ d, P d → P' d) → g x y P → g x y P') (ha : Mono ta) (hb : Mono tb) : Mono (dOp g ta tb) :=
  fun env P P' i q => ha env _ _ (fun x q => hb env _ _ (fun y q => hg x y P P' i q) q) q
theorem tOp_of {K : PySem.W.Frag} {r : R2} {g : D → D → (D → Prop) → Prop} (hr : OpD K r g) (ma : Mono ta) (mb : Mono tb) (σ : L2.St) (H : Hp) (Q : VK) (h : tD K (dOp g ta tb) σ H Q) : tOp r (tD K ta) (tD K tb) σ H Q := by
  obtain ⟨dk, B, pn, env, R, q⟩ := h
  refine ⟨dk, B, pn, env, R, ma env _ _ (fun x q v H1 e1 r1 => ?_) q⟩
  have R1 := R.to e1
  refine ⟨dk, B, pn, env, R1, mb env _ _ (fun y q w H2 e2 r2 => ?_) q⟩
  have R2 := R1.to e2
  exact hr.2 dk H2 x y v w Q R2.inv (IsD.to e2.tup r1) r2 (hr.1 x y _ _ (fun z k u H' e u' => k u H' ((e1.trans e2).trans e) u') q)
theorem de_op {op : Operator} {r : R2} {g} (ho : OpR X (binaryOp op) r) (hr : OpD X.K r g) (ha : DE X a ta) (hb : DE X b tb) : DE X (.BinOp a op b pos) (dOp g ta tb) :=
  ⟨dOp_mono hr.1 ha.mono hb.mono, PE.imp (pe_op ho ha.pe hb.pe) (tOp_of hr ha.mono hb.mono)⟩
theorem de_cmp {op : CmpOp} {r : R2} {g} (ho : OpR X (compareOp op) r) (hr : OpD X.K r g) (ha : DE X a ta) (hb : DE X b tb) (hm : behindInMarks op b = false) : DE X (.Compare a [op] [b] pos) (dOp g ta tb) :=
  ⟨dOp_mono hr.1 ha.mono hb.mono, PE.imp (pe_cmpR ho ha.pe hb.pe hm) (tOp_of hr ha.mono hb.mono)⟩
/-- a value that is True or False, as a test -/
def bTest (t : DT) : DB := fun env Q => t env fun d => match d with
  | .bl b => Q b
  | _ => False
theorem bTest_mono (h : Mono ta) : Mono (bTest ta) := fun env P P' i q => h env _ _ (fun d q => by
  cases d <;> first | exact q.elim | exact i _ q) q
theorem dc_cmp {op : CmpOp} {r : R2} {g} (ho : OpR X (compareOp op) r) (hr : OpD X.K r g) (ha : DE X a ta) (hb : DE X b tb) (hm : behindInMarks op b = false) : DC X (.Compare a [op] [b] pos) (bTest (dOp g ta tb)) := by
  refine ⟨bTest_mono (dOp_mono hr.1 ha.mono hb.mono), PT.imp (pt_cmpR ho ha.pe hb.pe hm) fun σ H Q ⟨dk, B, pn, env, R, q⟩ => ?_⟩
  refine tOp_of hr ha.mono hb.mono σ H _ ⟨dk, B, pn, env, R, dOp_mono hr.1 ha.mono hb.mono env _ _ (fun d q v H' e r => ?_) q⟩
  cases d <;> first | exact q.elim | skip
  cases r
  exact ⟨_, rfl, q H' e⟩
theorem dc_val (h : DE X e te) (he : ∀ whole, isTrue e X.env whole = (do let v ← whole; standAt e.pos; holding [v] (truthy v)) := by intro _; rfl) : DC X e (bTest te) := by
  refine ⟨bTest_mono h.mono, PT.imp (pt_val h.pe he) fun σ H Q ⟨dk, B, pn, env, R, q⟩ => ?_⟩
  refine ⟨dk, B, pn, env, R, h.mono env _ _ (fun d q v H' e r => ?_) q⟩
  cases d <;> first | exact q.elim | skip
  cases r
  exact ⟨_, rfl, q H' e⟩
/-- whole numbers -/
def gI (f : Int → Int → D) : D → D → (D → Prop) → Prop := fun x y Q => match x, y with
  | .int i, .int j => Q (f i j)
  | _, _ => False
def gIC (C : Int → Int → Prop) (f : Int → Int → D) : D → D → (D → Prop) → Prop := fun x y Q => match x, y with
  | .int i, .int j => C i j ∧ Q (f i j)
  | _, _ => False
theorem opI {K : PySem.W.Frag} {f : Int → Int → V} {g : Int → Int → D} (h : ∀ H i j, IsD K H (g i j) (f i j)) : OpD K (rI0 f) (gI g) := by
  refine ⟨fun x y P P' i q => ?_, fun dk H d e x y Q I rx ry q => ?_⟩
  · cases x <;> cases y <;> first | exact q.elim | exact i _ q
  · cases d <;> cases e <;> first | exact q.elim | skip
    cases rx
    cases ry
    exact ⟨_, _, rfl, rfl, q _ H (Ext.refl H) (h H _ _)⟩
theorem opIC {K : PySem.W.Frag} {C : Int → Int → Prop} {f : Int → Int → V} {g : Int → Int → D} (h : ∀ H i j, IsD K H (g i j) (f i j)) : OpD K (rI C f) (gIC C g) := by
  refine ⟨fun x y P P' i q => ?_, fun dk H d e x y Q I rx ry q => ?_⟩
  · cases x <;> cases y <;> first | exact q.elim | exact ⟨q.1, i _ q.2⟩
  · cases d <;> cases e <;> first | exact q.elim | skip
    cases rx
    cases ry
    exact ⟨_, _, rfl, rfl, q.1, q.2 _ H (Ext.refl H) (h H _ _)⟩
abbrev gAdd := gI fun i j => .int (i + j)
abbrev gSub := gI fun i j => .int (i - j)
abbrev gMul := gIC CMul fun i j => .int (i * j)
abbrev gDiv := gIC CDivN fun i j => .int (i.fdiv j)
abbrev gMod := gIC (fun _ j => j ≠ 0) fun i j => .int (i.fmod j)
abbrev gShl := gIC CPow fun i j => .int (i * 2 ^ j.toNat)
abbrev gShr := gIC (fun _ j => 0 ≤ j) fun i j => .int (i / 2 ^ j.toNat)
abbrev gPow := gIC CPow fun i j => .int (i ^ j.toNat)
abbrev gAnd := gI fun i j => .int (Builtin.bitAnd i j)
abbrev gOr := gI fun i j => .int (Builtin.bitOr i j)
abbrev gXor := gI fun i j => .int (Builtin.bitXor i j)
abbrev gLt := gI fun i j => .bl (decide (i < j))
abbrev gLe := gI fun i j => .bl (decide (i ≤ j))
abbrev gGt := gI fun i j => .bl (decide (j < i))
abbrev gGe := gI fun i j => .bl (decide (j ≤ i))
theorem de_add (ha : DE X a ta) (hb : DE X b tb) : DE X (.BinOp a .Add b pos) (dOp gAdd ta tb) := de_op op_add (opI fun _ _ _ => .int _) ha hb
theorem de_sub (ha : DE X a ta) (hb : DE X b tb) : DE X (.BinOp a .Sub b pos) (dOp gSub ta tb) := de_op op_sub (opI fun _ _ _ => .int _) ha hb
theorem de_mul (ha : DE X a ta) (hb : DE X b tb) : DE X (.BinOp a .Mult b pos) (dOp gMul ta tb) := de_op op_mul (opIC fun _ _ _ => .int _) ha hb
theorem de_div (ha : DE X a ta) (hb : DE X b tb) : DE X (.BinOp a .FloorDiv b pos) (dOp gDiv ta tb) := de_op op_fdivN (opIC fun _ _ _ => .int _) ha hb
theorem de_mod (ha : DE X a ta) (hb : DE X b tb) : DE X (.BinOp a .Mod b pos) (dOp gMod ta tb) := de_op op_modN (opIC fun _ _ _ => .int _) ha hb
theorem de_pow (ha : DE X a ta) (hb : DE X b tb) : DE X (.BinOp a .Pow b pos) (dOp gPow ta tb) := de_op op_pow (opIC fun _ _ _ => .int _) ha hb
theorem de_shl (ha : DE X a ta) (hb : DE X b tb) : DE X (.BinOp a .LShift b pos) (dOp gShl ta tb) := de_op op_shl (opIC fun _ _ _ => .int _) ha hb
theorem de_shr (ha : DE X a ta) (hb : DE X b tb) : DE X (.BinOp a .RShift b pos) (dOp gShr ta tb) := de_op op_shr (opIC fun _ _ _ => .int _) ha hb
theorem de_and (ha : DE X a ta) (hb : DE X b tb) : DE X (.BinOp a .BitAnd b pos) (dOp gAnd ta tb) := de_op op_and (opI fun _ _ _ => .int _) ha hb
theorem de_bor (ha : DE X a ta) (hb : DE X b tb) : DE X (.BinOp a .BitOr b pos) (dOp gOr ta tb) := de_op op_or (opI fun _ _ _ => .int _) ha hb
theorem de_xor (ha : DE X a ta) (hb : DE X b tb) : DE X (.BinOp a .BitXor b pos) (dOp gXor ta tb) := de_op op_xor (opI fun _ _ _ => .int _) ha hb
theorem de_lt (ha : DE X a ta) (hb : DE X b tb) : DE X (.Compare a [.Lt] [b] pos) (dOp gLt ta tb) := de_cmp op_lt (opI fun _ _ _ => .bl _) ha hb (nomark _)
theorem de_le (ha : DE X a ta) (hb : DE X b tb) : DE X (.Compare a [.LtE] [b] pos) (dOp gLe ta tb) := de_cmp op_le (opI fun _ _ _ => .bl _) ha hb (nomark _)
theorem de_gt (ha : DE X a ta) (hb : DE X b tb) : DE X (.Compare a [.Gt] [b] pos) (dOp gGt ta tb) := de_cmp op_gt (opI fun _ _ _ => .bl _) ha hb (nomark _)
theorem de_ge (ha : DE X a ta) (hb : DE X b tb) : DE X (.Compare a [.GtE] [b] pos) (dOp gGe ta tb) := de_cmp op_ge (opI fun _ _ _ => .bl _) ha hb (nomark _)
theorem dc_lt (ha : DE X a ta) (hb : DE X b tb) : DC X (.Compare a [.Lt] [b] pos) (bTest (dOp gLt ta tb)) := dc_cmp op_lt (opI fun _ _ _ => .bl _) ha hb (nomark _)
theorem dc_le (ha : DE X a ta) (hb : DE X b tb) : DC X (.Compare a [.LtE] [b] pos) (bTest (dOp gLe ta tb)) := dc_cmp op_le (opI fun _ _ _ => .bl _) ha hb (nomark _)
theorem dc_gt (ha : DE X a ta) (hb : DE X b tb) : DC X (.Compare a [.Gt] [b] pos) (bTest (dOp gGt ta tb)) := dc_cmp op_gt (opI fun _ _ _ => .bl _) ha hb (nomark _)
theorem dc_ge (ha : DE X a ta) (hb : DE X b tb) : DC X (.Compare a [.GtE] [b] pos) (bTest (dOp gGe ta tb)) := dc_cmp op_ge (opI fun _ _ _ => .bl _) ha hb (nomark _)
/-- equality of plain things -/
def gEq (neg : Bool) : D → D → (D → Prop) → Prop := fun x y Q => match x, y with
  | .int i, .int j => Q (.bl (neg ^^ decide (i = j)))
  | .str i, .str j => Q (.bl (neg ^^ decide (i = j)))
  | .bl i, .bl j => Q (.bl (neg ^^ decide (i = j)))
  | _, _ => False
theorem gEq_mono {neg : Bool} : ∀ x y (P P' : D → Prop), (∀ d, P d → P' d) → gEq neg x y P → gEq neg x y P' := fun x y P P' i q => by
  cases x <;> cases y <;> first | exact q.elim | exact i _ q
theorem opEq {K : PySem.W.Frag} : OpD K rEq (gEq false) := by
  refine ⟨gEq_mono, fun dk H d e x y Q I rx ry q => ?_⟩
  cases d <;> cases e <;> first | exact q.elim | skip
  all_goals
    cases rx
    cases ry
    refine ⟨rfl, q _ H (Ext.refl H) ?_⟩
    simp only [Bool.false_xor, V.int.injEq, V.str.injEq, V.bl.injEq]
    exact .bl _
theorem opNe {K : PySem.W.Frag} : OpD K rNe (gEq true) := by
  refine ⟨gEq_mono, fun dk H d e x y Q I rx ry q => ?_⟩
  cases d <;> cases e <;> first | exact q.elim | skip
  all_goals
    cases rx
    cases ry
    refine ⟨rfl, q _ H (Ext.refl H) ?_⟩
    simp only [Bool.true_xor, V.int.injEq, V.str.injEq, V.bl.injEq]
    exact .bl _
theorem de_eq (ha : DE X a ta) (hb : DE X b tb) : DE X (.Compare a [.Eq] [b] pos) (dOp (gEq false) ta tb) := de_cmp op_eq opEq ha hb (nomark _)
theorem de_ne (ha : DE X a ta) (hb : DE X b tb) : DE X (.Compare a [.NotEq] [b] pos) (dOp (gEq true) ta tb) := de_cmp op_ne opNe ha hb (nomark _)
theorem dc_eq (ha : DE X a ta) (hb : DE X b tb) : DC X (.Compare a [.Eq] [b] pos) (bTest (dOp (gEq false) ta tb)) := dc_cmp op_eq opEq ha hb (nomark _)
theorem dc_ne (ha : DE X a ta) (hb : DE X b tb) : DC X (.Compare a [.NotEq] [b] pos) (bTest (dOp (gEq true) ta tb)) := dc_cmp op_ne opNe ha hb (nomark _)
/-- tuples put together -/
def gCat : D → D → (D → Prop) → Prop := fun x y Q => match x, y with
  | .tup i, .tup j => i.length + j.length ≤ 1000000 ∧ Q (.tup (i ++ j))
  | _, _ => False
theorem sz6 {n : Nat} (h : n ≤ 1000000) : n ≤ sizeLine := Nat.le_trans h (by decide)
theorem sz6' {n : Nat} (h : n < 1000000) : n < sizeLine := Nat.lt_of_lt_of_le h (by decide)
theorem opCat {K : PySem.W.Frag} : OpD K (rCatA K) gCat := by
  refine ⟨fun x y P P' i q => ?_, fun dk H d e x y Q I rx ry q => ?_⟩
  · cases x <;> cases y <;> first | exact q.elim | exact ⟨q.1, i _ q.2⟩
  · cases d <;> cases e <;> first | exact q.elim | skip
    cases rx with
    | tup h1 t1 =>
      cases ry with
      | tup h2 t2 =>
        obtain ⟨z, q⟩ := q
        rename_i ds es p xs r ys
        have l1 := t1.length
        have l2 := t2.length
        refine ⟨p, r, xs, ys, rfl, rfl, h1, h2, sz6 (by omega), fun e0 => ?_, fun _ e1 => ?_, fun _ _ u hu => ?_⟩
        · subst e0
          cases t1
          exact q _ H (Ext.refl H) (.tup h2 t2)
        · subst e1
          cases t2
          rw [List.append_nil] at q
          exact q _ H (Ext.refl H) (.tup h1 t1)
        · have ex : Ext dk H (upd H u (.tup (xs ++ ys))) := Ext.new I hu
          exact q _ _ ex (.tup (SqT.of upd_same) ((t1.app t2).to ex.tup))
theorem de_cat (ha : DE X a ta) (hb : DE X b tb) : DE X (.BinOp a .Add b pos) (dOp gCat ta tb) := de_op op_catA opCat ha hb
/-- an item of a tuple -/
def gIx : D → D → (D → Prop) → Prop := fun x y Q => match x, y with
  | .tup i, .int j => (match atI i j with
    | some z => Q z
    | none => False)
  | _, _ => False
theorem atI_all {K : PySem.W.Frag} {H : Hp} {ds : List D} {xs : List V} {i : Int} {d : D} (t : IsAll K H ds xs) (h : atI ds i = some d) : ∃ v, atI xs i = some v ∧ IsD K H d v := by
  unfold atI at h ⊢
  rw [← t.length]
  cases e : ixN ds.length i with
  | none =>
    rw [e] at h
    cases h
  | some j =>
    rw [e] at h
    exact t.get j h
theorem opIx {K : PySem.W.Frag} : OpD K (rIxT K) gIx := by
  refine ⟨fun x y P P' i q => ?_, fun dk H d e x y Q I rx ry q => ?_⟩
  · cases x <;> cases y <;> first | exact q.elim | skip
    unfold gIx at q ⊢
    dsimp only at q ⊢
    split at q
    · exact i _ q
    · exact q
  · cases d <;> cases e <;> first | exact q.elim | skip
    cases rx with
    | tup h1 t1 =>
      cases ry
      unfold gIx at q
      dsimp only at q
      split at q
      · rename_i z hz
        obtain ⟨v, e, r⟩ := atI_all t1 hz
        exact ⟨_, _, _, v, rfl, rfl, h1, e, q v H (Ext.refl H) r⟩
      · exact q.elim
theorem de_ix (ha : DE X a ta) (hb : DE X b tb) (hp : PlainIx b) : DE X (.Subscript a b pos) (dOp gIx ta tb) :=
  ⟨dOp_mono (opIx (K := X.K)).1 ha.mono hb.mono, PE.imp (pe_ix ix_tup ha.pe hb.pe hp) (tOp_of opIx ha.mono hb.mono)⟩
/-- an item of a list -/
def dIxL (tl : DLs) (tb : DT) : DT := fun env Q => tl env fun ds => tb env fun y => match y with
  | .int j => (match atI ds j with
    | some z => Q z
    | none => False)
  | _ => False
theorem de_ixL (ha : DR X a tl) (hb : DE X b tb) (hp : PlainIx b) : DE X (.Subscript a b pos) (dIxL tl tb) := by
  refine ⟨fun env P P' i q => ha.mono env _ _ (fun ds q => hb.mono env _ _ (fun y q => ?_) q) q, PE.imp (pe_ix ix_list ha.pe hb.pe hp) fun σ H Q ⟨dk, B, pn, env, R, q⟩ => ?_⟩
  · cases y <;> first | exact q.elim | skip
    dsimp only at q ⊢
    split at q
    · exact i _ q
    · exact q
  · refine ⟨dk, B, pn, env, R, ha.mono env _ _ (fun ds q a H1 na e1 l1 => ?_) q⟩
    have R1 := R.to e1
    refine ⟨dk, B, pn, env, R1, hb.mono env _ _ (fun y q w H2 e2 r2 => ?_) q⟩
    obtain ⟨xs, l, t⟩ := l1
    have l' : Rd H2 a (.lst xs) := e2.rd na l
    cases y <;> first | exact q.elim | skip
    cases r2
    dsimp only at q
    split at q
    · rename_i z hz
      obtain ⟨v, e, r⟩ := atI_all (t.to e2.tup) hz
      exact ⟨a, xs, _, v, rfl, rfl, .inl l', e, q v H2 (e1.trans e2) r⟩
    · exact q.elim
/-- -i -/
def dNeg (ta : DT) : DT := fun env Q => ta env fun x => match x with
  | .int i => Q (.int (-i))
  | _ => False
theorem de_neg (ha : DE X a ta) : DE X (.UnaryOp .USub a pos) (dNeg ta) := by
  refine ⟨fun env P P' i q => ha.mono env _ _ (fun x q => ?_) q, PE.imp (pe_un un_neg ha.pe) fun σ H Q ⟨dk, B, pn, env, R, q⟩ => ?_⟩
  · cases x <;> first | exact q.elim | exact i _ q
  · refine ⟨dk, B, pn, env, R, ha.mono env _ _ (fun x q v H1 e1 r1 => ?_) q⟩
    cases x <;> first | exact q.elim | skip
    cases r1
    exact ⟨_, rfl, q _ H1 e1 (.int _)⟩
/-- x is None -/
def gIsN (neg : Bool) : D → D → (D → Prop) → Prop := fun x y Q => match y with
  | .non => (match x with
    | .non => Q (.bl (!neg))
    | _ => Q (.bl neg))
  | _ => False
theorem gIsN_mono {neg : Bool} : ∀ x y (P P' : D → Prop), (∀ d, P d → P' d) → gIsN neg x y P → gIsN neg x y P' := fun x y P P' i q => by
  cases y <;> first | exact q.elim | skip
  cases x <;> exact i _ q
theorem opIsN {K : PySem.W.Frag} : OpD K (fun x y H Q => y = .non ∧ Q (.bl (decide (x = .non))) H) (gIsN false) := by
  refine ⟨gIsN_mono, fun dk H d e x y Q I rx ry q => ?_⟩
  cases e <;> first | exact q.elim | skip
  cases ry
  refine ⟨rfl, ?_⟩
  cases d <;> cases rx <;> exact q _ H (Ext.refl H) (.bl _)
theorem opNotN {K : PySem.W.Frag} : OpD K (fun x y H Q => y = .non ∧ Q (.bl (!decide (x = .non))) H) (gIsN true) := by
  refine ⟨gIsN_mono, fun dk H d e x y Q I rx ry q => ?_⟩
  cases e <;> first | exact q.elim | skip
  cases ry
  refine ⟨rfl, ?_⟩
  cases d <;> cases rx <;> exact q _ H (Ext.refl H) (.bl _)
theorem de_isN (ha : DE X a ta) (hb : DE X b tb) : DE X (.Compare a [.Is] [b] pos) (dOp (gIsN false) ta tb) := de_cmp op_isN opIsN ha hb (nomark _)
theorem dc_isN (ha : DE X a ta) (hb : DE X b tb) : DC X (.Compare a [.Is] [b] pos) (bTest (dOp (gIsN false) ta tb)) := dc_cmp op_isN opIsN ha hb (nomark _)
theorem dc_notN (ha : DE X a ta) (hb : DE X b tb) : DC X (.Compare a [.IsNot] [b] pos) (bTest (dOp (gIsN true) ta tb)) := dc_cmp op_notN opNotN ha hb (nomark _)

/-! ### tests together -/
def bAnd (t u : DB) : DB := fun env Q => t env fun x => if x = true then u env Q else Q false
def bOr (t u : DB) : DB := fun env Q => t env fun x => if x = true then Q true else u env Q
def bNot (t : DB) : DB := fun env Q => t env fun x => Q (!x)
structure DW (X : Cx) (e : Expr) (t : DB) : Prop where
  mono : Mono t
  pw : PW X e (tTb X.K t)
theorem DW.dc {t : DB} (h : DW X e t) : DC X e t := ⟨h.mono, h.pw.pt⟩
variable {t u : DB}
theorem bAnd_mono (h : Mono t) (g : Mono u) : Mono (bAnd t u) := fun env P P' i q => h env _ _ (fun x q => by
  cases x with
  | true => exact g env P P' i q
  | false => exact i _ q) q
theorem bOr_mono (h : Mono t) (g : Mono u) : Mono (bOr t u) := fun env P P' i q => h env _ _ (fun x q => by
  cases x with
  | true => exact i _ q
  | false => exact g env P P' i q) q
theorem bNot_mono (h : Mono t) : Mono (bNot t) := fun env P P' i q => h env _ _ (fun x q => i _ q) q
theorem dw_and1 (h : DC X a t) : DW X (.BoolOp .And [a] pos) t := ⟨h.mono, pw_and1 h.pt⟩
theorem dw_or1 (h : DC X a t) : DW X (.BoolOp .Or [a] pos) t := ⟨h.mono, pw_or1 h.pt⟩
theorem dw_and {rest : List Expr} (h : DC X a t) (g : DW X (.BoolOp .And (b :: rest) pos) u) : DW X (.BoolOp .And (a :: b :: rest) pos) (bAnd t u) := by
  refine ⟨bAnd_mono h.mono g.mono, PW.imp (pw_and h.pt g.pw) fun σ H Q ⟨dk, B, pn, env, R, q⟩ => ?_⟩
  refine ⟨dk, B, pn, env, R, h.mono env _ _ (fun x q H1 e1 => ?_) q⟩
  cases x with
  | true =>
    rw [if_pos rfl] at q ⊢
    exact ⟨dk, B, pn, env, R.to e1, g.mono env _ _ (fun y k H2 e2 => k H2 (e1.trans e2)) q⟩
  | false =>
    rw [if_neg Bool.false_ne_true] at q ⊢
    exact q H1 e1
theorem dw_or {rest : List Expr} (h : DC X a t) (g : DW X (.BoolOp .Or (b :: rest) pos) u) : DW X (.BoolOp .Or (a :: b :: rest) pos) (bOr t u) := by
  refine ⟨bOr_mono h.mono g.mono, PW.imp (pw_or h.pt g.pw) fun σ H Q ⟨dk, B, pn, env, R, q⟩ => ?_⟩
  refine ⟨dk, B, pn, env, R, h.mono env _ _ (fun x q H1 e1 => ?_) q⟩
  cases x with
  | true =>
    rw [if_pos rfl] at q ⊢
    exact q H1 e1
  | false =>
    rw [if_neg Bool.false_ne_true] at q ⊢
    exact ⟨dk, B, pn, env, R.to e1, g.mono env _ _ (fun y k H2 e2 => k H2 (e1.trans e2)) q⟩
theorem dc_not (h : DC X a t) : DC X (.UnaryOp .Not a pos) (bNot t) := by
  refine ⟨bNot_mono h.mono, PT.imp (pt_not h.pt) fun σ H Q ⟨dk, B, pn, env, R, q⟩ => ?_⟩
  exact ⟨dk, B, pn, env, R, q⟩
/-- a if t else b -/
def dIf (t : DB) (ta tb : DT) : DT := fun env Q => t env fun x => if x = true then ta env Q else tb env Q
theorem de_if (h : DC X c t) (ha : DE X a ta) (hb : DE X b tb) : DE X (.IfExp c a b pos) (dIf t ta tb) := by
  refine ⟨fun env P P' i q => h.mono env _ _ (fun x q => ?_) q, PE.imp (pe_ifExp h.pt ha.pe hb.pe) fun σ H Q ⟨dk, B, pn, env, R, q⟩ => ?_⟩
  · cases x with
    | true => exact ha.mono env P P' i q
    | false => exact hb.mono env P P' i q
  · refine ⟨dk, B, pn, env, R, h.mono env _ _ (fun x q H1 e1 => ?_) q⟩
    cases x with
    | true =>
      rw [if_pos rfl] at q ⊢
      exact ⟨dk, B, pn, env, R.to e1, ha.mono env _ _ (fun y k v H2 e2 r => k v H2 (e1.trans e2) r) q⟩
    | false =>
      rw [if_neg Bool.false_ne_true] at q ⊢
      exact ⟨dk, B, pn, env, R.to e1, hb.mono env _ _ (fun y k v H2 e2 r => k v H2 (e1.trans e2) r) q⟩

/-! ### tuples and lists written -/
def dNil : DLs := fun _ Q => Q []
def dCons (te : DT) (tl : DLs) : DLs := fun env Q => te env fun d => tl env fun ds => Q (d :: ds)
theorem das_nil : DAs X [] dNil := ⟨fun _ _ _ i q => i _ q, PA.imp pa_nil fun σ H Q ⟨dk, B, pn, env, R, q⟩ => q [] H (Ext.refl H) .nil⟩
theorem das_cons (he : DE X e te) (hr : DAs X es tl) (hs : starEach (e :: es) X.env = (false, eval e X.env) :: starEach es X.env := by rfl) : DAs X (e :: es) (dCons te tl) := by
  refine ⟨fun env P P' i q => he.mono env _ _ (fun d q => hr.mono env _ _ (fun ds q => i _ q) q) q, PA.imp (pa_cons he.pe hr.pa hs) fun σ H Q ⟨dk, B, pn, env, R, q⟩ => ?_⟩
  refine ⟨dk, B, pn, env, R, he.mono env _ _ (fun d q v H1 e1 r1 => ?_) q⟩
  refine ⟨dk, B, pn, env, R.to e1, hr.mono env _ _ (fun ds q vs H2 e2 r2 => ?_) q⟩
  exact q _ H2 (e1.trans e2) (.cons (IsD.to e2.tup r1) r2)
def dTup (tl : DLs) : DT := fun env Q => tl env fun ds => ds.length ≤ 1000000 ∧ Q (.tup ds)
theorem de_tup {k} (h : DAs X es tl) : DE X (.Tuple es k pos) (dTup tl) := by
  refine ⟨fun env P P' i q => h.mono env _ _ (fun ds q => ⟨q.1, i _ q.2⟩) q, PE.imp (pe_tup h.pa) fun σ H Q ⟨dk, B, pn, env, R, q⟩ => ?_⟩
  refine ⟨dk, B, pn, env, R, h.mono env _ _ (fun ds q vs H1 e1 r1 => ?_) q⟩
  obtain ⟨z, q⟩ := q
  refine ⟨sz6 (by rw [← r1.length]; exact z), fun p hp => ?_⟩
  have ex : Ext dk H1 (upd H1 p (.tup vs)) := Ext.new (R.to e1).inv hp
  exact q _ _ (e1.trans ex) (.tup (SqT.of upd_same) (r1.to ex.tup))
def dLst (tl : DLs) : DLs := fun env Q => tl env fun ds => ds.length ≤ 1000000 ∧ Q ds
theorem dn_lst (h : DAs X es tl) : DN X (.List es pos) (dLst tl) := by
  refine ⟨fun env P P' i q => h.mono env _ _ (fun ds q => ⟨q.1, i _ q.2⟩) q, PE.imp (pe_lst h.pa) fun σ H Q ⟨dk, B, pn, env, R, q⟩ => ?_⟩
  refine ⟨dk, B, pn, env, R, h.mono env _ _ (fun ds q vs H1 e1 r1 => ?_) q⟩
  obtain ⟨z, q⟩ := q
  refine ⟨sz6 (by rw [← r1.length]; exact z), fun p hp => ?_⟩
  have ex : Ext dk H1 (upd H1 p (.lst vs)) := Ext.new (R.to e1).inv hp
  exact q p _ (e1.none_back R.inv hp) (e1.trans ex) ⟨vs, upd_same, r1.to ex.tup⟩
end
end DL

set_option maxRecDepth 100000
namespace DL
open PySem PySem.Spec PyProof.Rows L2

/-! ### arguments of all kinds -/
inductive Ar where
  | val (d : D) | lst (ds : List D) | deck
def ArOk (K : PySem.W.Frag) (dk : Option Dk) (H : Hp) : Ar → V → Prop
  | .val d, v => IsD K H d v
  | .lst ds, v => ∃ a, v = .ref a ∧ ¬ inDk dk a ∧ ListAt K H a ds
  | .deck, v => ∃ k, dk = some k ∧ v = .ref k.d
inductive ArsOk (K : PySem.W.Frag) (dk : Option Dk) (H : Hp) : List Ar → List V → Prop
  | nil : ArsOk K dk H [] []
  | cons {r : Ar} {rs : List Ar} {v : V} {vs : List V} : ArOk K dk H r v → ArsOk K dk H rs vs → ArsOk K dk H (r :: rs) (v :: vs)
theorem ArOk.to {K : PySem.W.Frag} {dk : Option Dk} {H H' : Hp} (e : Ext dk H H') : ∀ {r : Ar} {v : V}, ArOk K dk H r v → ArOk K dk H' r v
  | .val _, _, h => IsD.to e.tup h
  | .lst _, _, ⟨a, x, n, xs, r, t⟩ => ⟨a, x, n, xs, e.rd n r, t.to e.tup⟩
  | .deck, _, h => h
theorem ArsOk.to {K : PySem.W.Frag} {dk : Option Dk} {H H' : Hp} (e : Ext dk H H') : ∀ {r : List Ar} {v : List V}, ArsOk K dk H r v → ArsOk K dk H' r v
  | _, _, .nil => .nil
  | _, _, .cons h t => .cons (h.to e) (t.to e)
theorem ArsOk.length {K : PySem.W.Frag} {dk : Option Dk} {H : Hp} : ∀ {r : List Ar} {v : List V}, ArsOk K dk H r v → v.length = r.length
  | _, _, .nil => rfl
  | _, _, .cons _ t => by rw [List.length_cons, List.length_cons, t.length]
abbrev DA0 := En → (List Ar → Prop) → Prop
def tA (K : PySem.W.Frag) (t : DA0) : TA := fun σ H Q => ∃ dk B pn env, Rel K dk B pn σ H env ∧ t env fun as => ∀ vs H', Ext dk H H' → ArsOk K dk H' as vs → Q vs H'
structure DA (X : Cx) (es : List Expr) (t : DA0) : Prop where
  mono : Mono t
  pa : PA X es (tA X.K t)
def aNil : DA0 := fun _ Q => Q []
def aVal (te : DT) (t : DA0) : DA0 := fun env Q => te env fun d => t env fun as => Q (.val d :: as)
def aLst (te : DLs) (t : DA0) : DA0 := fun env Q => te env fun d => t env fun as => Q (.lst d :: as)
def aDeck (i : Nat) (t : DA0) : DA0 := fun env Q => env[i]? = some (some .deck) ∧ t env fun as => Q (.deck :: as)
section
variable {X : Cx} {a b c e : Expr} {es : List Expr} {pos p : Pos} {ta tb tc te : DT} {tl : DLs} {t : DA0}
theorem da_nil : DA X [] aNil := ⟨fun _ _ _ i q => i _ q, PA.imp pa_nil fun σ H Q ⟨dk, B, pn, env, R, q⟩ => q [] H (Ext.refl H) .nil⟩
theorem da_val (he : DE X e te) (hr : DA X es t) (hs : starEach (e :: es) X.env = (false, eval e X.env) :: starEach es X.env := by rfl) : DA X (e :: es) (aVal te t) := by
  refine ⟨fun env P P' i q => he.mono env _ _ (fun d q => hr.mono env _ _ (fun ds q => i _ q) q) q, PA.imp (pa_cons he.pe hr.pa hs) fun σ H Q ⟨dk, B, pn, env, R, q⟩ => ?_⟩
  refine ⟨dk, B, pn, env, R, he.mono env _ _ (fun d q v H1 e1 r1 => ?_) q⟩
  refine ⟨dk, B, pn, env, R.to e1, hr.mono env _ _ (fun ds q vs H2 e2 r2 => ?_) q⟩
  exact q _ H2 (e1.trans e2) (.cons (IsD.to e2.tup r1) r2)
theorem da_lst (he : DR X e tl) (hr : DA X es t) (hs : starEach (e :: es) X.env = (false, eval e X.env) :: starEach es X.env := by rfl) : DA X (e :: es) (aLst tl t) := by
  refine ⟨fun env P P' i q => he.mono env _ _ (fun d q => hr.mono env _ _ (fun ds q => i _ q) q) q, PA.imp (pa_cons he.pe hr.pa hs) fun σ H Q ⟨dk, B, pn, env, R, q⟩ => ?_⟩
  refine ⟨dk, B, pn, env, R, he.mono env _ _ (fun d q a H1 n1 e1 r1 => ?_) q⟩
  refine ⟨dk, B, pn, env, R.to e1, hr.mono env _ _ (fun ds q vs H2 e2 r2 => ?_) q⟩
  exact q _ H2 (e1.trans e2) (.cons (ArOk.to e2 (r := .lst d) ⟨a, rfl, n1, r1⟩) r2)
theorem da_deck {i : Nat} (he : PE X e (tVar i)) (hr : DA X es t) (hs : starEach (e :: es) X.env = (false, eval e X.env) :: starEach es X.env := by rfl) : DA X (e :: es) (aDeck i t) := by
  refine ⟨fun env P P' i q => ⟨q.1, hr.mono env _ _ (fun ds q => i _ q) q.2⟩, PA.imp (pa_cons he hr.pa hs) fun σ H Q ⟨dk, B, pn, env, R, q⟩ => ?_⟩
  obtain ⟨hi, q⟩ := q
  obtain ⟨v, hv, k, hk, rfl⟩ := R.ok _ _ hi
  refine ⟨_, hv, dk, B, pn, env, R, hr.mono env _ _ (fun ds q vs H2 e2 r2 => ?_) q⟩
  exact q _ H2 e2 (.cons (r := .deck) ⟨k, hk, rfl⟩ r2)

/-! ### calls of what is built in -/
abbrev G1 (α : Type) := List Ar → (α → Prop) → Prop
def CbD (K : PySem.W.Frag) (r : List V → Hp → VK → Prop) (g : G1 D) : Prop :=
  (∀ as (P P' : D → Prop), (∀ d, P d → P' d) → g as P → g as P') ∧
  ∀ (dk : Option Dk) (H : Hp) (as : List Ar) (vs : List V) (Q : VK), DkInv dk H → ArsOk K dk H as vs → g as (fun z => ∀ v H', Ext dk H H' → IsD K H' z v → Q v H') → r vs H Q
def CbN (K : PySem.W.Frag) (r : List V → Hp → VK → Prop) (g : G1 (List D)) : Prop :=
  (∀ as (P P' : List D → Prop), (∀ d, P d → P' d) → g as P → g as P') ∧
  ∀ (dk : Option Dk) (H : Hp) (as : List Ar) (vs : List V) (Q : VK), DkInv dk H → ArsOk K dk H as vs → g as (fun z => ∀ a H', H a = none → Ext dk H H' → OwnAt K H' a z → Q (.ref a) H') → r vs H Q
def aCall {α : Type} (g : G1 α) (t : DA0) : En → (α → Prop) → Prop := fun env Q => t env fun as => g as Q
theorem aCall_mono {α : Type} {g : G1 α} (hg : ∀ as (P P' : α → Prop), (∀ d, P d → P' d) → g as P → g as P') (h : Mono t) : Mono (aCall g t) := fun env P P' i q => h env _ _ (fun as q => hg as P P' i q) q
theorem tCB_of {K : PySem.W.Frag} {r : List V → Hp → VK → Prop} {g : G1 D} (hr : CbD K r g) (m : Mono t) (σ : L2.St) (H : Hp) (Q : VK) (h : tD K (aCall g t) σ H Q) : tCB r (tA K t) σ H Q := by
  obtain ⟨dk, B, pn, env, R, q⟩ := h
  refine ⟨dk, B, pn, env, R, m env _ _ (fun as q vs H1 e1 r1 => ?_) q⟩
  exact hr.2 dk H1 as vs Q (R.to e1).inv r1 (hr.1 as _ _ (fun z k v H' e u => k v H' (e1.trans e) u) q)
theorem tCB_ofN {K : PySem.W.Frag} {r : List V → Hp → VK → Prop} {g : G1 (List D)} (hr : CbN K r g) (m : Mono t) (σ : L2.St) (H : Hp) (Q : VK) (h : tN K (aCall g t) σ H Q) : tCB r (tA K t) σ H Q := by
  obtain ⟨dk, B, pn, env, R, q⟩ := h
  refine ⟨dk, B, pn, env, R, m env _ _ (fun as q vs H1 e1 r1 => ?_) q⟩
  exact hr.2 dk H1 as vs Q (R.to e1).inv r1 (hr.1 as _ _ (fun z k v H' n e u => k v H' (e1.none_back R.inv n) (e1.trans e) u) q)
variable {id T : String} {x : Str} {r : List V → Hp → VK → Prop}
theorem de_cb {g : G1 D} (hc : CallR X (.builtin id) r) (hr : CbD X.K r g) (hg : Gl X x) (hm : X.mg x = none) (hv : bootBuiltins x = some (.builtin id)) (ha : DA X (e :: es) t) (hn : x ≠ "__name__" := by decide) (hdb : (x == ("__debug__" : Str)) = false := by decide)
    (he : starEach (e :: es) X.env = (false, eval e X.env) :: starEach es X.env := by rfl) (hpl : (backTo pos (starEach es X.env)).any (·.1) = false := by rfl) : DE X (.Call (.Name x p) (e :: es) [] pos) (aCall g t) :=
  ⟨aCall_mono hr.1 ha.mono, PE.imp (pe_callB hc hg hm hv ha.pa hn hdb he hpl) (tCB_of hr ha.mono)⟩
theorem de_ct {g : G1 D} (hc : CallR X (.type T) r) (hr : CbD X.K r g) (hg : Gl X x) (hm : X.mg x = none) (hv : bootBuiltins x = some (.type T)) (ha : DA X (e :: es) t) (hn : x ≠ "__name__" := by decide) (hdb : (x == ("__debug__" : Str)) = false := by decide)
    (he : starEach (e :: es) X.env = (false, eval e X.env) :: starEach es X.env := by rfl) (hpl : (backTo pos (starEach es X.env)).any (·.1) = false := by rfl) : DE X (.Call (.Name x p) (e :: es) [] pos) (aCall g t) :=
  ⟨aCall_mono hr.1 ha.mono, PE.imp (pe_callTy hc hg hm hv ha.pa hn hdb he hpl) (tCB_of hr ha.mono)⟩
theorem dn_cb {g : G1 (List D)} (hc : CallR X (.builtin id) r) (hr : CbN X.K r g) (hg : Gl X x) (hm : X.mg x = none) (hv : bootBuiltins x = some (.builtin id)) (ha : DA X (e :: es) t) (hn : x ≠ "__name__" := by decide) (hdb : (x == ("__debug__" : Str)) = false := by decide)
    (he : starEach (e :: es) X.env = (false, eval e X.env) :: starEach es X.env := by rfl) (hpl : (backTo pos (starEach es X.env)).any (·.1) = false := by rfl) : DN X (.Call (.Name x p) (e :: es) [] pos) (aCall g t) :=
  ⟨aCall_mono hr.1 ha.mono, PE.imp (pe_callB hc hg hm hv ha.pa hn hdb he hpl) (tCB_ofN hr ha.mono)⟩
theorem dn_ct {g : G1 (List D)} (hc : CallR X (.type T) r) (hr : CbN X.K r g) (hg : Gl X x) (hm : X.mg x = none) (hv : bootBuiltins x = some (.type T)) (ha : DA X (e :: es) t) (hn : x ≠ "__name__" := by decide) (hdb : (x == ("__debug__" : Str)) = false := by decide)
    (he : starEach (e :: es) X.env = (false, eval e X.env) :: starEach es X.env := by rfl) (hpl : (backTo pos (starEach es X.env)).any (·.1) = false := by rfl) : DN X (.Call (.Name x p) (e :: es) [] pos) (aCall g t) :=
  ⟨aCall_mono hr.1 ha.mono, PE.imp (pe_callTy hc hg hm hv ha.pa hn hdb he hpl) (tCB_ofN hr ha.mono)⟩
/-- len -/
def gLen : G1 D := fun as Q => match as with
  | [.val (.tup ds)] => Q (.int ds.length)
  | [.lst ds] => Q (.int ds.length)
  | _ => False
theorem cbLen {K : PySem.W.Frag} : CbD K (fun xs H Q => ∃ p ys, xs = [.ref p] ∧ (SqL K H p ys ∨ SqT K H p ys) ∧ Q (.int ys.length) H) gLen := by
  refine ⟨fun as P P' i q => ?_, fun dk H as vs Q I r q => ?_⟩
  · unfold gLen at q ⊢
    split at q <;> first | exact q.elim | exact i _ q
  · unfold gLen at q
    split at q
    · cases r with
      | cons h t =>
        cases t
        cases (show IsD _ _ _ _ from h) with
        | tup s l => exact ⟨_, _, rfl, .inr s, q _ H (Ext.refl H) (by rw [l.length]; exact .int _)⟩
    · cases r with
      | cons h t =>
        cases t
        obtain ⟨a, rfl, n, xs, rr, l⟩ := h
        exact ⟨_, _, rfl, .inl (.inl rr), q _ H (Ext.refl H) (by rw [l.length]; exact .int _)⟩
    · exact q.elim
/-- abs, int -/
def gAbs : G1 D := fun as Q => match as with
  | [.val (.int i)] => Q (.int (if i < 0 then -i else i))
  | _ => False
theorem cbAbs {K : PySem.W.Frag} : CbD K (fun xs H Q => ∃ i, xs = [.int i] ∧ Q (.int (if i < 0 then -i else i)) H) gAbs := by
  refine ⟨fun as P P' i q => ?_, fun dk H as vs Q I r q => ?_⟩
  · unfold gAbs at q ⊢
    split at q <;> first | exact q.elim | exact i _ q
  · unfold gAbs at q
    split at q
    · cases r with
      | cons h t =>
        cases t
        cases (show IsD _ _ _ _ from h)
        exact ⟨_, rfl, q _ H (Ext.refl H) (.int _)⟩
    · exact q.elim
def gInt : G1 D := fun as Q => match as with
  | [.val (.int i)] => Q (.int i)
  | _ => False
theorem cbInt {K : PySem.W.Frag} : CbD K (fun xs H Q => (∃ i, xs = [.int i] ∧ Q (.int i) H) ∨ ∃ k, xs = [.bl k] ∧ Q (.int (if k then 1 else 0)) H) gInt := by
  refine ⟨fun as P P' i q => ?_, fun dk H as vs Q I r q => ?_⟩
  · unfold gInt at q ⊢
    split at q <;> first | exact q.elim | exact i _ q
  · unfold gInt at q
    split at q
    · cases r with
      | cons h t =>
        cases t
        cases (show IsD _ _ _ _ from h)
        exact .inl ⟨_, rfl, q _ H (Ext.refl H) (.int _)⟩
    · exact q.elim
/-- min(a, b) -/
def gMin2 : G1 D := fun as Q => match as with
  | [.val (.int i), .val (.int j)] => Q (.int (if j < i then j else i))
  | _ => False
theorem cbMin2 {K : PySem.W.Frag} : CbD K (fun xs H Q => ∃ i j, xs = [.int i, .int j] ∧ Q (.int (if j < i then j else i)) H) gMin2 := by
  refine ⟨fun as P P' i q => ?_, fun dk H as vs Q I r q => ?_⟩
  · unfold gMin2 at q ⊢
    split at q <;> first | exact q.elim | exact i _ q
  · unfold gMin2 at q
    split at q
    · cases r with
      | cons h t =>
        cases t with
        | cons h2 t =>
          cases t
          cases (show IsD _ _ _ _ from h)
          cases (show IsD _ _ _ _ from h2)
          exact ⟨_, _, rfl, q _ H (Ext.refl H) (.int _)⟩
    · exact q.elim
/-- tuple(list), tuple(tuple) -/
def gTupOf : G1 D := fun as Q => match as with
  | [.val (.tup ds)] => Q (.tup ds)
  | [.lst ds] => Q (.tup ds)
  | _ => False
theorem cbTup {K : PySem.W.Frag} : CbD K (fun xs H Q => ∃ p ys, xs = [.ref p] ∧ ((SqL K H p ys ∧ ∀ l, H l = none → Q (.ref l) (upd H l (.tup ys))) ∨ (SqT K H p ys ∧ Q (.ref p) H))) gTupOf := by
  refine ⟨fun as P P' i q => ?_, fun dk H as vs Q I r q => ?_⟩
  · unfold gTupOf at q ⊢
    split at q <;> first | exact q.elim | exact i _ q
  · unfold gTupOf at q
    split at q
    · cases r with
      | cons h t =>
        cases t
        cases (show IsD _ _ _ _ from h) with
        | tup s l => exact ⟨_, _, rfl, .inr ⟨s, q _ H (Ext.refl H) (.tup s l)⟩⟩
    · cases r with
      | cons h t =>
        cases t
        obtain ⟨a, rfl, n, xs, rr, l⟩ := h
        refine ⟨_, _, rfl, .inl ⟨.inl rr, fun p hp => ?_⟩⟩
        have ex : Ext dk H (upd H p (.tup xs)) := Ext.new I hp
        exact q _ _ ex (.tup (SqT.of upd_same) (l.to ex.tup))
    · exact q.elim
/-- list(list), list(tuple) -/
def gLstOf : G1 (List D) := fun as Q => match as with
  | [.val (.tup ds)] => Q ds
  | [.lst ds] => Q ds
  | _ => False
theorem cbLst {K : PySem.W.Frag} : CbN K (fun xs H Q => ∃ p ys, xs = [.ref p] ∧ (SqL K H p ys ∨ SqT K H p ys) ∧ ∀ l, H l = none → Q (.ref l) (upd H l (.lst ys))) gLstOf := by
  refine ⟨fun as P P' i q => ?_, fun dk H as vs Q I r q => ?_⟩
  · unfold gLstOf at q ⊢
    split at q <;> first | exact q.elim | exact i _ q
  · unfold gLstOf at q
    split at q
    · cases r with
      | cons h t =>
        cases t
        cases (show IsD _ _ _ _ from h) with
        | tup s l =>
          refine ⟨_, _, rfl, .inr s, fun p hp => ?_⟩
          exact q p _ hp (Ext.new I hp) ⟨_, upd_same, l.to (Ext.new (dk := dk) I hp).tup⟩
    · cases r with
      | cons h t =>
        cases t
        obtain ⟨a, rfl, n, xs, rr, l⟩ := h
        refine ⟨_, _, rfl, .inl (.inl rr), fun p hp => ?_⟩
        have ex : Ext dk H (upd H p (.lst xs)) := Ext.new I hp
        exact q p _ hp ex ⟨_, upd_same, l.to ex.tup⟩
    · exact q.elim
theorem de_len (hg : Gl X "len") (hm : X.mg "len" = none) (ha : DA X [e] t) (he : starEach [e] X.env = (false, eval e X.env) :: starEach [] X.env := by rfl) : DE X (.Call (.Name "len" p) [e] [] pos) (aCall gLen t) :=
  de_cb call_len_seq cbLen hg hm PySem.boot_len ha (by decide) (by decide) he
theorem de_abs (hg : Gl X "abs") (hm : X.mg "abs" = none) (ha : DA X [e] t) (he : starEach [e] X.env = (false, eval e X.env) :: starEach [] X.env := by rfl) : DE X (.Call (.Name "abs" p) [e] [] pos) (aCall gAbs t) :=
  de_cb call_abs cbAbs hg hm (by decide +kernel) ha (by decide) (by decide) he
theorem de_intc (hg : Gl X "int") (hm : X.mg "int" = none) (ha : DA X [e] t) (he : starEach [e] X.env = (false, eval e X.env) :: starEach [] X.env := by rfl) : DE X (.Call (.Name "int" p) [e] [] pos) (aCall gInt t) :=
  de_ct call_int1 cbInt hg hm (by decide +kernel) ha (by decide) (by decide) he
theorem de_min2 (hc : X.calm = true) (hg : Gl X "min") (hm : X.mg "min" = none) (ha : DA X [a, b] t) (he : starEach [a, b] X.env = (false, eval a X.env) :: starEach [b] X.env := by rfl) (hpl : (backTo pos (starEach [b] X.env)).any (·.1) = false := by rfl) : DE X (.Call (.Name "min" p) [a, b] [] pos) (aCall gMin2 t) :=
  de_cb (call_min2 hc) cbMin2 hg hm (by decide +kernel) ha (by decide) (by decide) he hpl
theorem de_tupof (hg : Gl X "tuple") (hm : X.mg "tuple" = none) (ha : DA X [e] t) (he : starEach [e] X.env = (false, eval e X.env) :: starEach [] X.env := by rfl) : DE X (.Call (.Name "tuple" p) [e] [] pos) (aCall gTupOf t) :=
  de_ct call_tuple_of cbTup hg hm (by decide +kernel) ha (by decide) (by decide) he
theorem dn_lstof (hg : Gl X "list") (hm : X.mg "list" = none) (ha : DA X [e] t) (he : starEach [e] X.env = (false, eval e X.env) :: starEach [] X.env := by rfl) : DN X (.Call (.Name "list" p) [e] [] pos) (aCall gLstOf t) :=
  dn_ct call_list_of cbLst hg hm (by decide +kernel) ha (by decide) (by decide) he

/-! ### slices -/
abbrev DO0 := En → (Option Int → Prop) → Prop
def tOt (K : PySem.W.Frag) (t : DO0) : TO := fun σ H Q => ∃ dk B pn env, Rel K dk B pn σ H env ∧ t env fun o => ∀ H', Ext dk H H' → Q o H'
structure DO (X : Cx) (e : Option Expr) (t : DO0) : Prop where
  mono : Mono t
  po : PO X e (tOt X.K t)
theorem PO.imp {e : Option Expr} {t t' : TO} (h : PO X e t) (i : ∀ σ H Q, t' σ H Q → t σ H Q) : PO X e t' := ⟨fun pins s σ H Q I q => h.run pins s σ H Q I (i _ _ _ q)⟩
def oNo : DO0 := fun _ Q => Q none
def oInt (te : DT) : DO0 := fun env Q => te env fun d => match d with
  | .int i => Q (some i)
  | _ => False
theorem do_no : DO X none oNo := ⟨fun _ _ _ i q => i _ q, PO.imp po_none fun σ H Q ⟨dk, B, pn, env, R, q⟩ => q H (Ext.refl H)⟩
theorem do_int (he : DE X e te) : DO X (some e) (oInt te) := by
  refine ⟨fun env P P' i q => he.mono env _ _ (fun d q => ?_) q, PO.imp (po_some he.pe) fun σ H Q ⟨dk, B, pn, env, R, q⟩ => ?_⟩
  · cases d <;> first | exact q.elim | exact i _ q
  · refine ⟨dk, B, pn, env, R, he.mono env _ _ (fun d q v H1 e1 r1 => ?_) q⟩
    cases d <;> first | exact q.elim | skip
    cases r1
    exact ⟨_, rfl, q H1 e1⟩
def cutD (xs : List D) (lo hi : Option Int) : List D := (xs.drop (HT.sIx xs.length 0 lo)).take (HT.sIx xs.length xs.length hi - HT.sIx xs.length 0 lo)
theorem cut_all {K : PySem.W.Frag} {H : Hp} {ds : List D} {xs : List V} {lo hi : Option Int} (t : IsAll K H ds xs) : IsAll K H (cutD ds lo hi) (cutV xs lo hi) := by
  unfold cutD cutV
  rw [t.length]
  exact (t.drop _).take _
theorem cutD_whole {ds : List D} {lo hi : Option Int} (h : HT.sIx ds.length 0 lo = 0 ∧ HT.sIx ds.length ds.length hi = ds.length) : cutD ds lo hi = ds := by
  unfold cutD
  rw [h.1, h.2, List.drop_zero, Nat.sub_zero, List.take_length]
variable {lo hi : Option Expr} {p2 : Pos} {tlo thi : DO0}
def dSl (te : DT) (tlo thi : DO0) : DT := fun env Q => te env fun d => tlo env fun l => thi env fun u => match d with
  | .tup ds => Q (.tup (cutD ds l u))
  | _ => False
theorem de_sl (he : DE X e te) (hl : DO X lo tlo) (hu : DO X hi thi) : DE X (.Subscript e (.Slice lo hi none p2) pos) (dSl te tlo thi) := by
  refine ⟨fun env P P' i q => he.mono env _ _ (fun d q => hl.mono env _ _ (fun l q => hu.mono env _ _ (fun u q => ?_) q) q) q, PE.imp (pe_slice sl_tupA he.pe hl.po hu.po) fun σ H Q ⟨dk, B, pn, env, R, q⟩ => ?_⟩
  · cases d <;> first | exact q.elim | exact i _ q
  · refine ⟨dk, B, pn, env, R, he.mono env _ _ (fun d q v H1 e1 r1 => ?_) q⟩
    have R1 := R.to e1
    refine ⟨dk, B, pn, env, R1, hl.mono env _ _ (fun l q H2 e2 => ?_) q⟩
    have R2 := R1.to e2
    refine ⟨dk, B, pn, env, R2, hu.mono env _ _ (fun u q H3 e3 => ?_) q⟩
    have R3 := R2.to e3
    cases d <;> first | exact q.elim | skip
    have r3 := IsD.to e3.tup (IsD.to e2.tup r1)
    cases r3 with
    | tup s t =>
      rename_i ds a xs
      refine ⟨a, xs, rfl, s, fun hw => ?_, fun hw p hp => ?_⟩
      · rw [← t.length] at hw
        refine q _ H3 ((e1.trans e2).trans e3) ?_
        rw [cutD_whole hw]
        exact .tup s t
      · have ex : Ext dk H3 (upd H3 p (.tup (cutV xs l u))) := Ext.new R3.inv hp
        exact q _ _ (((e1.trans e2).trans e3).trans ex) (.tup (SqT.of upd_same) ((cut_all t).to ex.tup))
def dSlL (te : DLs) (tlo thi : DO0) : DLs := fun env Q => te env fun ds => tlo env fun l => thi env fun u => Q (cutD ds l u)
theorem dn_sl (he : DR X e tl) (hl : DO X lo tlo) (hu : DO X hi thi) : DN X (.Subscript e (.Slice lo hi none p2) pos) (dSlL tl tlo thi) := by
  refine ⟨fun env P P' i q => he.mono env _ _ (fun d q => hl.mono env _ _ (fun l q => hu.mono env _ _ (fun u q => i _ q) q) q) q, PE.imp (pe_slice sl_list he.pe hl.po hu.po) fun σ H Q ⟨dk, B, pn, env, R, q⟩ => ?_⟩
  refine ⟨dk, B, pn, env, R, he.mono env _ _ (fun d q a H1 n1 e1 r1 => ?_) q⟩
  have R1 := R.to e1
  refine ⟨dk, B, pn, env, R1, hl.mono env _ _ (fun l q H2 e2 => ?_) q⟩
  have R2 := R1.to e2
  refine ⟨dk, B, pn, env, R2, hu.mono env _ _ (fun u q H3 e3 => ?_) q⟩
  have R3 := R2.to e3
  obtain ⟨xs, l1, t⟩ := r1
  have ee := (e1.trans e2).trans e3
  refine ⟨a, xs, rfl, .inl ((e2.trans e3).rd n1 l1), fun p hp => ?_⟩
  have ex : Ext dk H3 (upd H3 p (.lst (cutV xs l u))) := Ext.new R3.inv hp
  exact q p _ (ee.none_back R.inv hp) (ee.trans ex) ⟨_, upd_same, (cut_all (t.to (e2.trans e3).tup)).to ex.tup⟩
/-- xs + ys, lists -/
def dCatL (ta tb : DLs) : DLs := fun env Q => ta env fun x => tb env fun y => x.length + y.length ≤ 1000000 ∧ Q (x ++ y)
theorem dn_cat {ta tb : DLs} (ha : DN X a ta) (hb : DN X b tb) : DN X (.BinOp a .Add b pos) (dCatL ta tb) := by
  refine ⟨fun env P P' i q => ha.mono env _ _ (fun d q => hb.mono env _ _ (fun l q => ⟨q.1, i _ q.2⟩) q) q, PE.imp (pe_op op_cat ha.pe hb.pe) fun σ H Q ⟨dk, B, pn, env, R, q⟩ => ?_⟩
  refine ⟨dk, B, pn, env, R, ha.mono env _ _ (fun d q a H1 n1 e1 r1 => ?_) q⟩
  have R1 := R.to e1
  refine ⟨dk, B, pn, env, R1, hb.mono env _ _ (fun u q b H2 n2 e2 r2 => ?_) q⟩
  have R2 := R1.to e2
  obtain ⟨xs, l1, t1⟩ := r1
  obtain ⟨ys, l2, t2⟩ := r2
  obtain ⟨z, q⟩ := q
  have z1 := t1.length
  have z2 := t2.length
  refine ⟨a, b, xs, ys, rfl, rfl, e2.keep _ _ l1 (notDk_none R.inv n1), l2, sz6 (by omega), fun p hp => ?_⟩
  have ex : Ext dk H2 (upd H2 p (.lst (xs ++ ys))) := Ext.new R2.inv hp
  exact q p _ ((e1.trans e2).none_back R.inv hp) ((e1.trans e2).trans ex) ⟨_, upd_same, ((t1.to e2.tup).app t2).to ex.tup⟩
/-- a list of the frame's own, put together with another -/
def oVar (i : Nat) : DLs := fun env Q => match env[i]? with
  | some (some (.lst true _ ds)) => Q ds
  | _ => False
def tO (K : PySem.W.Frag) (t : DLs) : TE := fun σ H Q => ∃ dk B pn env, Rel K dk B pn σ H env ∧ t env fun ds => ∀ a H', ¬ inDk dk a → Ext dk H H' → OwnAt K H' a ds → Q (.ref a) H'
/-- a list that may be changed where it stands: an own one, a new one -/
structure DW1 (X : Cx) (e : Expr) (t : DLs) : Prop where
  mono : Mono t
  pe : PE X e (tO X.K t)
theorem DN.w1 (h : DN X e tl) : DW1 X e tl := ⟨h.mono, PE.imp h.pe fun σ H Q ⟨dk, B, pn, env, R, q⟩ => ⟨dk, B, pn, env, R, h.mono env _ _ (fun ds k a H' na ex o => k a H' (notDk_none R.inv na) ex o) q⟩⟩
theorem dw1_var {i : Nat} (h : PE X e (tVar i)) : DW1 X e (oVar i) := by
  refine ⟨fun env P P' i q => ?_, PE.imp h fun σ H Q ⟨dk, B, pn, env, R, q⟩ => ?_⟩
  · unfold oVar at q ⊢
    split at q
    · exact i _ q
    · exact q.elim
  · unfold oVar at q
    split at q
    · rename_i a ds e
      obtain ⟨v, hv, rfl, n, _, w⟩ := R.ok _ _ e
      exact ⟨_, hv, q a H n (Ext.refl H) w⟩
    · exact q.elim
theorem dn_cat1 {ta tb : DLs} (ha : DW1 X a ta) (hb : DN X b tb) : DN X (.BinOp a .Add b pos) (dCatL ta tb) := by
  refine ⟨fun env P P' i q => ha.mono env _ _ (fun d q => hb.mono env _ _ (fun l q => ⟨q.1, i _ q.2⟩) q) q, PE.imp (pe_op op_cat ha.pe hb.pe) fun σ H Q ⟨dk, B, pn, env, R, q⟩ => ?_⟩
  refine ⟨dk, B, pn, env, R, ha.mono env _ _ (fun d q a H1 n1 e1 r1 => ?_) q⟩
  have R1 := R.to e1
  refine ⟨dk, B, pn, env, R1, hb.mono env _ _ (fun u q b H2 n2 e2 r2 => ?_) q⟩
  have R2 := R1.to e2
  obtain ⟨xs, l1, t1⟩ := r1
  obtain ⟨ys, l2, t2⟩ := r2
  obtain ⟨z, q⟩ := q
  have z1 := t1.length
  have z2 := t2.length
  refine ⟨a, b, xs, ys, rfl, rfl, e2.keep _ _ l1 n1, l2, sz6 (by omega), fun p hp => ?_⟩
  have ex : Ext dk H2 (upd H2 p (.lst (xs ++ ys))) := Ext.new R2.inv hp
  exact q p _ ((e1.trans e2).none_back R.inv hp) ((e1.trans e2).trans ex) ⟨_, upd_same, ((t1.to e2.tup).app t2).to ex.tup⟩
end
end DL

set_option maxRecDepth 100000
namespace DL
open PySem PySem.Spec PyProof.Rows L2 RZ

/-! ### what is walked -/
abbrev DI0 := En → (En → List D → Prop) → Prop
def WalkD (K : PySem.W.Frag) (dk : Option Dk) (B : Hp) (pn : Pn) (J : It) (ds : List D) : Prop :=
  ∃ G Y, Walk J ds.length G Y ∧ (∀ σ H env, Rel K dk B pn σ H env → G H) ∧ ∀ i H x H', i < ds.length → G H → DkInv dk H → Y i H x H' → Ext dk H H' ∧ ∃ d, ds[i]? = some d ∧ IsD K H' d x
def tI (K : PySem.W.Frag) (t : DI0) : TI := fun σ H R => ∃ dk B pn env, Rel K dk B pn σ H env ∧ t env fun env' ds => ∀ J H' pn', pn.le pn' → Ext dk H H' → Rel K dk B pn' σ H' env' → WalkD K dk B pn' J ds → R J H'
def MonoI (t : DI0) : Prop := ∀ env (P P' : En → List D → Prop), (∀ e d, P e d → P' e d) → t env P → t env P'
structure DI (X : Cx) (tg iter : Expr) (t : DI0) : Prop where
  mono : MonoI t
  pi : PI X tg iter (tI X.K t)
theorem PI.imp {X : Cx} {tg e : Expr} {t t' : TI} (h : PI X tg e t) (i : ∀ σ H Q, t' σ H Q → t σ H Q) : PI X tg e t' := ⟨fun pins s σ H Q I q => h.run pins s σ H Q I (i _ _ _ q)⟩
section
variable {K : PySem.W.Frag} {dk : Option Dk} {B H : Hp} {pn : Pn}
theorem walkD_list {a : Addr} {ds : List D} (h : (a, ds) ∈ pn.l) : WalkD K dk B pn (Itl K a) ds := by
  refine ⟨fun H => ListAt K H a ds, fun i H x H' => H' = H ∧ ∃ d, ds[i]? = some d ∧ IsD K H d x, ⟨fun i H hi ⟨xs, r, t⟩ => ?_, fun H ⟨xs, r, t⟩ => ⟨xs, .inl r, Nat.le_of_eq t.length.symm⟩, fun i H x H' hi ⟨xs, r, t⟩ y => ?_⟩, fun σ H env R => (R.pins _ h).2, fun i H x H' hi g I y => ?_⟩
  · have hx : i < xs.length := by rw [← t.length]; exact hi
    exact ⟨xs, xs[i], .inl r, by simp [hx]⟩
  · obtain ⟨d, e, z⟩ := t.get' i (y.2 xs (.inl r))
    exact ⟨y.1, d, e, z⟩
  · obtain ⟨rfl, d, e, z⟩ := y
    exact ⟨Ext.refl _, d, e, z⟩
theorem walkD_tup {a : Addr} {ds : List D} (h : (D.tup ds, V.ref a) ∈ pn.v) : WalkD K dk B pn (Itt K a) ds := by
  refine ⟨fun H => IsD K H (.tup ds) (.ref a), fun i H x H' => H' = H ∧ ∃ d, ds[i]? = some d ∧ IsD K H d x, ⟨fun i H hi g => ?_, fun H g => ?_, fun i H x H' hi g y => ?_⟩, fun σ H env R => R.vals _ h, fun i H x H' hi g I y => ?_⟩
  · cases g with
    | tup s t =>
      rename_i xs
      have hx : i < xs.length := by rw [← t.length]; exact hi
      exact ⟨xs, xs[i], s, by simp [hx]⟩
  · cases g with
    | tup s t => exact ⟨_, s, Nat.le_of_eq t.length.symm⟩
  · cases g with
    | tup s t =>
      obtain ⟨d, e, z⟩ := t.get' i (y.2 _ s)
      exact ⟨y.1, d, e, z⟩
  · obtain ⟨rfl, d, e, z⟩ := y
    exact ⟨Ext.refl _, d, e, z⟩
def rng (lo : Int) (n : Nat) : List D := (List.range n).map fun i => .int (lo + (i : Nat))
theorem rng_len (lo : Int) (n : Nat) : (rng lo n).length = n := by
  unfold rng
  rw [List.length_map, List.length_range]
theorem rng_get {lo : Int} {n i : Nat} (h : i < n) : (rng lo n)[i]? = some (.int (lo + i)) := by
  unfold rng
  rw [List.getElem?_map, List.getElem?_range h]
  rfl
theorem walkD_range {lo : Int} {n : Nat} : WalkD K dk B pn (Itr lo n) (rng lo n) := by
  refine ⟨fun _ => True, fun i H x H' => H' = H ∧ x = .int (lo + i), by rw [rng_len]; exact walk_range, fun _ _ _ _ => trivial, fun i H x H' hi _ _ y => ?_⟩
  rw [rng_len] at hi
  obtain ⟨rfl, rfl⟩ := y
  exact ⟨Ext.refl _, _, rng_get hi, .int _⟩
end
section
variable {X : Cx} {tg a b c e : Expr} {es : List Expr} {pos p : Pos} {ta tb tc te : DT} {tl : DLs} {t : DA0}
def iNew (tl : DLs) : DI0 := fun env Q => tl env fun ds => Q env ds
def iVar (i : Nat) : DI0 := fun env Q => match env[i]? with
  | some (some (.lst _ a ds)) => Q (env.set i (some (.lst false a ds))) ds
  | _ => False
def iTupD (te : DT) : DI0 := fun env Q => te env fun d => match d with
  | .tup ds => Q env ds
  | _ => False
def iRg1 (t : DA0) : DI0 := fun env Q => t env fun as => match as with
  | [.val (.int j)] => (-(2 ^ 62) ≤ j ∧ j < 2 ^ 62) ∧ Q env (rng 0 j.toNat)
  | _ => False
def iRg2 (t : DA0) : DI0 := fun env Q => t env fun as => match as with
  | [.val (.int i), .val (.int j)] => (-(2 ^ 62) ≤ i ∧ i < 2 ^ 62 ∧ -(2 ^ 62) ≤ j ∧ j < 2 ^ 62) ∧ Q env (rng i (j - i).toNat)
  | _ => False
theorem di_new (h : DN X e tl) : DI X tg e (iNew tl) := by
  refine ⟨fun env P P' i q => h.mono env _ _ (fun ds q => i _ _ q) q, PI.imp (pi_list h.pe) fun σ H R' ⟨dk, B, pn, env, R, q⟩ => ?_⟩
  refine ⟨dk, B, pn, env, R, h.mono env _ _ (fun ds q a H' na ex o => ?_) q⟩
  obtain ⟨xs, hx, tt⟩ := id o
  have fr := R.free na
  refine ⟨a, rfl, ⟨xs, SqL.of hx⟩, q _ H' ⟨(a, ds) :: pn.l, pn.v⟩ ⟨fun z hz => List.mem_cons_of_mem _ hz, fun _ hz => hz⟩ ex ((R.to ex).pinL (notDk_none R.inv na) o.list fun i es => fr.1 i true es) (walkD_list List.mem_cons_self)⟩
theorem di_var {i : Nat} (h : PE X e (tVar i)) : DI X tg e (iVar i) := by
  refine ⟨fun env P P' i q => ?_, PI.imp (pi_list h) fun σ H R' ⟨dk, B, pn, env, R, q⟩ => ?_⟩
  · unfold iVar at q ⊢
    split at q
    · exact i _ _ q
    · exact q.elim
  · unfold iVar at q
    split at q
    · rename_i o a ds hi
      have R1 := R.freeze hi
      have il : i < env.length := (List.getElem?_eq_some_iff.mp hi).1
      have e1 : (env.set i (some (Sv.lst false a ds)))[i]? = some (some (.lst false a ds)) := by rw [List.getElem?_set, if_pos rfl, if_pos il]
      obtain ⟨v, hv, rfl, n, l⟩ := R1.ok _ _ e1
      obtain ⟨xs, r, tt⟩ := id l
      refine ⟨_, hv, a, rfl, ⟨xs, .inl r⟩, q _ H ⟨(a, ds) :: pn.l, pn.v⟩ ⟨fun z hz => List.mem_cons_of_mem _ hz, fun _ hz => hz⟩ (Ext.refl H) (R1.pinL n l fun j es ej => ?_) (walkD_list List.mem_cons_self)⟩
      have z := R1.inj _ _ _ _ _ _ ej e1
      subst z
      rw [e1] at ej
      cases ej
    · exact q.elim
theorem di_tup (h : DE X e te) : DI X tg e (iTupD te) := by
  refine ⟨fun env P P' i q => h.mono env _ _ (fun d q => ?_) q, PI.imp (pi_tup h.pe) fun σ H R' ⟨dk, B, pn, env, R, q⟩ => ?_⟩
  · cases d <;> first | exact q.elim | exact i _ _ q
  · refine ⟨dk, B, pn, env, R, h.mono env _ _ (fun d q v H' ex r => ?_) q⟩
    cases d <;> first | exact q.elim | skip
    have r' := r
    cases r with
    | tup s tt =>
      rename_i ds a xs
      exact ⟨a, rfl, ⟨xs, s⟩, q _ H' ⟨pn.l, (.tup ds, .ref a) :: pn.v⟩ ⟨fun z hz => hz, fun _ hz => List.mem_cons_of_mem _ hz⟩ ex ((R.to ex).pinV r') (walkD_tup List.mem_cons_self)⟩
theorem di_range1 (hg : Gl X "range") (hm : X.mg "range" = none) (ha : DA X [a] t) (hs : starEach [a] X.env = [(false, eval a X.env)] := by rfl) : DI X tg (.Call (.Name "range" p) [a] [] pos) (iRg1 t) := by
  refine ⟨fun env P P' i q => ha.mono env _ _ (fun d q => ?_) q, PI.imp (pi_range1 hg hm ha.pa hs) fun σ H R' ⟨dk, B, pn, env, R, q⟩ => ?_⟩
  · split at q
    · exact ⟨q.1, i _ _ q.2⟩
    · exact q.elim
  · refine ⟨dk, B, pn, env, R, ha.mono env _ _ (fun d q vs H' ex r => ?_) q⟩
    split at q
    · cases r with
      | cons h1 h2 =>
        cases h2
        cases (show IsD _ _ _ _ from h1)
        exact ⟨_, rfl, q.1.1, q.1.2, q.2 _ H' pn Pn.le.rfl ex (R.to ex) walkD_range⟩
    · exact q.elim
theorem di_range2 (hg : Gl X "range") (hm : X.mg "range" = none) (ha : DA X [a, b] t) (hs : starEach [a, b] X.env = [(false, eval a X.env), (false, eval b X.env)] := by rfl) (hs2 : starEach [b] X.env = [(false, eval b X.env)] := by rfl) : DI X tg (.Call (.Name "range" p) [a, b] [] pos) (iRg2 t) := by
  refine ⟨fun env P P' i q => ha.mono env _ _ (fun d q => ?_) q, PI.imp (pi_range2 hg hm ha.pa hs hs2) fun σ H R' ⟨dk, B, pn, env, R, q⟩ => ?_⟩
  · split at q
    · exact ⟨q.1, i _ _ q.2⟩
    · exact q.elim
  · refine ⟨dk, B, pn, env, R, ha.mono env _ _ (fun d q vs H' ex r => ?_) q⟩
    split at q
    · cases r with
      | cons h1 h2 =>
        cases h2 with
        | cons h2 h3 =>
          cases h3
          cases (show IsD _ _ _ _ from h1)
          cases (show IsD _ _ _ _ from h2)
          exact ⟨_, _, rfl, q.1, q.2 _ H' pn Pn.le.rfl ex (R.to ex) walkD_range⟩
    · exact q.elim
/-- zip of two tuples -/
def iZipT (t : DA0) : DI0 := fun env Q => t env fun as => match as with
  | [.val (.tup xs), .val (.tup ys)] => Q env (List.zipWith (fun x y => D.tup [x, y]) xs ys)
  | _ => False
theorem walkD_zipT {K : PySem.W.Frag} {dk : Option Dk} {B : Hp} {pn : Pn} {a b : Addr} {xs ys : List D} (h1 : (D.tup xs, V.ref a) ∈ pn.v) (h2 : (D.tup ys, V.ref b) ∈ pn.v) : WalkD K dk B pn (ItzT K a b) (List.zipWith (fun x y => D.tup [x, y]) xs ys) := by
  have hl : (List.zipWith (fun x y => D.tup [x, y]) xs ys).length = min xs.length ys.length := List.length_zipWith
  refine ⟨fun H => IsD K H (.tup xs) (.ref a) ∧ IsD K H (.tup ys) (.ref b), fun i H x H' => ∃ T u v d e, x = .ref T ∧ H T = none ∧ H' = upd H T (.tup [u, v]) ∧ xs[i]? = some d ∧ ys[i]? = some e ∧ IsD K H d u ∧ IsD K H e v, ⟨fun i H hi g => ?_, fun H g => ?_, fun i H x H' hi g y => ?_⟩, fun σ H env R => ⟨R.vals _ h1, R.vals _ h2⟩, fun i H x H' hi g I y => ?_⟩
  · obtain ⟨g1, g2⟩ := g
    cases g1 with
    | tup s1 t1 =>
      cases g2 with
      | tup s2 t2 =>
        rename_i us vs
        have e1 := t1.length
        have e2 := t2.length
        rw [hl] at hi
        have i1 : i < us.length := by omega
        have i2 : i < vs.length := by omega
        exact ⟨us, vs, us[i], vs[i], s1, s2, by simp [i1], by simp [i2]⟩
  · obtain ⟨g1, g2⟩ := g
    cases g1 with
    | tup s1 t1 =>
      cases g2 with
      | tup s2 t2 =>
        have e1 := t1.length
        have e2 := t2.length
        exact ⟨_, _, s1, s2, by rw [hl]; omega⟩
  · obtain ⟨g1, g2⟩ := g
    cases g1 with
    | tup s1 t1 =>
      cases g2 with
      | tup s2 t2 =>
        obtain ⟨T, u, v, e, n, e', f1, f2⟩ := y
        obtain ⟨d, z1, z2⟩ := t1.get' i (f1 _ s1)
        obtain ⟨d', z3, z4⟩ := t2.get' i (f2 _ s2)
        exact ⟨T, u, v, d, d', e, n, e', z1, z3, z2, z4⟩
  · obtain ⟨T, u, v, d, e, rfl, n, rfl, z1, z2, z3, z4⟩ := y
    have ex : Ext dk H (upd H T (.tup [u, v])) := Ext.new I n
    exact ⟨ex, _, by rw [List.getElem?_zipWith, z1, z2], .tup (SqT.of upd_same) (.cons (IsD.to ex.tup z3) (.cons (IsD.to ex.tup z4) .nil))⟩
theorem di_zipT {elts : List Expr} {kk : Nat} {tpos : Pos} (hg : Gl X "zip") (hm : X.mg "zip" = none) (ha : DA X [a, b] t) (hs : starEach [a, b] X.env = (false, eval a X.env) :: starEach [b] X.env := by rfl) (hpl : (backTo pos (starEach [b] X.env)).any (·.1) = false := by rfl) :
    DI X (.Tuple elts kk tpos) (.Call (.Name "zip" p) [a, b] [] pos) (iZipT t) := by
  refine ⟨fun env P P' i q => ha.mono env _ _ (fun d q => ?_) q, PI.imp (pi_zipA hg hm ha.pa (hs := hs) (hpl := hpl)) fun σ H R' ⟨dk, B, pn, env, R, q⟩ => ?_⟩
  · split at q
    · exact i _ _ q
    · exact q.elim
  · refine ⟨dk, B, pn, env, R, ha.mono env _ _ (fun d q vs H' ex r => ?_) q⟩
    split at q
    · rename_i xs ys
      cases r with
      | cons h1 h2 =>
        cases h2 with
        | cons h2 h3 =>
          cases h3
          have k1 : IsD X.K H' (.tup xs) _ := h1
          have k2 : IsD X.K H' (.tup ys) _ := h2
          have k1' := k1
          have k2' := k2
          cases k1 with
          | tup s1 t1 =>
            cases k2 with
            | tup s2 t2 =>
              rename_i A us A' vs
              exact ⟨A, A', _, _, rfl, .inr ⟨s1, s2, q _ H' ⟨pn.l, (.tup xs, .ref A) :: (.tup ys, .ref A') :: pn.v⟩ ⟨fun z hz => hz, fun _ hz => List.mem_cons_of_mem _ (List.mem_cons_of_mem _ hz)⟩ ex (((R.to ex).pinV k2').pinV k1') (walkD_zipT List.mem_cons_self (List.mem_cons_of_mem _ List.mem_cons_self))⟩⟩
    · exact q.elim
end

/-! ### targets -/
inductive Tg where
  | name (i : Nat) | tup (is : List Nat)
def setAll : En → List Nat → List D → En
  | env, i :: is, d :: ds => setAll (env.set i (some (.val d))) is ds
  | env, _, _ => env
def Tg.app : Tg → D → En → (En → Prop) → Prop
  | .name i, d, env, Q => Q (env.set i (some (.val d)))
  | .tup is, .tup ds, env, Q => is.length = ds.length ∧ Q (setAll env is ds)
  | _, _, _, _ => False
def Tg.ix : Tg → List Nat
  | .name i => [i]
  | .tup is => is
theorem Tg.app_mono {tg : Tg} {d : D} {env : En} {P P' : En → Prop} (i : ∀ e, P e → P' e) (h : tg.app d env P) : tg.app d env P' := by
  cases tg with
  | name j => exact i _ h
  | tup is =>
    cases d <;> first | exact h.elim | exact ⟨h.1, i _ h.2⟩
/-- slots set one by one -/
inductive Sets : L2.St → List Nat → L2.St → Prop
  | nil {σ : L2.St} : Sets σ [] σ
  | cons {σ σ' : L2.St} {i : Nat} {v : V} {is : List Nat} : Sets (σ.set i (some v)) is σ' → Sets σ (i :: is) σ'
structure DG (X : Cx) (e : Expr) (tg : Tg) (g : TG) : Prop where
  pg : PG X e g
  ok : ∀ (dk : Option Dk) (B : Hp) (pn : Pn) (σ : L2.St) (H : Hp) (env : En) (d : D) (v : V) (P : En → Prop) (Q : L2.St → Hp → Prop), Rel X.K dk B pn σ H env → IsD X.K H d v → tg.app d env P →
    (∀ σ' env', Sets σ tg.ix σ' → Rel X.K dk B pn σ' H env' → P env' → Q σ' H) → g v σ H Q
section
variable {X : Cx} {e : Expr} {es : List Expr} {pos : Pos}
theorem dg_name {i : Nat} (h : PG X e (gName i)) : DG X e (.name i) (gName i) := ⟨h, fun dk B pn σ H env d v P Q R r t k => k _ _ (.cons .nil) (R.setV i r) t⟩
/-- the names of a tuple -/
def gNames : List Nat → TGs
  | [] => gNil
  | i :: is => gCons (gName i) (gNames is)
theorem gNames_ok {K : PySem.W.Frag} {dk : Option Dk} {B H : Hp} {pn : Pn} : ∀ {is : List Nat} {ds : List D} {xs : List V} {σ : L2.St} {env : En} {Q : L2.St → Hp → Prop}, Rel K dk B pn σ H env → IsAll K H ds xs → is.length = ds.length →
    (∀ σ', Sets σ is σ' → Rel K dk B pn σ' H (setAll env is ds) → Q σ' H) → gNames is xs σ H Q
  | [], [], _, σ, env, Q, R, t, _, k => by
    cases t
    exact ⟨rfl, k σ .nil R⟩
  | i :: is, d :: ds, _, σ, env, Q, R, t, hl, k => by
    cases t with
    | cons h t => exact ⟨_, _, rfl, gNames_ok (R.setV i h) t (by simpa using hl) fun σ' s R' => k σ' (.cons s) R'⟩
  | [], _ :: _, _, _, _, _, _, _, hl, _ => by simp at hl
  | _ :: _, [], _, _, _, _, _, _, hl, _ => by simp at hl
theorem dg_tup {is : List Nat} {k : Nat} (h : PG X (.Tuple es k pos) (gTup X.K is.length (gNames is))) : DG X (.Tuple es k pos) (.tup is) (gTup X.K is.length (gNames is)) := by
  refine ⟨h, fun dk B pn σ H env d v P Q R r t k => ?_⟩
  cases d <;> first | exact t.elim | skip
  cases r with
  | tup s l => exact ⟨_, _, rfl, s, by rw [← l.length]; exact t.1.symm, gNames_ok R l t.1 fun σ' s' R' => k σ' _ s' R' t.2⟩
end

/-! ### comprehensions -/
def wipeE (env : En) : List Nat → En
  | [] => env
  | v :: vs => (wipeE env vs).set v none
theorem Rel.wipe {K : PySem.W.Frag} {dk : Option Dk} {B H : Hp} {pn : Pn} {σ : L2.St} {env : En} (R : Rel K dk B pn σ H env) : ∀ vs : List Nat, Rel K dk B pn (wipe σ vs) H (wipeE env vs)
  | [] => R
  | v :: vs => (R.wipe vs).setO v
theorem wipe_get (σ : L2.St) (i : Nat) : ∀ vs : List Nat, (wipe σ vs)[i]? = if i ∈ vs ∧ i < σ.length then some none else σ[i]?
  | [] => by simp [wipe]
  | v :: vs => by
    show ((wipe σ vs).set v none)[i]? = _
    by_cases e : v = i
    · subst e
      rw [List.getElem?_set, if_pos rfl, wipe_length]
      by_cases h : v < σ.length
      · rw [if_pos h, if_pos ⟨List.mem_cons_self, h⟩]
      · rw [if_neg h, if_neg (fun z => h z.2), List.getElem?_eq_none_iff.mpr (by omega)]
    · rw [List.getElem?_set_ne e, wipe_get σ i vs]
      by_cases h : i ∈ vs
      · by_cases h2 : i < σ.length
        · rw [if_pos ⟨h, h2⟩, if_pos ⟨List.mem_cons_of_mem _ h, h2⟩]
        · rw [if_neg (fun z => h2 z.2), if_neg (fun z => h2 z.2)]
      · rw [if_neg (fun z => h z.1), if_neg (fun z => h (by
          rcases List.mem_cons.mp z.1 with q | q
          · exact absurd q.symm e
          · exact q))]
theorem Sets.wiped {σ σ' : L2.St} {is vs : List Nat} (s : Sets σ is σ') (h : ∀ i ∈ is, i ∈ vs) : wipe σ' vs = wipe σ vs := by
  induction s with
  | nil => rfl
  | cons s ih =>
    rename_i σ0 σ1 i v is
    rw [ih fun j hj => h j (List.mem_cons_of_mem _ hj)]
    apply List.ext_getElem?
    intro j
    rw [wipe_get, wipe_get, List.length_set]
    by_cases e : i = j
    · subst e
      have hi := h i List.mem_cons_self
      by_cases hl : i < σ0.length
      · rw [if_pos ⟨hi, hl⟩, if_pos ⟨hi, hl⟩]
      · rw [if_neg (fun z => hl z.2), if_neg (fun z => hl z.2), List.getElem?_set, if_pos rfl, if_neg hl, List.getElem?_eq_none_iff.mpr (by omega)]
    · rw [List.getElem?_set_ne e]
theorem wipe_wipe (σ : L2.St) (vs : List Nat) : wipe (wipe σ vs) vs = wipe σ vs := by
  apply List.ext_getElem?
  intro j
  rw [wipe_get, wipe_length, wipe_get]
  split
  · rfl
  · rfl
def compW (f : D → (Option D → Prop) → Prop) : List D → (List D → Prop) → Prop
  | [], Q => Q []
  | d :: ds, Q => f d fun o => compW f ds fun ys => Q (o.toList ++ ys)
theorem compW_mono {f : D → (Option D → Prop) → Prop} (hf : ∀ d (P P' : Option D → Prop), (∀ o, P o → P' o) → f d P → f d P') : ∀ (ds : List D) (P P' : List D → Prop), (∀ y, P y → P' y) → compW f ds P → compW f ds P'
  | [], _, _, i, q => i _ q
  | d :: ds, P, P', i, q => hf d _ _ (fun o q => compW_mono hf ds _ _ (fun y q => i _ q) q) q
def compF (tg : Tg) (vs : List Nat) (test : DB) (te : DT) (env : En) : D → (Option D → Prop) → Prop := fun d k => tg.app d (wipeE env vs) fun e2 => test e2 fun b => if b = true then te e2 (fun y => k (some y)) else k none
theorem compF_mono {tg : Tg} {vs : List Nat} {test : DB} {te : DT} {env : En} (h1 : Mono test) (h2 : Mono te) : ∀ d (P P' : Option D → Prop), (∀ o, P o → P' o) → compF tg vs test te env d P → compF tg vs test te env d P' := fun d P P' i q =>
  Tg.app_mono (fun e q => h1 e _ _ (fun b q => by
    cases b with
    | true => exact h2 e _ _ (fun y q => i _ q) q
    | false => exact i _ q) q) q
def dLc (src : DI0) (tg : Tg) (vs : List Nat) (test : DB) (te : DT) : DLs := fun env Q => src env fun env' ds => ds.length ≤ 900000 ∧ compW (compF tg vs test te env') ds Q
def bYes : DB := fun _ Q => Q true
structure DTs (X : Cx) (ifs : List Expr) (t : DB) : Prop where
  mono : Mono t
  pts : PTs X ifs (tTb X.K t)
theorem PTs.imp {X : Cx} {e : List Expr} {t t' : TT} (h : PTs X e t) (i : ∀ σ H Q, t' σ H Q → t σ H Q) : PTs X e t' := ⟨fun pins s σ H Q I q => h.run pins s σ H Q I (i _ _ _ q)⟩
theorem dts_nil {X : Cx} : DTs X [] bYes := ⟨fun _ _ _ i q => i _ q, PTs.imp pts_nil fun σ H Q ⟨dk, B, pn, env, R, q⟩ => q H (Ext.refl H)⟩
theorem dts_one {X : Cx} {c : Expr} {t : DB} (h : DC X c t) : DTs X [c] t := ⟨h.mono, pts_one h.pt⟩
section
variable {X : Cx}
theorem tLc_of {src : DI0} {tg : Tg} {vs : List Nat} {test : DB} {te : DT} {g : TG} {K : PySem.W.Frag} (m1 : MonoI src) (m2 : Mono test) (m3 : Mono te)
    (hg : ∀ (dk : Option Dk) (B : Hp) (pn : Pn) (σ : L2.St) (H : Hp) (env : En) (d : D) (v : V) (P : En → Prop) (Q : L2.St → Hp → Prop), Rel K dk B pn σ H env → IsD K H d v → tg.app d env P →
      (∀ σ' env', Sets σ tg.ix σ' → Rel K dk B pn σ' H env' → P env' → Q σ' H) → g v σ H Q)
    (hix : ∀ i ∈ tg.ix, i ∈ vs) (σ : L2.St) (H : Hp) (Q : VK) (h : tN K (dLc src tg vs test te) σ H Q) : tLc (tI K src) g (tTb K test) (tD K te) vs σ H Q := by
  obtain ⟨dk, B, pn, env, R, q⟩ := h
  refine ⟨dk, B, pn, env, R, m1 env _ _ (fun env' ds q J H1 pn' le e1 R1 W => ?_) q⟩
  intro L hL
  obtain ⟨hz, q⟩ := q
  obtain ⟨G, Y, w, hG, hY⟩ := W
  have hLB : B L = none := R1.ext.none_back R1.invB hL
  have hLd : ¬ inDk dk L := notDk_none R1.inv hL
  have frL := R1.free hL
  have cm := compF_mono (tg := tg) (vs := vs) (env := env') m2 m3
  refine lc_it w (fun i H2 => ∃ acc, OwnAt K H2 L acc ∧ acc.length ≤ i ∧ Ext dk H1 H2 ∧ Rel K dk B pn' (wipe σ vs) H2 (wipeE env' vs) ∧ compW (compF tg vs test te env') (ds.drop i) fun ys => ∀ a H', H a = none → Ext dk H H' → OwnAt K H' a (acc ++ ys) → Q (.ref a) H') ?_ ?_ ?_ ?_
  · refine ⟨[], ⟨[], upd_same, .nil⟩, Nat.zero_le _, Ext.new R1.inv hL, (R1.wipe vs).to (Ext.new R1.inv hL), ?_⟩
    rw [List.drop_zero]
    exact q
  · rintro i H2 hi ⟨acc, _, _, _, R2, _⟩
    exact hG _ _ _ R2
  · rintro i x H2 H3 hi ⟨acc, o, hacc, e2, R2, q⟩ y
    obtain ⟨e3, d, hd, r⟩ := hY i H2 x H3 hi (hG _ _ _ R2) R2.inv y
    have R3 := R2.to e3
    have ed : ds.drop i = d :: ds.drop (i + 1) := by
      rw [List.drop_eq_getElem_cons hi]
      congr 1
      exact Option.some.inj ((List.getElem?_eq_getElem hi).symm.trans hd)
    rw [ed] at q
    have q : tg.app d (wipeE env' vs) fun e2 => test e2 fun b => if b = true then te e2 (fun y => compW (compF tg vs test te env') (ds.drop (i + 1)) fun ys => ∀ a H', H a = none → Ext dk H H' → OwnAt K H' a (acc ++ ([y] ++ ys)) → Q (.ref a) H') else compW (compF tg vs test te env') (ds.drop (i + 1)) fun ys => ∀ a H', H a = none → Ext dk H H' → OwnAt K H' a (acc ++ ([] ++ ys)) → Q (.ref a) H' := q
    refine hg dk B pn' _ H3 _ d x _ _ R3 r q fun σ4 env4 ss R4 q => ⟨?_, ?_⟩
    · rw [ss.wiped hix, wipe_wipe]
    refine ⟨dk, B, pn', env4, R4, m2 env4 _ _ (fun b q H5 e5 => ?_) q⟩
    have R5 := R4.to e5
    obtain ⟨xs, ox, ot⟩ := id o
    cases b with
    | true =>
      rw [if_pos rfl] at q
      refine iteT ?_
      refine ⟨dk, B, pn', env4, R5, m3 env4 _ _ (fun z q v H6 e6 r6 => ?_) q⟩
      have e36 := e3.trans (e5.trans e6)
      have h6 : H6 L = some (.lst xs) := e36.keep _ _ ox hLd
      refine ⟨xs, h6, ?_, ?_⟩
      · rw [← ot.length]
        exact sz6' (by omega)
      · have tp : Tups H6 (upd H6 L (.lst (xs ++ [v]))) := Tups.mut h6
        refine ⟨acc ++ [z], ⟨_, upd_same, ((ot.to e36.tup).app (.cons r6 .nil)).to tp⟩, by rw [List.length_append]; show acc.length + 1 ≤ i + 1; omega, ⟨fun b o hb n => ?_, (e2.trans e36).tup.trans tp, fun z => ((e2.trans e36).inv z).upd hLd⟩, ?_, ?_⟩
        · have nb : b ≠ L := fun z => by
            rw [z, hL] at hb
            cases hb
          rw [upd_ne nb]
          exact (e2.trans e36).keep b o hb n
        · refine (R2.to e36).other hLB hLd h6 ⟨fun j o es e => ?_, frL.2⟩
          exact (R1.wipe vs).free hL |>.1 j o es e
        · refine compW_mono cm _ _ _ (fun ys k => ?_) q
          rw [List.append_assoc]
          exact k
    | false =>
      rw [if_neg Bool.false_ne_true] at q
      refine iteF ?_
      have e35 := e3.trans e5
      refine ⟨acc, ⟨xs, e35.keep _ _ ox hLd, ot.to e35.tup⟩, by omega, e2.trans e35, R2.to e35, ?_⟩
      exact q
  · rintro H2 ⟨acc, o, _, e2, _, q⟩
    rw [List.drop_length] at q
    have q : ∀ a H', H a = none → Ext dk H H' → OwnAt K H' a (acc ++ []) → Q (.ref a) H' := q
    rw [List.append_nil] at q
    exact q L H2 (e1.none_back R.inv hL) (e1.trans e2) o
end
end DL

set_option maxRecDepth 100000
namespace DL
open PySem PySem.Spec PyProof.Rows L2

/-! ### what a def hands back: data, or a new list of data -/
inductive Re where
  | val (d : D) | new (ds : List D)
def ReOk (K : PySem.W.Frag) (B H : Hp) : Re → V → Prop
  | .val d, v => IsD K H d v
  | .new ds, v => ∃ a, v = .ref a ∧ B a = none ∧ OwnAt K H a ds
structure DEnds where
  nx : En → Prop
  rt : Re → Prop
  bk : En → Prop
  ct : En → Prop
structure DEnds.le (D D' : DEnds) : Prop where
  nx : ∀ e, D.nx e → D'.nx e
  rt : ∀ e, D.rt e → D'.rt e
  bk : ∀ e, D.bk e → D'.bk e
  ct : ∀ e, D.ct e → D'.ct e
abbrev DTS := DEnds → En → Prop
def liftE (K : PySem.W.Frag) (dk : Option Dk) (B : Hp) (pn : Pn) (D : Ends) : DEnds where
  nx := fun e => ∀ σ H, Rel K dk B pn σ H e → D.nx σ H
  rt := fun r => ∀ v H, Ext dk B H → ReOk K B H r v → D.rt v H
  bk := fun e => ∀ σ H, Rel K dk B pn σ H e → D.bk σ H
  ct := fun e => ∀ σ H, Rel K dk B pn σ H e → D.ct σ H
def tS (K : PySem.W.Frag) (t : DTS) : TS := fun D σ H => ∃ dk B pn env, Rel K dk B pn σ H env ∧ t (liftE K dk B pn D) env
def MonoS (t : DTS) : Prop := ∀ D D' env, D.le D' → t D env → t D' env
structure DS (X : Cx) (st : Stmt) (t : DTS) : Prop where
  mono : MonoS t
  ps : PS X st (tS X.K t)
structure DSs (X : Cx) (st : List Stmt) (t : DTS) : Prop where
  mono : MonoS t
  pss : PSs X st (tS X.K t)
section
variable {X : Cx} {a b c e tg iter : Expr} {es : List Expr} {st : Stmt} {rest body orelse : List Stmt} {pos p pos' : Pos} {ta tb tc te : DT} {tl : DLs} {t u : DTS} {tA0 : DA0}
def sNil : DTS := fun D e => D.nx e
def sSeq (t u : DTS) : DTS := fun D e => t { D with nx := u D } e
theorem dss_nil : DSs X [] sNil := ⟨fun D D' e i q => i.nx _ q, PSs.imp pss_nil fun D σ H ⟨dk, B, pn, env, R, q⟩ => q σ H R⟩
theorem dss_one (h : DS X st t) : DSs X [st] t := ⟨h.mono, pss_one h.ps⟩
theorem dss_cons (h : DS X st t) (g : DSs X rest u) : DSs X (st :: rest) (sSeq t u) := by
  refine ⟨fun D D' e i q => h.mono { D with nx := u D } { D' with nx := u D' } e ⟨fun e q => g.mono D D' e i q, i.rt, i.bk, i.ct⟩ q, PSs.imp (pss_cons h.ps g.pss) fun D σ H ⟨dk, B, pn, env, R, q⟩ => ?_⟩
  exact ⟨dk, B, pn, env, R, h.mono { liftE X.K dk B pn D with nx := u (liftE X.K dk B pn D) } (liftE X.K dk B pn { D with nx := tS X.K u D }) env ⟨fun e q σ' H' R' => ⟨dk, B, pn, e, R', q⟩, fun _ z => z, fun _ z => z, fun _ z => z⟩ q⟩

/-! ### stores -/
def sSet (i : Nat) (te : DT) : DTS := fun D env => te env fun d => D.nx (env.set i (some (.val d)))
def sSetN (i : Nat) (tl : DLs) : DTS := fun D env => tl env fun ds => ∀ a, D.nx (env.set i (some (.lst true a ds)))
theorem sSet_mono {i : Nat} (h : Mono te) : MonoS (sSet i te) := fun D D' env j q => h env _ _ (fun d q => j.nx _ q) q
theorem sSetN_mono {i : Nat} (h : Mono tl) : MonoS (sSetN i tl) := fun D D' env j q => h env _ _ (fun d q a => j.nx _ (q a)) q
theorem ds_set {i : Nat} (h : ∀ te', PE X e te' → PS X st (tAsg te' (gName i))) (he : DE X e te) : DS X st (sSet i te) := by
  refine ⟨sSet_mono he.mono, PS.imp (h _ he.pe) fun D σ H ⟨dk, B, pn, env, R, q⟩ => ?_⟩
  exact ⟨dk, B, pn, env, R, he.mono env _ _ (fun d q v H' ex r => q _ _ ((R.to ex).setV i r)) q⟩
theorem setN_of {K : PySem.W.Frag} {dk : Option Dk} {B H H' : Hp} {pn : Pn} {σ : L2.St} {env : En} {i : Nat} {a : Addr} {ds : List D} (R : Rel K dk B pn σ H env) (ex : Ext dk H H') (na : H a = none) (o : OwnAt K H' a ds) :
    Rel K dk B pn (σ.set i (some (.ref a))) H' (env.set i (some (.lst true a ds))) := (R.to ex).setN i (R.ext.none_back R.invB na) (notDk_none R.inv na) o (R.free na)
theorem ds_setN {i : Nat} (h : ∀ te', PE X e te' → PS X st (tAsg te' (gName i))) (he : DN X e tl) : DS X st (sSetN i tl) := by
  refine ⟨sSetN_mono he.mono, PS.imp (h _ he.pe) fun D σ H ⟨dk, B, pn, env, R, q⟩ => ?_⟩
  exact ⟨dk, B, pn, env, R, he.mono env _ _ (fun ds q a H' na ex o => q a _ _ (setN_of R ex na o)) q⟩
/-- name = [.. for ..] on one line -/
theorem ds_setLc {i : Nat} {src : DI0} {tgt : Tg} {vs : List Nat} {test : DB} {g : TG} (h : PS X st (tAsg (tLc (tI X.K src) g (tTb X.K test) (tD X.K te) vs) (gName i))) (m1 : MonoI src) (m2 : Mono test) (m3 : Mono te)
    (hg : ∀ (dk : Option Dk) (B : Hp) (pn : Pn) (σ : L2.St) (H : Hp) (env : En) (d : D) (v : V) (P : En → Prop) (Q : L2.St → Hp → Prop), Rel X.K dk B pn σ H env → IsD X.K H d v → tgt.app d env P →
      (∀ σ' env', Sets σ tgt.ix σ' → Rel X.K dk B pn σ' H env' → P env' → Q σ' H) → g v σ H Q) (hix : ∀ i ∈ tgt.ix, i ∈ vs) : DS X st (sSetN i (dLc src tgt vs test te)) := by
  have mm : Mono (dLc src tgt vs test te) := fun env P P' i q => m1 env _ _ (fun e d q => ⟨q.1, compW_mono (compF_mono m2 m3) _ _ _ i q.2⟩) q
  refine ⟨sSetN_mono mm, PS.imp h fun D σ H ⟨dk, B, pn, env, R, q⟩ => ?_⟩
  refine tLc_of m1 m2 m3 hg hix σ H _ ⟨dk, B, pn, env, R, mm env _ _ (fun ds q a H' na ex o => q a _ _ (setN_of R ex na o)) q⟩
theorem dn_lc {src : DI0} {tgt : Tg} {vs : List Nat} {test : DB} {g : TG} (h : PE X e (tLc (tI X.K src) g (tTb X.K test) (tD X.K te) vs)) (m1 : MonoI src) (m2 : Mono test) (m3 : Mono te)
    (hg : ∀ (dk : Option Dk) (B : Hp) (pn : Pn) (σ : L2.St) (H : Hp) (env : En) (d : D) (v : V) (P : En → Prop) (Q : L2.St → Hp → Prop), Rel X.K dk B pn σ H env → IsD X.K H d v → tgt.app d env P →
      (∀ σ' env', Sets σ tgt.ix σ' → Rel X.K dk B pn σ' H env' → P env' → Q σ' H) → g v σ H Q) (hix : ∀ i ∈ tgt.ix, i ∈ vs) : DN X e (dLc src tgt vs test te) :=
  ⟨fun env P P' i q => m1 env _ _ (fun e d q => ⟨q.1, compW_mono (compF_mono m2 m3) _ _ _ i q.2⟩) q, PE.imp h (tLc_of m1 m2 m3 hg hix)⟩
/-- a, b = e, e a tuple -/
def sUnp (tgt : Tg) (te : DT) : DTS := fun D env => te env fun d => tgt.app d env D.nx
theorem ds_unp {tgt : Tg} {g : TG} (he : DE X e te) (hg : DG X tg tgt g) (hs : swapsWithSole [tg] e pos.line X.env = pure false := by rfl) (hw : swappedStores [tg] e X.env = pure none := by rfl)
    (h1 : (assignEach [tg] X.env).map (·.2) = [assign tg X.env] := by rfl) : DS X (.Assign [tg] e pos) (sUnp tgt te) := by
  refine ⟨fun D D' env j q => he.mono env _ _ (fun d q => Tg.app_mono (fun e q => j.nx _ q) q) q, PS.imp (ps_asg he.pe hg.pg hs hw h1) fun D σ H ⟨dk, B, pn, env, R, q⟩ => ?_⟩
  exact ⟨dk, B, pn, env, R, he.mono env _ _ (fun d q v H' ex r => hg.ok dk B pn σ H' env d v _ _ (R.to ex) r q fun σ' env' _ R' k => k σ' H' R') q⟩
/-- a, b = e1, e2 -/
def MsOk (K : PySem.W.Frag) (H H' : Hp) : Re → V → Prop
  | .val d, v => IsD K H' d v
  | .new ds, v => ∃ a, v = .ref a ∧ H a = none ∧ OwnAt K H' a ds
abbrev DM0 := En → (Re → Re → Prop) → Prop
def tM (K : PySem.W.Frag) (t : DM0) : TA := fun σ H Q => ∃ dk B pn env, Rel K dk B pn σ H env ∧ t env fun r s => ∀ v w H1 H', Ext dk H H1 → Ext dk H1 H' → MsOk K H H1 r v → MsOk K H1 H' s w → Q [v, w] H'
def mVV (ta tb : DT) : DM0 := fun env Q => ta env fun x => tb env fun y => Q (.val x) (.val y)
def mVN (ta : DT) (tb : DLs) : DM0 := fun env Q => ta env fun x => tb env fun y => Q (.val x) (.new y)
def mNV (ta : DLs) (tb : DT) : DM0 := fun env Q => ta env fun x => tb env fun y => Q (.new x) (.val y)
def mNN (ta tb : DLs) : DM0 := fun env Q => ta env fun x => tb env fun y => Q (.new x) (.new y)
def MonoM (t : DM0) : Prop := ∀ env (P P' : Re → Re → Prop), (∀ d e, P d e → P' d e) → t env P → t env P'
structure DM (X : Cx) (es : List Expr) (t : DM0) : Prop where
  mono : MonoM t
  pa : PA X es (tM X.K t)
theorem dm_vv (ha : DE X a ta) (hb : DE X b tb) (hs : starEach [a, b] X.env = (false, eval a X.env) :: starEach [b] X.env := by rfl) (hs2 : starEach [b] X.env = (false, eval b X.env) :: starEach [] X.env := by rfl) : DM X [a, b] (mVV ta tb) := by
  refine ⟨fun env P P' i q => ha.mono env _ _ (fun x q => hb.mono env _ _ (fun y q => i _ _ q) q) q, PA.imp (pa_cons ha.pe (pa_cons hb.pe pa_nil hs2) hs) fun σ H Q ⟨dk, B, pn, env, R, q⟩ => ?_⟩
  exact ⟨dk, B, pn, env, R, ha.mono env _ _ (fun x q v H1 e1 r1 => ⟨dk, B, pn, env, R.to e1, hb.mono env _ _ (fun y q w H2 e2 r2 => q v w H1 H2 e1 e2 r1 r2) q⟩) q⟩
theorem dm_vn {tb : DLs} (ha : DE X a ta) (hb : DN X b tb) (hs : starEach [a, b] X.env = (false, eval a X.env) :: starEach [b] X.env := by rfl) (hs2 : starEach [b] X.env = (false, eval b X.env) :: starEach [] X.env := by rfl) : DM X [a, b] (mVN ta tb) := by
  refine ⟨fun env P P' i q => ha.mono env _ _ (fun x q => hb.mono env _ _ (fun y q => i _ _ q) q) q, PA.imp (pa_cons ha.pe (pa_cons hb.pe pa_nil hs2) hs) fun σ H Q ⟨dk, B, pn, env, R, q⟩ => ?_⟩
  exact ⟨dk, B, pn, env, R, ha.mono env _ _ (fun x q v H1 e1 r1 => ⟨dk, B, pn, env, R.to e1, hb.mono env _ _ (fun y q w H2 n2 e2 r2 => q v _ H1 H2 e1 e2 r1 ⟨w, rfl, n2, r2⟩) q⟩) q⟩
theorem dm_nv {ta : DLs} (ha : DN X a ta) (hb : DE X b tb) (hs : starEach [a, b] X.env = (false, eval a X.env) :: starEach [b] X.env := by rfl) (hs2 : starEach [b] X.env = (false, eval b X.env) :: starEach [] X.env := by rfl) : DM X [a, b] (mNV ta tb) := by
  refine ⟨fun env P P' i q => ha.mono env _ _ (fun x q => hb.mono env _ _ (fun y q => i _ _ q) q) q, PA.imp (pa_cons ha.pe (pa_cons hb.pe pa_nil hs2) hs) fun σ H Q ⟨dk, B, pn, env, R, q⟩ => ?_⟩
  exact ⟨dk, B, pn, env, R, ha.mono env _ _ (fun x q v H1 n1 e1 r1 => ⟨dk, B, pn, env, R.to e1, hb.mono env _ _ (fun y q w H2 e2 r2 => q _ w H1 H2 e1 e2 ⟨v, rfl, n1, r1⟩ r2) q⟩) q⟩
theorem dm_nn {ta tb : DLs} (ha : DN X a ta) (hb : DN X b tb) (hs : starEach [a, b] X.env = (false, eval a X.env) :: starEach [b] X.env := by rfl) (hs2 : starEach [b] X.env = (false, eval b X.env) :: starEach [] X.env := by rfl) : DM X [a, b] (mNN ta tb) := by
  refine ⟨fun env P P' i q => ha.mono env _ _ (fun x q => hb.mono env _ _ (fun y q => i _ _ q) q) q, PA.imp (pa_cons ha.pe (pa_cons hb.pe pa_nil hs2) hs) fun σ H Q ⟨dk, B, pn, env, R, q⟩ => ?_⟩
  exact ⟨dk, B, pn, env, R, ha.mono env _ _ (fun x q v H1 n1 e1 r1 => ⟨dk, B, pn, env, R.to e1, hb.mono env _ _ (fun y q w H2 n2 e2 r2 => q _ _ H1 H2 e1 e2 ⟨v, rfl, n1, r1⟩ ⟨w, rfl, n2, r2⟩) q⟩) q⟩
/-- a slot takes what has come -/
def putR (env : En) (i : Nat) : Re → (En → Prop) → Prop
  | .val d, Q => Q (env.set i (some (.val d)))
  | .new ds, Q => ∀ a, Q (env.set i (some (.lst true a ds)))
theorem putR_mono {env : En} {i : Nat} {r : Re} {P P' : En → Prop} (h : ∀ e, P e → P' e) (q : putR env i r P) : putR env i r P' := by
  cases r with
  | val d => exact h _ q
  | new ds => exact fun a => h _ (q a)
def sPar (i j : Nat) (t : DM0) : DTS := fun D env => t env fun r s => putR env i r fun e => putR e j s D.nx
theorem ds_par {i j : Nat} {tm : DM0} (h : ∀ ta', PA X es ta' → PS X st (tPar i j ta')) (hm : DM X es tm) : DS X st (sPar i j tm) := by
  refine ⟨fun D D' env k q => hm.mono env _ _ (fun r s q => putR_mono (fun e q => putR_mono (fun e q => k.nx _ q) q) q) q, PS.imp (h _ hm.pa) fun D σ H ⟨dk, B, pn, env, R, q⟩ => ?_⟩
  refine ⟨dk, B, pn, env, R, hm.mono env _ _ (fun r s q v w H1 H2 e1 e2 r1 r2 => ⟨v, w, rfl, ?_⟩) q⟩
  have R1 := R.to e1
  cases r with
  | val d =>
    have R2 := (R1.to e2).setV i (IsD.to e2.tup r1)
    cases s with
    | val d' => exact q _ _ (R2.setV j r2)
    | new ds =>
      obtain ⟨a, rfl, na, o⟩ := r2
      refine q a _ _ (R2.setN j (R1.ext.none_back R1.invB na) (notDk_none R1.inv na) o ⟨fun c o' es z => ?_, (R1.free na).2⟩)
      by_cases ic : i = c
      · subst ic
        rw [List.getElem?_set, if_pos rfl] at z
        split at z <;> cases z
      · rw [List.getElem?_set_ne ic] at z
        exact (R1.free na).1 c o' es z
  | new ds =>
    obtain ⟨a, rfl, na, o⟩ := r1
    have R3 : Rel X.K dk B pn (σ.set i (some (.ref a))) H1 (env.set i (some (.lst true a ds))) := setN_of R e1 na o
    have R2 := R3.to e2
    cases s with
    | val d' => exact q a _ _ (R2.setV j r2)
    | new ds' =>
      obtain ⟨a', rfl, na', o'⟩ := r2
      exact q a a' _ _ (R2.setN j (R3.ext.none_back R3.invB na') (notDk_none R3.inv na') o' (R3.free na'))
/-- x.append(e) -/
def sApp (i : Nat) (te : DT) : DTS := fun D env => match env[i]? with
  | some (some (.lst true a ds)) => te env fun d => ds.length < 1000000 ∧ D.nx (env.set i (some (.lst true a (ds ++ [d]))))
  | _ => False
theorem ds_app {i : Nat} (h : ∀ te', PE X e te' → PS X st (tDrop (tBM X.K "list" rAppend (tVar i) (tCons te' tNil)))) (he : DE X e te) : DS X st (sApp i te) := by
  refine ⟨fun D D' env j q => ?_, PS.imp (h _ he.pe) fun D σ H ⟨dk, B, pn, env, R, q⟩ => ?_⟩
  · unfold sApp at q ⊢
    split at q
    · exact he.mono env _ _ (fun d q => ⟨q.1, j.nx _ q.2⟩) q
    · exact q.elim
  · unfold sApp at q
    split at q
    · rename_i a ds hi
      obtain ⟨v, hv, rfl, n, _, xs, hx, tt⟩ := R.ok _ _ hi
      refine ⟨_, hv, .inl ⟨rfl, xs, SqL.of hx⟩, dk, B, pn, env, R, he.mono env _ _ (fun d q v H' ex r => ?_) q⟩
      have R1 := R.to ex
      have hx' : H' a = some (.lst xs) := ex.keep _ _ hx n
      refine ⟨a, xs, v, rfl, rfl, hx', ?_, ?_⟩
      · rw [← tt.length]
        exact sz6' q.1
      · exact q.2 _ _ (R1.mut hi ((tt.to ex.tup).app (.cons r .nil)))
    · exact q.elim
/-- x.extend(new list) -/
def sExt (i : Nat) (tl : DLs) : DTS := fun D env => match env[i]? with
  | some (some (.lst true a ds)) => tl env fun es => ds.length + es.length ≤ 1000000 ∧ D.nx (env.set i (some (.lst true a (ds ++ es))))
  | _ => False
theorem ds_ext {i : Nat} (h : ∀ te', PE X e te' → PS X st (tDrop (tBM X.K "list" rExtend (tVar i) (tCons te' tNil)))) (he : DN X e tl) : DS X st (sExt i tl) := by
  refine ⟨fun D D' env j q => ?_, PS.imp (h _ he.pe) fun D σ H ⟨dk, B, pn, env, R, q⟩ => ?_⟩
  · unfold sExt at q ⊢
    split at q
    · exact he.mono env _ _ (fun d q => ⟨q.1, j.nx _ q.2⟩) q
    · exact q.elim
  · unfold sExt at q
    split at q
    · rename_i a ds hi
      obtain ⟨v, hv, rfl, n, _, xs, hx, tt⟩ := R.ok _ _ hi
      refine ⟨_, hv, .inl ⟨rfl, xs, SqL.of hx⟩, dk, B, pn, env, R, he.mono env _ _ (fun es q b H' nb ex o => ?_) q⟩
      have R1 := R.to ex
      have hx' : H' a = some (.lst xs) := ex.keep _ _ hx n
      obtain ⟨ys, hy, ty⟩ := o
      refine ⟨a, b, xs, ys, rfl, rfl, hx', hy, ?_, ?_⟩
      · rw [← tt.length, ← ty.length]
        exact sz6 q.1
      · exact q.2 _ _ (R1.mut hi ((tt.to ex.tup).app ty))
    · exact q.elim

/-! ### branches, loops, ends -/
def sIf (t : DB) (u v : DTS) : DTS := fun D env => t env fun x => if x = true then u D env else v D env
theorem ds_if {tb : DB} {u v : DTS} (hc : DC X c tb) (ha : DSs X body u) (hb : DSs X orelse v) : DS X (.If c body orelse pos) (sIf tb u v) := by
  refine ⟨fun D D' env j q => hc.mono env _ _ (fun x q => ?_) q, PS.imp (ps_if hc.pt ha.pss hb.pss) fun D σ H ⟨dk, B, pn, env, R, q⟩ => ?_⟩
  · cases x with
    | true => exact ha.mono _ _ _ j q
    | false => exact hb.mono _ _ _ j q
  · refine ⟨dk, B, pn, env, R, hc.mono env _ _ (fun x q H' ex => ?_) q⟩
    cases x with
    | true =>
      rw [if_pos rfl] at q ⊢
      exact ⟨dk, B, pn, env, R.to ex, q⟩
    | false =>
      rw [if_neg Bool.false_ne_true] at q ⊢
      exact ⟨dk, B, pn, env, R.to ex, q⟩
/-- within a loop: N is what a turn is to reach -/
def loopE (Z : DEnds) (N : En → Prop) : DEnds := { nx := N, rt := Z.rt, bk := Z.nx, ct := N }
theorem loopE_le {Z Z' : DEnds} {N N' : En → Prop} (j : Z.le Z') (h : ∀ e, N e → N' e) : (loopE Z N).le (loopE Z' N') := ⟨h, j.rt, j.nx, h⟩
def forW (tgt : Tg) (body : DTS) (Z : DEnds) : List D → En → Prop
  | [], env => Z.nx env
  | d :: ds, env => tgt.app d env (body (loopE Z (forW tgt body Z ds)))
theorem forW_mono {tgt : Tg} {body : DTS} (hb : MonoS body) {Z Z' : DEnds} (j : Z.le Z') : ∀ (ds : List D) (env : En), forW tgt body Z ds env → forW tgt body Z' ds env
  | [], _, q => j.nx _ q
  | d :: ds, env, q => Tg.app_mono (fun e q => hb _ _ _ (loopE_le j fun e q => forW_mono hb j ds e q) q) q
def sFor (src : DI0) (tgt : Tg) (body : DTS) : DTS := fun D env => src env fun env' ds => forW tgt body D ds env'
theorem ds_for {src : DI0} {tgt : Tg} {g : TG} (hp : PassesOwn (model X.prog X.w) X.A X.env X.xe) (hc : X.calm = true) (hi : DI X tg iter src) (hg : DG X tg tgt g) (hb : DSs X body t) (hs : ∀ x, foldedSetIterable iter X.env x = pure x := by intro _; rfl) :
    DS X (.For tg iter body [] pos) (sFor src tgt t) := by
  refine ⟨fun D D' env j q => hi.mono env _ _ (fun e d q => forW_mono hb.mono j _ _ q) q, PS.imp (ps_for hp hc hi.pi hg.pg hb.pss hs) fun D σ H ⟨dk, B, pn, env, R, q⟩ => ?_⟩
  refine ⟨dk, B, pn, env, R, hi.mono env _ _ (fun env' ds q J H1 pn' le e1 R1 W => ?_) q⟩
  obtain ⟨G, Y, w, hG, hY⟩ := W
  refine for_it w (fun i σ H => ∃ e, Rel X.K dk B pn' σ H e ∧ forW tgt t (liftE X.K dk B pn D) (ds.drop i) e) ⟨env', R1, by rw [List.drop_zero]; exact q⟩ (fun i σ H _ ⟨e, R2, _⟩ => hG _ _ _ R2) (fun i x σ2 H2 H3 hlt ⟨e2, R2, q⟩ y => ?_) (fun σ2 H2 ⟨e2, R2, q⟩ => ?_)
  · obtain ⟨e3, d, hd, r⟩ := hY i H2 x H3 hlt (hG _ _ _ R2) R2.inv y
    have ed : ds.drop i = d :: ds.drop (i + 1) := by
      rw [List.drop_eq_getElem_cons hlt]
      congr 1
      exact Option.some.inj ((List.getElem?_eq_getElem hlt).symm.trans hd)
    rw [ed] at q
    refine hg.ok dk B pn' σ2 H3 e2 d x _ _ (R2.to e3) r q fun σ4 env4 ss R4 q => ?_
    refine ⟨dk, B, pn', env4, R4, hb.mono (loopE (liftE X.K dk B pn D) (forW tgt t (liftE X.K dk B pn D) (ds.drop (i + 1)))) _ _ ⟨fun e q σ' H' R' => ⟨e, R', q⟩, fun r q => q, fun e q σ' H' R' => (show ∀ σ H, Rel X.K dk B pn σ H e → D.nx σ H from q) σ' H' (R'.unpin le), fun e q σ' H' R' => ⟨e, R', q⟩⟩ q⟩
  · rw [List.drop_length] at q
    exact (show ∀ σ H, Rel X.K dk B pn σ H e2 → D.nx σ H from q) _ _ (R2.unpin le)
def sWhile (t : DB) (body : DTS) : DTS := fun Z env => ∃ W : Nat → En → Prop, (∃ m, W m env) ∧ ∀ m e, W m e → t e fun x => if x = true then body (loopE Z fun e' => ∃ m', m' < m ∧ W m' e') e else Z.nx e
theorem ds_while {tb : DB} (hp : PassesOwn (model X.prog X.w) X.A X.env X.xe) (hc : DC X c tb) (hb : DSs X body t) : DS X (.While c body [] pos) (sWhile tb t) := by
  refine ⟨fun D D' env j ⟨W, w0, q⟩ => ⟨W, w0, fun m e w => hc.mono e _ _ (fun x q => ?_) (q m e w)⟩, PS.imp (ps_while hp hc.pt hb.pss) fun D σ H ⟨dk, B, pn, env, R, W, ⟨m0, w0⟩, q⟩ => ?_⟩
  · cases x with
    | true => exact hb.mono _ _ _ (loopE_le j fun _ z => z) q
    | false => exact j.nx _ q
  · refine ⟨fun m σ H => ∃ e, Rel X.K dk B pn σ H e ∧ W m e, ⟨m0, env, R, w0⟩, fun m σ H ⟨e, R1, w⟩ => ?_⟩
    refine ⟨dk, B, pn, e, R1, hc.mono e _ _ (fun x q H' ex => ?_) (q m e w)⟩
    cases x with
    | true =>
      rw [if_pos rfl] at q ⊢
      refine ⟨fun σ' H' => ∃ m', m' < m ∧ ∃ e, Rel X.K dk B pn σ' H' e ∧ W m' e, fun σ' H' z => z, dk, B, pn, e, R1.to ex, hb.mono (loopE (liftE X.K dk B pn D) fun e' => ∃ m', m' < m ∧ W m' e') _ _ ⟨fun e z σ' H' R' => (let ⟨m', l, w⟩ := z; ⟨m', l, e, R', w⟩), fun _ z => z, fun _ z => z, fun e z σ' H' R' => (let ⟨m', l, w⟩ := z; ⟨m', l, e, R', w⟩)⟩ q⟩
    | false =>
      rw [if_neg Bool.false_ne_true] at q ⊢
      exact q _ _ (R1.to ex)
def sRet (te : DT) : DTS := fun D env => te env fun d => D.rt (.val d)
def sRetN (tl : DLs) : DTS := fun D env => tl env fun ds => D.rt (.new ds)
def sRetV (i : Nat) : DTS := fun D env => match env[i]? with
  | some (some (.lst true _ ds)) => D.rt (.new ds)
  | _ => False
theorem ds_ret (he : DE X e te) : DS X (.Return (some e) pos) (sRet te) := by
  refine ⟨fun D D' env j q => he.mono env _ _ (fun d q => j.rt _ q) q, PS.imp (ps_ret he.pe) fun D σ H ⟨dk, B, pn, env, R, q⟩ => ?_⟩
  exact ⟨dk, B, pn, env, R, he.mono env _ _ (fun d q v H' ex r => q v H' (R.to ex).ext r) q⟩
theorem ds_retN (he : DN X e tl) : DS X (.Return (some e) pos) (sRetN tl) := by
  refine ⟨fun D D' env j q => he.mono env _ _ (fun d q => j.rt _ q) q, PS.imp (ps_ret he.pe) fun D σ H ⟨dk, B, pn, env, R, q⟩ => ?_⟩
  exact ⟨dk, B, pn, env, R, he.mono env _ _ (fun d q a H' na ex o => q _ H' (R.to ex).ext ⟨a, rfl, R.ext.none_back R.invB na, o⟩) q⟩
theorem ds_retV {i : Nat} (h : PE X e (tVar i)) : DS X (.Return (some e) pos) (sRetV i) := by
  refine ⟨fun D D' env j q => ?_, PS.imp (ps_ret h) fun D σ H ⟨dk, B, pn, env, R, q⟩ => ?_⟩
  · unfold sRetV at q ⊢
    split at q
    · exact j.rt _ q
    · exact q.elim
  · unfold sRetV at q
    split at q
    · rename_i a ds hi
      obtain ⟨v, hv, rfl, n, nb, o⟩ := R.ok _ _ hi
      exact ⟨_, hv, q _ H R.ext ⟨a, rfl, nb, o⟩⟩
    · exact q.elim
def sDrop (te : DT) : DTS := fun D env => te env fun _ => D.nx env
theorem ds_drop (he : DE X e te) (hs : swapsWith e none pos.line X.env = pure false := by rfl) : DS X (.Expr e pos) (sDrop te) := by
  refine ⟨fun D D' env j q => he.mono env _ _ (fun d q => j.nx _ q) q, PS.imp (ps_expr he.pe hs) fun D σ H ⟨dk, B, pn, env, R, q⟩ => ?_⟩
  exact ⟨dk, B, pn, env, R, he.mono env _ _ (fun d q v H' ex r => q _ _ (R.to ex)) q⟩
end

/-! ### defs -/
/-- the promise of a def: from its arguments and what is wanted of what it hands back -/
abbrev Fs := List Ar → (Re → Prop) → Prop
def spF (K : PySem.W.Frag) (f : Fs) : Sp := fun vs H Q _ => ∃ dk as, DkInv dk H ∧ ArsOk K dk H as vs ∧ f as fun r => ∀ v H', Ext dk H H' → ReOk K H H' r v → Q v H'
def FMono (f : Fs) : Prop := ∀ as (P P' : Re → Prop), (∀ r, P r → P' r) → f as P → f as P'
def rVal (Q : D → Prop) : Re → Prop
  | .val d => Q d
  | _ => False
def rNew (Q : List D → Prop) : Re → Prop
  | .new d => Q d
  | _ => False
section
variable {X : Cx} {e : Expr} {es : List Expr} {pos p : Pos} {t : DA0} {f : Fs}
def dCall (f : Fs) (t : DA0) : DT := fun env Q => t env fun as => f as (rVal Q)
def dCallN (f : Fs) (t : DA0) : DLs := fun env Q => t env fun as => f as (rNew Q)
theorem de_call (h : ∀ t', PA X es t' → PE X e (tCall (spF X.K f) [] E0 t')) (hf : FMono f) (ha : DA X es t) : DE X e (dCall f t) := by
  refine ⟨fun env P P' i q => ha.mono env _ _ (fun as q => hf as _ _ (fun r q => ?_) q) q, PE.imp (h _ ha.pa) fun σ H Q ⟨dk, B, pn, env, R, q⟩ => ?_⟩
  · cases r with
    | val d => exact i _ q
    | new d => exact q.elim
  · refine ⟨dk, B, pn, env, R, ha.mono env _ _ (fun as q vs H1 e1 r1 => ?_) q⟩
    have R1 := R.to e1
    refine ⟨dk, as, R1.inv, by rw [List.append_nil]; exact r1, hf as _ _ (fun r q v H' ex ro => ?_) q⟩
    cases r with
    | val d => exact q v H' (e1.trans ex) ro
    | new d => exact q.elim
theorem dn_call (h : ∀ t', PA X es t' → PE X e (tCall (spF X.K f) [] E0 t')) (hf : FMono f) (ha : DA X es t) : DN X e (dCallN f t) := by
  refine ⟨fun env P P' i q => ha.mono env _ _ (fun as q => hf as _ _ (fun r q => ?_) q) q, PE.imp (h _ ha.pa) fun σ H Q ⟨dk, B, pn, env, R, q⟩ => ?_⟩
  · cases r with
    | val d => exact q.elim
    | new d => exact i _ q
  · refine ⟨dk, B, pn, env, R, ha.mono env _ _ (fun as q vs H1 e1 r1 => ?_) q⟩
    have R1 := R.to e1
    refine ⟨dk, as, R1.inv, by rw [List.append_nil]; exact r1, hf as _ _ (fun r q v H' ex ro => ?_) q⟩
    cases r with
    | val d => exact q.elim
    | new d =>
      obtain ⟨a, rfl, na, o⟩ := ro
      exact q a H' (e1.none_back R.inv na) (e1.trans ex) o
end
/-- the frame at a def's entry -/
inductive Args : List Ar → En → Prop
  | nil : Args [] []
  | val {d : D} {as : List Ar} {env : En} : Args as env → Args (.val d :: as) (some (.val d) :: env)
  | lst {ds : List D} {a : Addr} {as : List Ar} {env : En} : Args as env → Args (.lst ds :: as) (some (.lst false a ds) :: env)
  | deck {as : List Ar} {env : En} : Args as env → Args (.deck :: as) (some .deck :: env)
theorem args_of {K : PySem.W.Frag} {dk : Option Dk} {H : Hp} : ∀ {as : List Ar} {vs : List V}, ArsOk K dk H as vs → ∃ env, Args as env ∧ env.length = vs.length ∧ (∀ (i : Nat) (sv : Sv), env[i]? = some (some sv) → ∃ v : V, (vs.map some)[i]? = some (some v) ∧ SvOk K dk H H sv v) ∧ ∀ (i : Nat) (a : Addr) (ds : List D), env[i]? ≠ some (some (.lst true a ds))
  | _, _, .nil => ⟨[], .nil, rfl, fun _ _ h => by simp at h, fun _ _ _ h => by simp at h⟩
  | _, _, .cons (r := r) (v := v) h t => by
    obtain ⟨env, A, hl, ok, no⟩ := args_of t
    have step : ∀ sv, SvOk K dk H H sv v → (∀ a ds, sv ≠ .lst true a ds) → (some sv :: env).length = (v :: _).length ∧ (∀ (i : Nat) (sv' : Sv), (some sv :: env)[i]? = some (some sv') → ∃ w : V, ((v :: _).map some)[i]? = some (some w) ∧ SvOk K dk H H sv' w) ∧ ∀ (i : Nat) (a : Addr) (ds : List D), (some sv :: env)[i]? ≠ some (some (.lst true a ds)) := fun sv hs hn => by
      refine ⟨by rw [List.length_cons, List.length_cons, hl], fun i sv' e => ?_, fun i a ds e => ?_⟩
      · cases i with
        | zero =>
          rw [List.getElem?_cons_zero] at e
          cases e
          exact ⟨v, rfl, hs⟩
        | succ i =>
          rw [List.getElem?_cons_succ] at e
          obtain ⟨w, e1, h1⟩ := ok i sv' e
          exact ⟨w, by simpa using e1, h1⟩
      · cases i with
        | zero =>
          rw [List.getElem?_cons_zero] at e
          exact hn a ds (Option.some.inj (Option.some.inj e))
        | succ i =>
          rw [List.getElem?_cons_succ] at e
          exact no i a ds e
    cases r with
    | val d =>
      obtain ⟨z1, z2, z3⟩ := step (.val d) h (fun _ _ z => nomatch z)
      exact ⟨_, .val A, z1, z2, z3⟩
    | lst ds =>
      obtain ⟨a, rfl, n, l⟩ := h
      obtain ⟨z1, z2, z3⟩ := step (.lst false a ds) ⟨rfl, n, l⟩ (fun _ _ z => nomatch z)
      exact ⟨_, .lst A, z1, z2, z3⟩
    | deck =>
      obtain ⟨z1, z2, z3⟩ := step .deck h (fun _ _ z => nomatch z)
      exact ⟨_, .deck A, z1, z2, z3⟩
theorem rel_start {K : PySem.W.Frag} {dk : Option Dk} {H : Hp} {as : List Ar} {vs : List V} {N : List Str} (i : DkInv dk H) (h : ArsOk K dk H as vs) : ∃ env, Args as env ∧ Rel K dk H ⟨[], []⟩ (L2.start N vs) H (env ++ List.replicate (N.length - vs.length) none) := by
  obtain ⟨env, A, hl, ok, no⟩ := args_of h
  have f : ∀ {j : Nat} {sv : Sv}, (env ++ List.replicate (N.length - vs.length) none)[j]? = some (some sv) → env[j]? = some (some sv) := fun {j sv} e => by
    rw [List.getElem?_append] at e
    split at e
    · exact e
    · rw [List.getElem?_replicate] at e
      split at e <;> cases e
  refine ⟨env, A, ⟨?_, fun j sv e => ?_, fun p q a ds o ds' e1 _ => absurd (f e1) (no p a ds), fun p hp => absurd hp List.not_mem_nil, fun p hp => absurd hp List.not_mem_nil, fun p hp => absurd hp List.not_mem_nil, Ext.refl H, i, i⟩⟩
  · unfold L2.start
    rw [List.length_append, List.length_append, List.length_map, List.length_replicate, List.length_replicate, hl]
  · obtain ⟨v, e1, h1⟩ := ok j sv (f e)
    refine ⟨v, ?_, h1⟩
    unfold L2.start
    rw [List.getElem?_append_left (List.getElem?_eq_some_iff.mp e1).1]
    exact e1
/-- a def by its body's reading -/
theorem body_of {K : PySem.W.Frag} {t : DTS} {f : Fs} {N : List Str} {vs : List V} {H : Hp} {Q : VK} {E : XK} (ht : MonoS t) (h : spF K f vs H Q E)
    (hb : ∀ as (P : Re → Prop), f as P → ∀ env, Args as env → t { nx := fun _ => P (.val .non), rt := P, bk := fun _ => False, ct := fun _ => False } (env ++ List.replicate (N.length - as.length) none)) :
    tS K t { nx := fun _ H' => Q .non H', rt := Q } (L2.start N vs) H := by
  obtain ⟨dk, as, i, ha, hf⟩ := h
  obtain ⟨env, A, R⟩ := rel_start (N := N) i ha
  have q := hb as _ hf env A
  rw [← ha.length] at q
  refine ⟨dk, H, ⟨[], []⟩, _, R, ht { nx := fun _ => ∀ v H', Ext dk H H' → ReOk K H H' (.val .non) v → Q v H', rt := fun r => ∀ v H', Ext dk H H' → ReOk K H H' r v → Q v H', bk := fun _ => False, ct := fun _ => False } _ _ ⟨fun e k σ' H' R' => k .non H' R'.ext .non, fun r k => k, fun _ z => z.elim, fun _ z => z.elim⟩ q⟩
end DL

set_option maxRecDepth 100000
namespace DL
open PySem PySem.Spec PyProof.Rows L2

section
variable {X : Cx} {elt tg iter e : Expr} {es : List Expr} {ifs : List Expr} {scope : Scope} {own : List (Str × Nat)} {pos p : Pos} {src : DI0} {tgt : Tg} {test : DB} {te : DT} {g : TG}
theorem dn_comp (hc : X.calm = true) (hN : X.N.Nodup) (hi : DI X tg iter src) (ok : BlkOk X.N X.env.scope scope own)
    (hg : ∀ (s : Shared) (H : Hp) (C : Addr) (cl : List (Str × Addr)) (fp : List Addr), DG (X.blk s H scope (compEnvC scope cl C X.env) fp) tg tgt g)
    (ht : ∀ (s : Shared) (H : Hp) (C : Addr) (cl : List (Str × Addr)) (fp : List Addr), DTs (X.blk s H scope (compEnvC scope cl C X.env) fp) ifs test)
    (he : ∀ (s : Shared) (H : Hp) (C : Addr) (cl : List (Str × Addr)) (fp : List Addr), DE (X.blk s H scope (compEnvC scope cl C X.env) fp) elt te)
    (hix : ∀ i ∈ tgt.ix, i ∈ own.map (·.2)) (hs : ∀ x, foldedSetIterable iter X.env x = pure x := by intro _; rfl) : DN X (.ListComp elt [⟨tg, iter, ifs, 0⟩] scope pos) (dLc src tgt (own.map (·.2)) test te) := by
  have h1 := hg X.s_0 X.H_0 0 [] []
  have h2 := ht X.s_0 X.H_0 0 [] []
  have h3 := he X.s_0 X.H_0 0 [] []
  exact dn_lc (pe_lc hc hN hi.pi ok (fun s H C cl fp => (hg s H C cl fp).pg) (fun s H C cl fp => (ht s H C cl fp).pts) (fun s H C cl fp => (he s H C cl fp).pe) hs) hi.mono h2.mono h3.mono (fun dk B pn σ H env d v P Q R r t k => h1.ok dk B pn σ H env d v P Q R r t k) hix
theorem ds_comp {i : Nat} {y : Str} {py spos : Pos} (hc : X.calm = true) (hN : X.N.Nodup) (hy : X.N[i]? = some y) (hyl : X.env.scope.names.lookup y = some .local)
    (hsw : swapsWith (.ListComp elt [⟨tg, iter, ifs, 0⟩] scope pos) (some (.Name y py)) spos.line X.env = pure true) (hi : DI X tg iter src) (ok : BlkOk X.N X.env.scope scope own)
    (hg : ∀ (s : Shared) (H : Hp) (C : Addr) (cl : List (Str × Addr)) (fp : List Addr), DG (X.blk s H scope (compEnvC scope cl C X.env) fp) tg tgt g)
    (ht : ∀ (s : Shared) (H : Hp) (C : Addr) (cl : List (Str × Addr)) (fp : List Addr), DTs (X.blk s H scope (compEnvC scope cl C X.env) fp) ifs test)
    (he : ∀ (s : Shared) (H : Hp) (C : Addr) (cl : List (Str × Addr)) (fp : List Addr), DE (X.blk s H scope (compEnvC scope cl C X.env) fp) elt te)
    (hix : ∀ i ∈ tgt.ix, i ∈ own.map (·.2)) (hs : ∀ x, foldedSetIterable iter X.env x = pure x := by intro _; rfl) : DS X (.Assign [.Name y py] (.ListComp elt [⟨tg, iter, ifs, 0⟩] scope pos) spos) (sSetN i (dLc src tgt (own.map (·.2)) test te)) := by
  have h1 := hg X.s_0 X.H_0 0 [] []
  have h2 := ht X.s_0 X.H_0 0 [] []
  have h3 := he X.s_0 X.H_0 0 [] []
  exact ds_setLc (ps_setLc hc hN hy hyl hsw hi.pi ok (fun s H C cl fp => (hg s H C cl fp).pg) (fun s H C cl fp => (ht s H C cl fp).pts) (fun s H C cl fp => (he s H C cl fp).pe) hs) hi.mono h2.mono h3.mono (fun dk B pn σ H env d v P Q R r t k => h1.ok dk B pn σ H env d v P Q R r t k) hix
end

/-! ### defs that are called -/
def Cal (P : Program) (w : World) (K : PySem.W.Frag) (mg : Str → Option Value) (base : Heap) (k : Nat) (x : Str) (ps : List Str) (sp : Sp) : Prop :=
  ∃ f fd, mg x = some (.ref f) ∧ PySem.W.keepIn K (.ref f) = true ∧ Binds K fd ps [] ∧ FnOk P w K mg base CX0 k f fd ps sp
section
variable {X : Cx} {e : Expr} {es : List Expr} {pos p : Pos} {x : Str} {k j : Nat} {ps : List Str} {sp : Sp} {f : Fs} {t : DA0}
theorem Cal.pe {t : TA} (c : Cal X.prog X.w X.K X.mg X.base k x ps sp) (hr : Room j X.A) (hk : k ≤ j) (hg : Gl X x) (ha : PA X (e :: es) t) (hdb : (x == ("__debug__" : Str)) = false := by decide)
    (he : starEach (e :: es) X.env = (false, eval e X.env) :: starEach es X.env := by rfl) (hpl : (backTo pos (starEach es X.env)).any (·.1) = false := by rfl) : PE X (.Call (.Name x p) (e :: es) [] pos) (tCall sp [] E0 t) := by
  obtain ⟨f, fd, h1, h2, h3, h4⟩ := c
  exact pe_call h4 (hr.mono hk) hg h1 h2 h3 .nil pass0 ha hdb he hpl
theorem de_fn (c : Cal X.prog X.w X.K X.mg X.base k x ps (spF X.K f)) (hr : Room j X.A) (hk : k ≤ j) (hg : Gl X x) (hf : FMono f) (ha : DA X (e :: es) t) (hdb : (x == ("__debug__" : Str)) = false := by decide)
    (he : starEach (e :: es) X.env = (false, eval e X.env) :: starEach es X.env := by rfl) (hpl : (backTo pos (starEach es X.env)).any (·.1) = false := by rfl) : DE X (.Call (.Name x p) (e :: es) [] pos) (dCall f t) :=
  de_call (fun t' h => c.pe hr hk hg h hdb he hpl) hf ha
theorem dn_fn (c : Cal X.prog X.w X.K X.mg X.base k x ps (spF X.K f)) (hr : Room j X.A) (hk : k ≤ j) (hg : Gl X x) (hf : FMono f) (ha : DA X (e :: es) t) (hdb : (x == ("__debug__" : Str)) = false := by decide)
    (he : starEach (e :: es) X.env = (false, eval e X.env) :: starEach es X.env := by rfl) (hpl : (backTo pos (starEach es X.env)).any (·.1) = false := by rfl) : DN X (.Call (.Name x p) (e :: es) [] pos) (dCallN f t) :=
  dn_call (fun t' h => c.pe hr hk hg h hdb he hpl) hf ha
end
abbrev FnP (K : PySem.W.Frag) (x : Str) (st : Stmt) (f : Addr) (fd : FuncData) : Prop := FunD K x x (defArgs st) (defBody st) (defScope st) [] [] f fd
/-- where a def of the text stands -/
structure At (K : PySem.W.Frag) (mg : Str → Option Value) (x : Str) (st : Stmt) (f : Addr) (fd : FuncData) (ps : List Str) : Prop where
  mg : mg x = some (.ref f)
  F : FnP K x st f fd
  b : Binds K fd ps []
section
variable {P : Program} {w : World} {K : PySem.W.Frag} {mg : Str → Option Value} {base : Heap} {x : Str} {st : Stmt} {f : Addr} {fd : FuncData} {ps N : List Str} {k : Nat} {g : Fs}
theorem At.cal {sp : Sp} (F : At K mg x st f fd ps) (h : FnOk P w K mg base CX0 k f fd ps sp) : Cal P w K mg base k x ps sp := ⟨f, fd, F.mg, F.F.kp, F.b, h⟩
theorem At.ok {t : DTS} (F : At K mg x st f fd ps) (S : FnScope N ps (defScope st)) (hl : ∀ as Q, g as Q → as.length = ps.length)
    (hT : ∀ (cdv : Value) (A : Around) (outer : List Env) (s : Shared) (H : Hp) (E : XK), Room k (A.deeper (envOfC x (defScope st) s.heap.objs.size f cdv)) → DSs (cxOf CX0 P w K mg base N x (defScope st) f cdv A outer s H E).nox (defBody st) t)
    (hb : ∀ as (Q : Re → Prop), g as Q → ∀ env, Args as env → t { nx := fun _ => Q (.val .non), rt := Q, bk := fun _ => False, ct := fun _ => False } (env ++ List.replicate (N.length - as.length) none)) :
    Cal P w K mg base (k + 1) x ps (spF K g) := by
  refine F.cal (F.F.ok S (fun vs H Q E h => ?_) fun cdv A outer s H vs Q E hr h => ?_)
  · obtain ⟨dk, as, _, ha, hf⟩ := h
    rw [ha.length]
    exact hl _ _ hf
  · have z := hT cdv A outer s H E hr
    exact ⟨_, PSs.nox z.pss, body_of (E := E) z.mono h hb⟩
end
/-! ### promises in short -/
/-- a def that reckons a value: from one argument, two, three -/
def f1 (a : Ar) (r : Re) : Fs := fun as Q => as = [a] ∧ Q r
theorem FMono.of {f : Fs} (h : ∀ as (P P' : Re → Prop), (∀ r, P r → P' r) → f as P → f as P') : FMono f := h
end DL

set_option maxRecDepth 100000
namespace DL
open PySem PySem.Spec PyProof.Rows L2

/-! ### readings of walks -/
section
variable {f : D → (Option D → Prop) → Prop} {Q : List D → Prop}
theorem compW_fm (g : D → Option D) : ∀ {ds : List D} {Q : List D → Prop}, (∀ d ∈ ds, ∀ P : Option D → Prop, P (g d) → f d P) → Q (ds.filterMap g) → compW f ds Q
  | [], _, _, q => q
  | d :: ds, Q, h, q => by
    refine h d List.mem_cons_self _ ?_
    refine compW_fm g (fun e he => h e (List.mem_cons_of_mem _ he)) ?_
    have e1 : (g d).toList ++ ds.filterMap g = (d :: ds).filterMap g := by
      cases e : g d <;> simp [List.filterMap_cons, e]
    rw [e1]
    exact q
theorem compW_map (g : D → D) {ds : List D} (h : ∀ d ∈ ds, ∀ P : Option D → Prop, P (some (g d)) → f d P) (q : Q (ds.map g)) : compW f ds Q := by
  refine compW_fm (fun d => some (g d)) h ?_
  have e : ds.filterMap (fun d => some (g d)) = ds.map g := by
    rw [show (fun d => some (g d)) = some ∘ g from rfl, List.filterMap_eq_map]
  rw [e]
  exact q
theorem compW_rng (g : Nat → D) {lo : Int} {n : Nat} (h : ∀ i, i < n → ∀ P : Option D → Prop, P (some (g i)) → f (.int (lo + (i : Nat))) P) (q : Q ((List.range n).map g)) : compW f (rng lo n) Q := by
  have main : ∀ (l : List Nat) (Q : List D → Prop), (∀ i ∈ l, i < n) → Q (l.map g) → compW f (l.map fun i => D.int (lo + (i : Nat))) Q := by
    intro l
    induction l with
    | nil => intro Q _ q; exact q
    | cons i l ih =>
      intro Q hl q
      refine h i (hl i List.mem_cons_self) _ ?_
      exact ih _ (fun j hj => hl j (List.mem_cons_of_mem _ hj)) q
  exact main _ _ (fun i hi => List.mem_range.mp hi) q
theorem compW_rngF (g : Nat → Option D) {lo : Int} {n : Nat} (h : ∀ i, i < n → ∀ P : Option D → Prop, P (g i) → f (.int (lo + (i : Nat))) P) (q : Q ((List.range n).filterMap g)) : compW f (rng lo n) Q := by
  have main : ∀ (l : List Nat) (Q : List D → Prop), (∀ i ∈ l, i < n) → Q (l.filterMap g) → compW f (l.map fun i => D.int (lo + (i : Nat))) Q := by
    intro l
    induction l with
    | nil => intro Q _ q; exact q
    | cons i l ih =>
      intro Q hl q
      refine h i (hl i List.mem_cons_self) _ ?_
      refine ih _ (fun j hj => hl j (List.mem_cons_of_mem _ hj)) ?_
      have e1 : (g i).toList ++ l.filterMap g = (i :: l).filterMap g := by
        cases e : g i <;> simp [List.filterMap_cons, e]
      rw [e1]
      exact q
  exact main _ _ (fun i hi => List.mem_range.mp hi) q
/-- some outcome each: what all outcomes have -/
theorem compW_any (R : D → D → Prop) : ∀ {ds : List D} {Q : List D → Prop}, (∀ d ∈ ds, ∀ P : Option D → Prop, (∀ y, R d y → P (some y)) → f d P) → (∀ ys : List D, ys.length = ds.length → (∀ (i : Nat) (y : D), ys[i]? = some y → ∃ d, ds[i]? = some d ∧ R d y) → Q ys) → compW f ds Q
  | [], _, _, q => q [] rfl (fun i y e => by simp at e)
  | d :: ds, Q, h, q => by
    refine h d List.mem_cons_self _ fun y r => ?_
    refine compW_any R (fun e he => h e (List.mem_cons_of_mem _ he)) fun ys hl hy => ?_
    refine q (y :: ys) (by rw [List.length_cons, List.length_cons, hl]) fun i z e => ?_
    cases i with
    | zero =>
      rw [List.getElem?_cons_zero] at e
      cases e
      exact ⟨d, rfl, r⟩
    | succ i =>
      rw [List.getElem?_cons_succ] at e
      exact hy i z e
theorem forW_inv {tgt : Tg} {body : DTS} {Z : DEnds} {ds : List D} {env : En} (Pv : Nat → En → Prop) (h0 : Pv 0 env)
    (hs : ∀ (i : Nat) (d : D) (e : En) (N : En → Prop), ds[i]? = some d → Pv i e → (∀ e', Pv (i + 1) e' → N e') → tgt.app d e (body (loopE Z N))) (hd : ∀ e, Pv ds.length e → Z.nx e) : forW tgt body Z ds env := by
  have main : ∀ (m i : Nat) (e : En), i + m = ds.length → Pv i e → forW tgt body Z (ds.drop i) e := by
    intro m
    induction m with
    | zero =>
      intro i e hi p
      have : i = ds.length := by omega
      subst this
      rw [List.drop_length]
      exact hd e p
    | succ m ih =>
      intro i e hi p
      have hlt : i < ds.length := by omega
      rw [List.drop_eq_getElem_cons hlt]
      exact hs i _ e _ (List.getElem?_eq_getElem hlt) p fun e' p' => ih (i + 1) e' (by omega) p'
  have z := main ds.length 0 env (by omega) h0
  rw [List.drop_zero] at z
  exact z
end

/-! ### more of what is built in -/
section
variable {X : Cx} {a b c e : Expr} {es : List Expr} {pos p : Pos} {ta tb tc te : DT} {tl : DLs} {t : DA0}
def gSum : G1 D := fun as Q => match as with
  | [.lst ds] => ∃ ns : List Int, ds = ns.map D.int ∧ Q (.int ns.sum)
  | _ => False
theorem cbSum {K : PySem.W.Frag} : CbD K (rSum K) gSum := by
  refine ⟨fun as P P' i q => ?_, fun dk H as vs Q I r q => ?_⟩
  · unfold gSum at q ⊢
    split at q
    · obtain ⟨ns, h, q⟩ := q
      exact ⟨ns, h, i _ q⟩
    · exact q.elim
  · unfold gSum at q
    split at q
    · cases r with
      | cons h t =>
        cases t
        obtain ⟨A, rfl, n, xs, rr, l⟩ := h
        obtain ⟨ns, rfl, q⟩ := q
        rw [l.ints_inv] at rr
        exact ⟨A, ns, rfl, .inl rr, q _ H (Ext.refl H) (.int _)⟩
    · exact q.elim
theorem de_sum (hc : X.calm = true) (hg : Gl X "sum") (hm : X.mg "sum" = none) (ha : DA X [e] t) (he : starEach [e] X.env = (false, eval e X.env) :: starEach [] X.env := by rfl) : DE X (.Call (.Name "sum" p) [e] [] pos) (aCall gSum t) :=
  de_cb (cr_sum hc) cbSum hg hm (by decide +kernel) ha (by decide) (by decide) he
/-! lists and tuples in one another: what they are as data -/
/-- no value that is written or compared: what stands for an error -/
def erPy : PyData := .dict [(.none, .int (2 ^ 1921))]
mutual
def D.py : D → PyData
  | .non => .none
  | .bl b => .bool b
  | .int i => .int i
  | .str x => .str x
  | .tup ds => .tuple (D.pys ds)
  | .lst ds => .list (D.pys ds)
  | .dic => .dict []
  | .er0 _ => erPy
  | .er1 _ _ _ => erPy
def D.pys : List D → List PyData
  | [] => []
  | d :: ds => d.py :: D.pys ds
end
mutual
theorem IsD.dp {K : PySem.W.Frag} {H : Hp} : ∀ {d : D} {v : V}, IsD K H d v → d.py.hasDict = false → Dp K H v d.py
  | _, _, .non, _ => .non
  | _, _, .bl b, _ => .bl b
  | _, _, .int i, _ => .int i
  | _, _, .str x, _ => .str x
  | _, _, .tup h t, n => .tup h (IsAll.dp t n)
  | _, _, .lst _ h t, n => .lst (.inl (.inr ⟨_, h⟩)) (IsAll.dp t n)
  | _, _, .dic h, n => absurd n (by decide)
  | _, _, .er0 _ _, n => absurd (show true = false from n) (by decide)
  | _, _, .er1 _ _ _ _ _ _, n => absurd (show true = false from n) (by decide)
theorem IsAll.dp {K : PySem.W.Frag} {H : Hp} : ∀ {ds : List D} {vs : List V}, IsAll K H ds vs → PyData.hasDictAll (D.pys ds) = false → DpAll K H vs (D.pys ds)
  | _, _, .nil, _ => .nil
  | _, _, .cons (d := d) (ds := ds) h t, n => by
    have n' : (d.py.hasDict || PyData.hasDictAll (D.pys ds)) = false := n
    rw [Bool.or_eq_false_iff] at n'
    exact .cons (IsD.dp h n'.1) (IsAll.dp t n'.2)
end
theorem ListAt.dp {K : PySem.W.Frag} {H : Hp} {a : Addr} {ds : List D} (h : ListAt K H a ds) (n : PyData.hasDictAll (D.pys ds) = false) : Dp K H (.ref a) (.list (D.pys ds)) := by
  obtain ⟨xs, r, t⟩ := h
  exact .lst (.inl r) (t.dp n)
theorem nd_of {d : PyData} (h : SeqAt.shaped d = true) : d.hasDict = false := by
  unfold SeqAt.shaped at h
  rw [Bool.and_eq_true] at h
  exact PyData.hasDict_of_canLay d h.1
/-! how deep -/
mutual
def D.dep : D → Nat
  | .tup ds => D.deps ds + 1
  | .lst ds => D.deps ds + 1
  | .dic => 1
  | .er0 _ => 1
  | .er1 _ _ _ => 1
  | _ => 0
def D.deps : List D → Nat
  | [] => 0
  | d :: ds => max d.dep (D.deps ds)
end
/-- equality at any depth -/
def gEqD (neg : Bool) : D → D → (D → Prop) → Prop := fun x y Q => (SeqAt.shaped x.py = true ∧ SeqAt.shaped y.py = true) ∧ Q (.bl (neg ^^ PyData.eqv x.py y.py))
theorem opEqD {K : PySem.W.Frag} : OpD K (rEqD K) (gEqD false) := by
  refine ⟨fun x y P P' i q => ⟨q.1, i _ q.2⟩, fun dk H d e x y Q I rx ry q => ?_⟩
  refine ⟨_, _, rx.dp (nd_of q.1.1), ry.dp (nd_of q.1.2), q.1.1, q.1.2, q.2 _ H (Ext.refl H) ?_⟩
  rw [Bool.false_xor]
  exact .bl _
theorem opNeD {K : PySem.W.Frag} : OpD K (rNeD K) (gEqD true) := by
  refine ⟨fun x y P P' i q => ⟨q.1, i _ q.2⟩, fun dk H d e x y Q I rx ry q => ?_⟩
  refine ⟨_, _, rx.dp (nd_of q.1.1), ry.dp (nd_of q.1.2), q.1.1, q.1.2, q.2 _ H (Ext.refl H) ?_⟩
  rw [Bool.true_xor]
  exact .bl _
theorem de_eqD {k : Nat} (hr : Room k X.A) (ha : DE X a ta) (hb : DE X b tb) : DE X (.Compare a [.Eq] [b] pos) (dOp (gEqD false) ta tb) := de_cmp (op_eqD hr.units) opEqD ha hb (nomark _)
theorem de_neD {k : Nat} (hr : Room k X.A) (ha : DE X a ta) (hb : DE X b tb) : DE X (.Compare a [.NotEq] [b] pos) (dOp (gEqD true) ta tb) := de_cmp (op_neD hr.units) opNeD ha hb (nomark _)
theorem dc_eqD {k : Nat} (hr : Room k X.A) (ha : DE X a ta) (hb : DE X b tb) : DC X (.Compare a [.Eq] [b] pos) (bTest (dOp (gEqD false) ta tb)) := dc_cmp (op_eqD hr.units) opEqD ha hb (nomark _)
theorem dc_neD {k : Nat} (hr : Room k X.A) (ha : DE X a ta) (hb : DE X b tb) : DC X (.Compare a [.NotEq] [b] pos) (bTest (dOp (gEqD true) ta tb)) := dc_cmp (op_neD hr.units) opNeD ha hb (nomark _)
/-- two lists compared -/
def bEqL (neg : Bool) (ta tb : DLs) : DB := fun env Q => ta env fun x => tb env fun y => (SeqAt.shaped (.list (D.pys x)) = true ∧ SeqAt.shaped (.list (D.pys y)) = true) ∧ Q (neg ^^ PyData.eqv (.list (D.pys x)) (.list (D.pys y)))
theorem dc_eqL {tb : DLs} {k : Nat} (hr : Room k X.A) (ha : DR X a tl) (hb : DR X b tb) : DC X (.Compare a [.Eq] [b] pos) (bEqL false tl tb) := by
  refine ⟨fun env P P' i q => ha.mono env _ _ (fun x q => hb.mono env _ _ (fun y q => ⟨q.1, i _ q.2⟩) q) q, PT.imp (pt_cmpR (op_eqD hr.units) ha.pe hb.pe (nomark _)) fun σ H Q ⟨dk, B, pn, env, R, q⟩ => ?_⟩
  refine ⟨dk, B, pn, env, R, ha.mono env _ _ (fun x q a H1 n1 e1 r1 => ?_) q⟩
  refine ⟨dk, B, pn, env, R.to e1, hb.mono env _ _ (fun y q b H2 n2 e2 r2 => ?_) q⟩
  obtain ⟨xs, rr, l⟩ := r1
  refine ⟨_, _, ListAt.dp ⟨xs, e2.rd n1 rr, l.to e2.tup⟩ (nd_of q.1.1), r2.dp (nd_of q.1.2), q.1.1, q.1.2, _, rfl, ?_⟩
  have z := q.2 H2 (e1.trans e2)
  rw [Bool.false_xor] at z
  exact z
theorem dc_neL {tb : DLs} {k : Nat} (hr : Room k X.A) (ha : DR X a tl) (hb : DR X b tb) : DC X (.Compare a [.NotEq] [b] pos) (bEqL true tl tb) := by
  refine ⟨fun env P P' i q => ha.mono env _ _ (fun x q => hb.mono env _ _ (fun y q => ⟨q.1, i _ q.2⟩) q) q, PT.imp (pt_cmpR (op_neD hr.units) ha.pe hb.pe (nomark _)) fun σ H Q ⟨dk, B, pn, env, R, q⟩ => ?_⟩
  refine ⟨dk, B, pn, env, R, ha.mono env _ _ (fun x q a H1 n1 e1 r1 => ?_) q⟩
  refine ⟨dk, B, pn, env, R.to e1, hb.mono env _ _ (fun y q b H2 n2 e2 r2 => ?_) q⟩
  obtain ⟨xs, rr, l⟩ := r1
  refine ⟨_, _, ListAt.dp ⟨xs, e2.rd n1 rr, l.to e2.tup⟩ (nd_of q.1.1), r2.dp (nd_of q.1.2), q.1.1, q.1.2, _, rfl, ?_⟩
  have z := q.2 H2 (e1.trans e2)
  rw [Bool.true_xor] at z
  exact z
/-- x in xs -/
def bInL (neg : Bool) (ta : DT) (tb : DLs) : DB := fun env Q => ta env fun x => tb env fun y => (SeqAt.shaped x.py = true ∧ SeqAt.shaped (.list (D.pys y)) = true) ∧ Q (neg ^^ (D.pys y).any fun z => PyData.eqv z x.py)
theorem dc_inL {tb : DLs} {k : Nat} (hr : Room k X.A) (ha : DE X a ta) (hb : DR X b tb) (hm : behindInMarks .In b = false := by rfl) : DC X (.Compare a [.In] [b] pos) (bInL false ta tb) := by
  refine ⟨fun env P P' i q => ha.mono env _ _ (fun x q => hb.mono env _ _ (fun y q => ⟨q.1, i _ q.2⟩) q) q, PT.imp (pt_cmpR (op_inD (by have := hr.un; omega)) ha.pe hb.pe hm) fun σ H Q ⟨dk, B, pn, env, R, q⟩ => ?_⟩
  refine ⟨dk, B, pn, env, R, ha.mono env _ _ (fun x q v H1 e1 r1 => ?_) q⟩
  refine ⟨dk, B, pn, env, R.to e1, hb.mono env _ _ (fun y q b H2 n2 e2 r2 => ?_) q⟩
  refine ⟨_, _, (IsD.to e2.tup r1).dp (nd_of q.1.1), r2.dp (nd_of q.1.2), q.1.1, q.1.2, _, rfl, ?_⟩
  have z := q.2 H2 (e1.trans e2)
  rw [Bool.false_xor] at z
  exact z
theorem dc_ninL {tb : DLs} {k : Nat} (hr : Room k X.A) (ha : DE X a ta) (hb : DR X b tb) (hm : behindInMarks .NotIn b = false := by rfl) : DC X (.Compare a [.NotIn] [b] pos) (bInL true ta tb) := by
  refine ⟨fun env P P' i q => ha.mono env _ _ (fun x q => hb.mono env _ _ (fun y q => ⟨q.1, i _ q.2⟩) q) q, PT.imp (pt_cmpR (op_notInD (by have := hr.un; omega)) ha.pe hb.pe hm) fun σ H Q ⟨dk, B, pn, env, R, q⟩ => ?_⟩
  refine ⟨dk, B, pn, env, R, ha.mono env _ _ (fun x q v H1 e1 r1 => ?_) q⟩
  refine ⟨dk, B, pn, env, R.to e1, hb.mono env _ _ (fun y q b H2 n2 e2 r2 => ?_) q⟩
  refine ⟨_, _, (IsD.to e2.tup r1).dp (nd_of q.1.1), r2.dp (nd_of q.1.2), q.1.1, q.1.2, _, rfl, ?_⟩
  have z := q.2 H2 (e1.trans e2)
  rw [Bool.true_xor] at z
  exact z
end
end DL

set_option maxRecDepth 100000
namespace DL
open PySem PySem.Spec PyProof.Rows L2

/-! ### defs that are called where no text is being written -/
structure FnG (P : Program) (w : World) (K : PySem.W.Frag) (mg : Str → Option Value) (base : Heap) (k : Nat) (f : Addr) (fd : FuncData) (ps : List Str) (sp : Sp) : Prop where
  many : ∀ vs H Q E, sp vs H Q E → vs.length = ps.length
  goes : ∀ (A : Around) (fr : List Env) (s : Shared) (H : Hp) (ar : PySem.Args) (us : List Value) (vs : List V) (Q : VK) (E : XK), A.guards = some [] → Room k A → Env0 P w K mg base A fr s H → BindsTo s fd ar (ps.zip us) → Vals vs us → sp vs H Q E →
    codeAny (model P w) A (.call (.ref f) ar) (CR CX0 fr P w H s Q E) s
theorem FnG.of {P : Program} {w : World} {K : PySem.W.Frag} {mg : Str → Option Value} {base : Heap} {k : Nat} {f : Addr} {fd : FuncData} {ps : List Str} {sp : Sp} (h : FnOk P w K mg base CX0 k f fd ps sp) : FnG P w K mg base k f fd ps sp :=
  ⟨h.len, fun A fr s H ar us vs Q E _ => h.run A fr s H ar us vs Q E⟩
/-- a def of the text by its body -/
theorem fnG_of {P : Program} {w : World} {K : PySem.W.Frag} {mg : Str → Option Value} {base : Heap} {k : Nat} {f : Addr} {nm qn : Str} {par : Arguments} {bd : List Stmt} {sc : Scope} {dV kV dc pm cv ct oc : Value} {an od : Option Addr} {sl : Array (Option Value)} {N ps : List Str} {sp : Sp}
    (at_ : K.lookup f = some ⟨oc, od, .func (PySem.W.fnOf nm qn par bd sc dV kV dc pm an cv ct), sl⟩) (cod : PySem.W.codeIn K cv qn = true) (S : FnScope N ps sc) (many : ∀ vs H Q E, sp vs H Q E → vs.length = ps.length)
    (read : ∀ (A : Around) (fr : List Env) (s : Shared) (H : Hp) (vs : List V) (Q : VK) (E : XK), A.guards = some [] → Room k (A.deeper (envOfC qn sc s.heap.objs.size f cv)) → sp vs H Q E →
      ∃ t, PSs (cxOf CX0 P w K mg base N qn sc f cv A fr s H E) bd t ∧ t { nx := fun _ H' => Q .non H', rt := Q } (L2.start N vs) H) :
    FnG P w K mg base (k + 1) f (PySem.W.fnOf nm qn par bd sc dV kV dc pm an cv ct) ps sp where
  many := many
  goes := fun A fr s H ar us vs Q E hG room en bi rv w0 => by
    have old : ∀ b o, base.get? b = some o → s.heap.get? b = some o := fun b o e => (en.bs b o e).1
    have KX : K.In s.heap := en.mod.kin.keeps old
    have kinds : ∀ y ∈ ps.zip us, sc.names.lookup y.1 = some .local ∨ (sc.names.lookup y.1 = some .cell ∧ ((cellsFrom (s.heap.objs.size + 1) sc.names []).lookup y.1).isSome = true) := by
      rintro ⟨n, v⟩ hy
      cases S.par n (List.of_mem_zip hy).1 with
      | inl q => exact Or.inl q
      | inr q => exact Or.inr ⟨q, PySem.W.cellsFrom_some _ _ _ (Or.inl q)⟩
    apply codeAny_call_function room.depth (KX _ _ at_) rfl S.co S.gen rfl (PySem.W.codeRec_of KX cod)
    apply bi
    refine wpAny_newFunctionEnv_cells S.kind kinds ?_
    intro env same s1 made
    cases same
    refine And.intro ((en.mod.nolimit.keeps old).keeps made.toInCall.keep) (codeAny_func ?_)
    obtain ⟨t, body, start⟩ := read A fr s H vs Q E hG (room.deeper _) w0
    have first : Inv (cxOf CX0 P w K mg base N qn sc f cv A fr s H E) [] (L2.start N vs) H s1 := inv_start S room.hd en (many _ _ _ _ w0) rv made
    refine wpAny_mono (body.run [] s1 _ H _ first start) ?_ (fun _ _ z => z)
    intro fl s' z
    have done : ∀ {σ' : L2.St} {H' : Hp} {v : V} {u : Value}, Inv (cxOf CX0 P w K mg base N qn sc f cv A fr s H E) [] σ' H' s' → RelV v u → Q v H' → CE fr P w H s Q u s' := by
      intro σ' H' v u J r q
      exact ⟨v, H', J.os, J.bare, J.base, J.hok, r, q⟩
    match fl, z with
    | .ret u, ⟨v, σ', H', J, r, q⟩ => exact done J r q
    | .next, ⟨σ', H', J, q⟩ => exact done (v := .non) (u := .none) J rfl q
    | .brk, ⟨_, _, _, q⟩ => exact q.elim
    | .cont, ⟨_, _, _, q⟩ => exact q.elim
/-- the law, called where nothing else runs -/
theorem call_top {P : Program} {w : World} {K : PySem.W.Frag} {mg mb : Str → Option Value} {k : Nat} {f a : Addr} {fd : FuncData} {x : Str} {sp : Sp} {s : Shared} {us : List Value} {ns : List Int}
    (KX : K.In s.heap) (g1 : s.heap.Ns mainGlobals mg) (g2 : s.heap.Ns builtinsNs mb) (g3 : ∀ x : Str, x ≠ "__name__" → mb x = bootBuiltins x) (lim : s.heap.NoLimit) (gen : s.gens = #[])
    (hobj : s.heap.get? a = some { cls := .type "list", data := .seq us.toArray }) (areI : IntsAre us ns) (len : ns.length ≤ sizeLine) (room : Room k callerA)
    (F : ∀ base : Heap, K.In base → base.Ns mainGlobals mg → FnG P w K mg base k f fd [x] sp) (bi : ∀ (s : Shared) (u : Value), BindsTo s fd ⟨[u], []⟩ [(x, u)])
    (asks : ∀ H : Hp, Only H → SqL K H a (ns.map V.int) → sp [.ref a] H (fun v _ => v = .bl true) fun _ _ _ => False) :
    codeAny (model P w) callerA (.call (.ref f) ⟨[.ref a], []⟩) (fun r s' => r = .ok (.ret (.bool true)) ∧ OldK s.heap s'.heap ∧ s'.os = s.os ∧ AllBare s'.gens) s := by
  have vals := vals_ints areI
  have same := areI.length
  -- H: nothing is tracked but, perhaps, the list at a
  suffices go : ∀ H : Hp, Only H → SqL K H a (ns.map V.int) → HOk P w H s.heap → (∀ b, H b ≠ none → b = a ∧ K.lookup a = none) →
      codeAny (model P w) callerA (.call (.ref f) ⟨[.ref a], []⟩) (fun r s' => r = .ok (.ret (.bool true)) ∧ OldK s.heap s'.heap ∧ s'.os = s.os ∧ AllBare s'.gens) s by
    by_cases hk : K.lookup a = none
    · let H : Hp := fun b => if b = a then some (.frz { cls := .type "list", data := .seq us.toArray } (.lst (ns.map V.int))) else none
      have Ha : H a = some (.frz { cls := .type "list", data := .seq us.toArray } (.lst (ns.map V.int))) := if_pos rfl
      have Hb : ∀ {b}, b ≠ a → H b = none := fun h => if_neg h
      refine go H (fun b => ?_) (.inl (.inr ⟨_, Ha⟩)) (fun b u z => ?_) (fun b z => ⟨Classical.byContradiction fun h => z (Hb h), hk⟩)
      · by_cases h : b = a
        · subst h
          exact .inr ⟨_, _, Ha⟩
        · exact .inl (Hb h)
      · by_cases h : b = a
        · subst h
          rw [Ha] at z
          cases z
          exact ⟨hobj, by rw [List.length_map]; exact len, us, _, vals, hobj⟩
        · rw [Hb h] at z
          cases z
    · obtain ⟨o, ho⟩ := Option.ne_none_iff_exists'.mp hk
      have e := (KX a o ho).symm.trans hobj
      cases e
      exact go (fun _ => none) (fun _ => .inl rfl) (.inr ⟨_, us.toArray, _, ho, rfl, rfl, rfl, by rw [List.size_toArray, same]; exact len, by simpa using vals⟩) (fun _ _ z => nomatch z) (fun _ z => absurd rfl z)
  intro H only sq hok track
  have free : ∀ {b : Addr} {o : Obj}, s.heap.get? b = some o → (b = a → False) → (hidT s.heap H).get? b = some o := fun {b o} e n => hidT_get e (Classical.byContradiction fun z => n (track b z).1)
  have space : ∀ {b : Addr} {m : Str → Option Value}, s.heap.Ns b m → (hidT s.heap H).Ns b m := by
    rintro b m ⟨o, es, ep, e, d, r⟩
    refine ⟨o, es, ep, free e ?_, d, r⟩
    rintro rfl
    rw [hobj] at e
    cases e
    cases d
  have KB : K.In (hidT s.heap H) := by
    intro b o e
    refine hidT_get (KX b o e) (Classical.byContradiction fun z => ?_)
    obtain ⟨rfl, n⟩ := track b z
    rw [n] at e
    cases e
  obtain ⟨mc, l1, l2⟩ := lim
  have en : Env0 P w K mg (hidT s.heap H) callerA [] s H := ⟨rfl, ⟨KB, space g1, ⟨mb, space g2, g3⟩, ⟨mc, space l1, l2⟩⟩, fun b o e => of_hidT e, Nat.le_of_eq (hidT_size _ _), trivial, fun b hb => (List.not_mem_nil hb).elim, hok, .of_eq gen⟩
  have ran := (F _ KB (space g1)).goes callerA [] s H ⟨[.ref a], []⟩ [.ref a] [.ref a] _ _ rfl room en (bi s (.ref a)) (.cons rfl .nil) (asks H only sq)
  refine codeAny_mono ran ?_
  intro r s' z
  match r, z with
  | .error e, z => exact (show False from z).elim
  | .ok (.ret u), ⟨v, H', os, bare, un, hok', rel, q⟩ =>
    cases (show v = .bl true from q)
    cases (show u = .bool true from rel)
    refine ⟨rfl, OldK.of_keep ?_, os, bare⟩
    intro b o e
    rcases only b with z | ⟨ob, xs, z⟩
    · exact un.keep b o e z List.not_mem_nil List.not_mem_nil
    · have h1 := (hok b _ z).1
      have h2 := (hok' b _ (un.frzs b ob _ z)).1
      rw [e] at h1
      cases h1
      exact h2
theorem walkG {l : PySem.W.OpenLaw} {n k : Nat} {q : Program} {loose : List Str} {XP : (Str → Option Value) → Heap → Prop} {YP : World → Heap → Prop} {d : DefRec} {x : Str} (hn : l.most = some n) (hn2 : n ≤ sizeLine) (hdf : d.params.defaults = []) (room : Room k callerA)
    (F : ∀ (w : World) (mg : Str → Option Value) (fa : Addr) (h : Heap), YP w h → h.Ns mainGlobals mg → mg d.name = some (.ref fa) →
      ∃ (K : PySem.W.Frag) (fd : FuncData) (sp : Sp), K.In h ∧ (∀ (s : Shared) (u : Value), BindsTo s fd ⟨[u], []⟩ [(x, u)]) ∧
        (∀ (H : Hp) (a : Addr) (ns : List Int), ns.length ≤ n → Only H → SqL K H a (ns.map V.int) → sp [.ref a] H (fun v _ => v = .bl true) fun _ _ _ => False) ∧
        ∀ base : Heap, K.In base → base.Ns mainGlobals mg → FnG l.prog w K mg base k fa fd [x] sp) : PySem.W.WalkO q loose XP YP l.row.toRowW d [] (fun f vs => PySem.call f vs) := by
  refine Att.attach_call hn hdf ?_
  intro w s₀ s₁ mg mb fa o pm cd doc a vs ns G Y ho hd hcd hmg hobj areI hlen hgen
  obtain ⟨K, fd, sp, KX, bi, asks, ok⟩ := F w mg fa _ Y G.T.g hmg
  exact call_top KX G.T.g G.T.b G.T.builtins G.T.nolimit hgen hobj areI (Nat.le_trans hlen hn2) room ok bi fun H only sq => asks H a ns hlen only sq

/-! ### repr -/
theorem erPy_show : erPy.showable = false := by decide +kernel
section
variable {X : Cx} {pins : List (Addr × Obj)} {σ : L2.St} {H : Hp} {s : Shared}
mutual
theorem IsD.reads (I : Inv X pins σ H s) : ∀ {d : D} {v : V} {u : Value}, IsD X.K H d v → d.py.showable = true → RelV v u → ∃ as, Reads s.heap u d.py as ∧ sysModules ∉ as
  | _, _, _, .non, _, r => by
    obtain rfl := r
    exact ⟨[], Reads.none, List.not_mem_nil⟩
  | _, _, _, .bl b, _, r => by
    obtain rfl := r
    exact ⟨[], Reads.bool b, List.not_mem_nil⟩
  | _, _, _, .int i, _, r => by
    obtain ⟨t, rfl⟩ := r
    exact ⟨[], Reads.int i t, List.not_mem_nil⟩
  | _, _, _, .str x, _, r => by
    obtain ⟨t, rfl⟩ := r
    exact ⟨[], Reads.str x t, List.not_mem_nil⟩
  | _, _, _, .tup h t, sh, r => by
    obtain rfl := r
    obtain ⟨us, rv, ⟨o, e1, e2, m, e3⟩, _⟩ := I.tuple h
    obtain ⟨as, q, n⟩ := IsAll.reads I t sh rv
    exact ⟨as, Reads.tuple e1 e2 e3 q, n⟩
  | _, _, _, .lst na h t, sh, r => by
    obtain rfl := r
    obtain ⟨_, _, us, m, rv, e1⟩ := I.hok _ _ h
    obtain ⟨as, q, n⟩ := IsAll.reads I t sh rv
    refine ⟨_, Reads.list e1 rfl rfl q, fun z => ?_⟩
    rcases List.mem_cons.mp z with z | z
    · exact na z.symm
    · exact n z
  | _, _, _, .dic h, _, r => by
    obtain rfl := r
    obtain ⟨_, _, na, vs, kv, o, es, ep, e1, e2, e3, _, q, _⟩ := I.hok _ _ h
    cases kv
    have es0 : es.toList = [] := by
      generalize es.toList = l at q ⊢
      cases q
      rfl
    refine ⟨_, Reads.dict e1 e2.1 e3 (as := []) (bs := []) ?_ ?_, fun z => ?_⟩
    · rw [es0]; exact ReadsAll.nil
    · rw [es0]; exact ReadsAll.nil
    · rcases List.mem_append.mp z with z | z
      · rcases List.mem_cons.mp z with z | z
        · exact beq_eq_false_iff_ne.mp na z.symm
        · exact absurd z List.not_mem_nil
      · exact absurd z List.not_mem_nil
  | _, _, _, .er0 _ _, sh, _ => absurd sh (by rw [show (D.er0 _).py.showable = erPy.showable from rfl, erPy_show]; decide)
  | _, _, _, .er1 _ _ _ _ _ _, sh, _ => absurd sh (by rw [show (D.er1 _ _ _).py.showable = erPy.showable from rfl, erPy_show]; decide)
theorem IsAll.reads (I : Inv X pins σ H s) : ∀ {ds : List D} {vs : List V} {us : List Value}, IsAll X.K H ds vs → PyData.showableAll (D.pys ds) = true → Vals vs us → ∃ as, ReadsAll s.heap us (D.pys ds) as ∧ sysModules ∉ as
  | _, _, _, .nil, _, r => by
    cases r
    exact ⟨[], ReadsAll.nil, List.not_mem_nil⟩
  | _, _, _, .cons (d := d) (ds := ds) h t, sh, r => by
    obtain ⟨sh1, sh2⟩ := Bool.and_eq_true_iff.mp (show (d.py.showable && PyData.showableAll (D.pys ds)) = true from sh)
    cases r with
    | cons r1 r2 =>
      obtain ⟨as, q1, n1⟩ := IsD.reads I h sh1 r1
      obtain ⟨bs, q2, n2⟩ := IsAll.reads I t sh2 r2
      exact ⟨as ++ bs, ReadsAll.cons q1 q2, fun z => (List.mem_append.mp z).elim n1 n2⟩
end
end
/-- what may be written -/
def Shows (d : PyData) : Prop := d.showable = true ∧ d.depth ≤ 60 ∧ d.shown.length ≤ sizeLine
section
variable {X : Cx} {a b c e : Expr} {es : List Expr} {pos p : Pos} {ta tb tc te : DT} {tl : DLs} {t : DA0}
def rRepr (K : PySem.W.Frag) : List V → Hp → VK → Prop := fun xs H Q => ∃ x d, xs = [x] ∧ ((Dp K H x d ∧ d.hasDict = false) ∨ ∃ dd : D, d = dd.py ∧ IsD K H dd x) ∧ Shows d ∧ Q (.str d.shown) H
theorem call_repr (hg : X.A.guards = some []) {k : Nat} (hr : Room k X.A) : CallR X (.builtin "repr") (rRepr X.K) := by
  intro pins s σ H xs us Q I r h
  obtain ⟨x, d, rfl, hd, ⟨h1, h3, h4⟩, q⟩ := h
  obtain ⟨u, rfl, rx⟩ := Vals.one r
  have un := hr.un
  have rd : ∃ as, Reads s.heap u d as ∧ (d.hasDict = true → sysModules ∉ as) := by
    rcases hd with ⟨hd, n⟩ | ⟨dd, rfl, hd⟩
    · obtain ⟨as, q⟩ := Dp.reads I d x u hd rx
      exact ⟨as, q, fun z => absurd (n.symm.trans z) Bool.false_ne_true⟩
    · obtain ⟨as, q, n⟩ := IsD.reads I hd h1 rx
      exact ⟨as, q, fun _ => n⟩
  clear hd
  obtain ⟨as, rd, nm⟩ := rd
  cases rd with
  | none => exact PySem.P.repr_of_none ⟨.str _, H, I.tok _, ⟨_, rfl⟩, q⟩
  | bool b =>
    refine PySem.P.repr_of_bool ⟨.str _, H, I.tok _, ⟨_, rfl⟩, ?_⟩
    cases b <;> exact q
  | int i t => exact PySem.P.repr_of_int (of_decide_eq_true h1) ⟨.str _, H, I.tok _, ⟨_, rfl⟩, q⟩
  | str z t => exact PySem.P.repr_of_str ⟨.str _, H, I.tok _, ⟨_, rfl⟩, q⟩ h4
  | list e1 e2 e3 e4 =>
    exact repr_of_reads' (Reads.list e1 e2 e3 e4) h1 nm hg (by omega) (fun _ _ e => e) (fun h' u tk hk => ⟨.str _, H, I.kept (t' := tk) hk, ⟨_, rfl⟩, q⟩) h4
  | tuple e1 e2 e3 e4 =>
    exact repr_of_reads' (Reads.tuple e1 e2 e3 e4) h1 nm hg (by omega) (fun _ _ e => e) (fun h' u tk hk => ⟨.str _, H, I.kept (t' := tk) hk, ⟨_, rfl⟩, q⟩) h4
  | dict e1 e2 e3 e4 e5 =>
    exact repr_of_reads' (Reads.dict e1 e2 e3 e4 e5) h1 nm hg (by omega) (fun _ _ e => e) (fun h' u tk hk => ⟨.str _, H, I.kept (t' := tk) hk, ⟨_, rfl⟩, q⟩) h4
def arPy : Ar → PyData
  | .val d => d.py
  | .lst ds => .list (D.pys ds)
  | .deck => .none
def gRepr : G1 D := fun as Q => match as with
  | [.val d] => Shows d.py ∧ Q (.str d.py.shown)
  | [.lst ds] => (PyData.hasDictAll (D.pys ds) = false ∧ Shows (.list (D.pys ds))) ∧ Q (.str (PyData.list (D.pys ds)).shown)
  | _ => False
theorem cbRepr {K : PySem.W.Frag} : CbD K (rRepr K) gRepr := by
  refine ⟨fun as P P' i q => ?_, fun dk H as vs Q I r q => ?_⟩
  · unfold gRepr at q ⊢
    split at q
    · exact ⟨q.1, i _ q.2⟩
    · exact ⟨q.1, i _ q.2⟩
    · exact q.elim
  · unfold gRepr at q
    split at q
    · cases r with
      | cons h t =>
        cases t
        exact ⟨_, _, rfl, .inr ⟨_, rfl, h⟩, q.1, q.2 _ H (Ext.refl H) (.str _)⟩
    · cases r with
      | cons h t =>
        cases t
        obtain ⟨A, rfl, n, l⟩ := h
        exact ⟨_, _, rfl, .inl ⟨ListAt.dp l q.1.1, q.1.1⟩, q.1.2, q.2 _ H (Ext.refl H) (.str _)⟩
    · exact q.elim
theorem de_repr (hG : X.A.guards = some []) {k : Nat} (hr : Room k X.A) (hg : Gl X "repr") (hm : X.mg "repr" = none) (ha : DA X [e] t) (he : starEach [e] X.env = (false, eval e X.env) :: starEach [] X.env := by rfl) : DE X (.Call (.Name "repr" p) [e] [] pos) (aCall gRepr t) :=
  de_cb (call_repr hG hr) cbRepr hg hm (by decide +kernel) ha (by decide) (by decide) he
end
end DL

set_option maxRecDepth 100000
namespace DL
open PySem PySem.Spec PyProof.Rows L2

/-! ### data without texts, of small whole numbers -/
mutual
def D.fine : D → Bool
  | .non => true
  | .bl _ => true
  | .int i => decide (i.natAbs < 2 ^ 64)
  | .str _ => false
  | .tup ds => D.fines ds
  | .lst ds => D.fines ds
  | .dic => false
  | .er0 _ => false
  | .er1 _ _ _ => false
def D.fines : List D → Bool
  | [] => true
  | d :: ds => d.fine && D.fines ds
end
theorem fine_log {i : Int} (h : i.natAbs < 2 ^ 64) : i.natAbs.log2 < 1920 := by
  by_cases h0 : i.natAbs = 0
  · rw [h0]
    decide
  · have z : i.natAbs.log2 < 64 := (Nat.log2_lt h0).mpr h
    omega
mutual
theorem D.fine_py : ∀ {d : D}, d.fine = true → d.py.canLay0 = true ∧ d.py.hasDict = false ∧ d.py.showable = true
  | .non, _ => ⟨rfl, rfl, rfl⟩
  | .bl _, _ => ⟨rfl, rfl, rfl⟩
  | .int i, h => ⟨rfl, rfl, decide_eq_true (fine_log (of_decide_eq_true h))⟩
  | .tup ds, h => by
    obtain ⟨a, b, c⟩ := D.fines_py (ds := ds) h
    exact ⟨a, b, c⟩
  | .lst ds, h => by
    obtain ⟨a, b, c⟩ := D.fines_py (ds := ds) h
    exact ⟨a, b, c⟩
theorem D.fines_py : ∀ {ds : List D}, D.fines ds = true → PyData.canLayAll0 (D.pys ds) = true ∧ PyData.hasDictAll (D.pys ds) = false ∧ PyData.showableAll (D.pys ds) = true
  | [], _ => ⟨rfl, rfl, rfl⟩
  | d :: ds, h => by
    have h' : (d.fine && D.fines ds) = true := h
    obtain ⟨h1, h2⟩ := Bool.and_eq_true_iff.mp h'
    obtain ⟨a, b, c⟩ := D.fine_py h1
    obtain ⟨a', b', c'⟩ := D.fines_py h2
    refine ⟨?_, ?_, ?_⟩
    · show (d.py.canLay0 && PyData.canLayAll0 (D.pys ds)) = true
      rw [a, a']
      rfl
    · show (d.py.hasDict || PyData.hasDictAll (D.pys ds)) = false
      rw [b, b']
      rfl
    · show (d.py.showable && PyData.showableAll (D.pys ds)) = true
      rw [c, c']
      rfl
end
mutual
theorem D.dep_py : ∀ {d : D}, d.py.depth = d.dep
  | .non => rfl
  | .bl _ => rfl
  | .int _ => rfl
  | .str _ => rfl
  | .tup ds => congrArg (· + 1) (D.deps_py (ds := ds))
  | .lst ds => congrArg (· + 1) (D.deps_py (ds := ds))
  | .dic => rfl
  | .er0 _ => rfl
  | .er1 _ _ _ => rfl
theorem D.deps_py : ∀ {ds : List D}, PyData.depthAll (D.pys ds) = D.deps ds
  | [] => rfl
  | d :: ds => by
    show max d.py.depth (PyData.depthAll (D.pys ds)) = max d.dep (D.deps ds)
    rw [D.dep_py, D.deps_py]
end
theorem D.shaped {d : D} (h : d.fine = true) (hd : d.dep ≤ 60) : SeqAt.shaped d.py = true := by
  unfold SeqAt.shaped
  rw [(D.fine_py h).1, D.dep_py]
  exact decide_eq_true (by omega)
theorem D.shapedL {ds : List D} (h : D.fines ds = true) (hd : D.deps ds ≤ 60) : SeqAt.shaped (.list (D.pys ds)) = true := by
  have e : PyData.depth (.list (D.pys ds)) = D.deps ds + 1 := congrArg (· + 1) D.deps_py
  unfold SeqAt.shaped
  rw [e]
  show (PyData.canLayAll0 (D.pys ds) && _) = true
  rw [(D.fines_py h).1]
  exact decide_eq_true (by omega)
/-! equal as data just if equal -/
mutual
theorem eqv_self : ∀ {d : D}, d.py.hasDict = false → PyData.eqv d.py d.py = true
  | .non, _ => rfl
  | .bl _, _ => by simp [D.py, PyData.eqv]
  | .int _, _ => by simp [D.py, PyData.eqv]
  | .str _, _ => by simp [D.py, PyData.eqv]
  | .tup ds, h => eqvs_self (ds := ds) h
  | .lst ds, h => eqvs_self (ds := ds) h
  | .dic, h => by cases (show true = false from h)
  | .er0 _, h => by cases (show true = false from h)
  | .er1 _ _ _, h => by cases (show true = false from h)
theorem eqvs_self : ∀ {ds : List D}, PyData.hasDictAll (D.pys ds) = false → PyData.eqvAll (D.pys ds) (D.pys ds) = true
  | [], _ => rfl
  | d :: ds, h => by
    have h' : (d.py.hasDict || PyData.hasDictAll (D.pys ds)) = false := h
    rw [Bool.or_eq_false_iff] at h'
    show (PyData.eqv d.py d.py && PyData.eqvAll (D.pys ds) (D.pys ds)) = true
    rw [eqv_self h'.1, eqvs_self h'.2]
    rfl
end
theorem nd_ints : ∀ l : List Int, PyData.hasDictAll (D.pys (l.map D.int)) = false
  | [] => rfl
  | x :: l => nd_ints l
/-! without truth values and texts -/
mutual
def D.num : D → Bool
  | .int _ => true
  | .tup ds => D.nums ds
  | _ => false
def D.nums : List D → Bool
  | [] => true
  | d :: ds => d.num && D.nums ds
end
mutual
theorem eqv_eq : ∀ {d e : D}, d.num = true → e.num = true → PyData.eqv d.py e.py = true → d = e
  | .int i, .int j, _, _, h => by
    have h' : (i == j) = true := h
    rw [beq_iff_eq.mp h']
  | .int _, .tup _, _, _, h => by cases (show (false : Bool) = true from h)
  | .tup _, .int _, _, _, h => by cases (show (false : Bool) = true from h)
  | .tup ds, .tup es, h1, h2, h => by rw [eqvs_eq (ds := ds) (es := es) h1 h2 h]
theorem eqvs_eq : ∀ {ds es : List D}, D.nums ds = true → D.nums es = true → PyData.eqvAll (D.pys ds) (D.pys es) = true → ds = es
  | [], [], _, _, _ => rfl
  | [], _ :: _, _, _, h => by cases (show (false : Bool) = true from h)
  | _ :: _, [], _, _, h => by cases (show (false : Bool) = true from h)
  | d :: ds, e :: es, h1, h2, h => by
    obtain ⟨a, b⟩ := Bool.and_eq_true_iff.mp (show (d.num && D.nums ds) = true from h1)
    obtain ⟨a', b'⟩ := Bool.and_eq_true_iff.mp (show (e.num && D.nums es) = true from h2)
    obtain ⟨x, y⟩ := Bool.and_eq_true_iff.mp (show (PyData.eqv d.py e.py && PyData.eqvAll (D.pys ds) (D.pys es)) = true from h)
    rw [eqv_eq a a' x, eqvs_eq b b' y]
end

/-! ### the deck, changed -/
theorem DkAt.put {k : Dk} {H : Hp} {ns ms : List Int} {c : Int} {p : Addr} {o : HO} (z : DkAt k H ns ms c) (h : ¬ inDk (some k) p) : DkAt k (upd H p o) ns ms c := by
  have a : k.d ≠ p := fun e => h (.inl e.symm)
  have b : k.d0 ≠ p := fun e => h (.inr (.inl e.symm))
  have e : k.d1 ≠ p := fun e => h (.inr (.inr e.symm))
  exact ⟨z.n1, z.n2, z.n3, by rw [upd_ne a]; exact z.h, by rw [upd_ne b]; exact z.h0, by rw [upd_ne e]; exact z.h1, z.p0, z.p1, z.l0, z.l1, z.ne, z.pc⟩
theorem DkAt.new {k : Dk} {H : Hp} {ns ms : List Int} {c : Int} {p : Addr} {o : HO} (z : DkAt k H ns ms c) (h : H p = none) : DkAt k (upd H p o) ns ms c := z.put (notDk_none (dk := some k) ⟨_, _, _, z⟩ h)
theorem DkAt.set0 {k : Dk} {H : Hp} {ns ms : List Int} {c : Int} (z : DkAt k H ns ms c) (ns' : List Int) (h : ∀ n ∈ ns', 0 ≤ n) (hl : ns'.length ≤ 64) : DkAt k (upd H k.d0 (.lst (ns'.map V.int))) ns' ms c :=
  ⟨z.n1, z.n2, z.n3, by rw [upd_ne z.n1]; exact z.h, upd_same, by rw [upd_ne z.n3.symm]; exact z.h1, h, z.p1, hl, z.l1, z.ne, z.pc⟩
theorem DkAt.setc {k : Dk} {H : Hp} {ns ms : List Int} {c : Int} (z : DkAt k H ns ms c) (c' : Int) (h : 0 ≤ c') : DkAt k (upd H k.d (.lst [.ref k.d0, .ref k.d1, .int c'])) ns ms c' :=
  ⟨z.n1, z.n2, z.n3, upd_same, by rw [upd_ne z.n1.symm]; exact z.h0, by rw [upd_ne z.n2.symm]; exact z.h1, z.p0, z.p1, z.l0, z.l1, z.ne, h⟩
theorem Ext.cell {k : Dk} {H : Hp} {b : Addr} {o : HO} {xs : List V} (hb : inDk (some k) b) (hl : H b = some (.lst xs)) (inv : DkInv (some k) (upd H b o)) : Ext (some k) H (upd H b o) := by
  refine ⟨fun a u e n => ?_, Tups.mut hl, fun _ => inv⟩
  have : a ≠ b := fun z => n (by rw [z]; exact hb)
  rw [upd_ne this]
  exact e
end DL

set_option maxRecDepth 100000
namespace DL
open PySem PySem.Spec PyProof.Rows L2

/-! ### isinstance -/
def D.ty : D → String
  | .non => "NoneType"
  | .bl _ => "bool"
  | .int _ => "int"
  | .str _ => "str"
  | .tup _ => "tuple"
  | .lst _ => "list"
  | .dic => "dict"
  | .er0 _ => "NoneType"
  | .er1 _ _ _ => "NoneType"
def D.isEr : D → Bool
  | .er0 _ => true
  | .er1 _ _ _ => true
  | _ => false
def isInt : D → Bool
  | .int _ => true
  | .bl _ => true
  | _ => false
def isBool : D → Bool
  | .bl _ => true
  | _ => false
def isTup : D → Bool
  | .tup _ => true
  | _ => false
theorem kit_int : ∀ d : D, kitB d.ty "int" = some (isInt d)
  | .non => by decide +kernel
  | .bl _ => by
    show kitB "bool" "int" = some true
    decide +kernel
  | .int _ => by
    show kitB "int" "int" = some true
    decide +kernel
  | .str _ => by
    show kitB "str" "int" = some false
    decide +kernel
  | .tup _ => by
    show kitB "tuple" "int" = some false
    decide +kernel
  | .lst _ => by
    show kitB "list" "int" = some false
    decide +kernel
  | .dic => by decide +kernel
  | .er0 _ => by
    show kitB "NoneType" "int" = some false
    decide +kernel
  | .er1 _ _ _ => by
    show kitB "NoneType" "int" = some false
    decide +kernel
theorem kit_bool : ∀ d : D, kitB d.ty "bool" = some (isBool d)
  | .non => by decide +kernel
  | .bl _ => by
    show kitB "bool" "bool" = some true
    decide +kernel
  | .int _ => by
    show kitB "int" "bool" = some false
    decide +kernel
  | .str _ => by
    show kitB "str" "bool" = some false
    decide +kernel
  | .tup _ => by
    show kitB "tuple" "bool" = some false
    decide +kernel
  | .lst _ => by
    show kitB "list" "bool" = some false
    decide +kernel
  | .dic => by decide +kernel
  | .er0 _ => by
    show kitB "NoneType" "bool" = some false
    decide +kernel
  | .er1 _ _ _ => by
    show kitB "NoneType" "bool" = some false
    decide +kernel
theorem kit_tup : ∀ d : D, kitB d.ty "tuple" = some (isTup d)
  | .non => by decide +kernel
  | .bl _ => by
    show kitB "bool" "tuple" = some false
    decide +kernel
  | .int _ => by
    show kitB "int" "tuple" = some false
    decide +kernel
  | .str _ => by
    show kitB "str" "tuple" = some false
    decide +kernel
  | .tup _ => by
    show kitB "tuple" "tuple" = some true
    decide +kernel
  | .lst _ => by
    show kitB "list" "tuple" = some false
    decide +kernel
  | .dic => by decide +kernel
  | .er0 _ => by
    show kitB "NoneType" "tuple" = some false
    decide +kernel
  | .er1 _ _ _ => by
    show kitB "NoneType" "tuple" = some false
    decide +kernel
theorem IsD.tyx {K : PySem.W.Frag} {H : Hp} {d : D} {v : V} (h : IsD K H d v) (ne : d.isEr = false) : TyX K H v (.type d.ty) := by
  cases h with
  | non => exact .base .non
  | bl b => exact .base (.bl b)
  | int i => exact .base (.int i)
  | str x => exact .base (.str x)
  | tup s t =>
    rcases s with (s | ⟨o, s⟩) | ⟨o, its, n, hk, hc, _⟩
    · exact .base (.tup s)
    · exact .fTuple s
    · exact .kTuple hk hc
  | lst _ s t => exact .base (.frz s)
  | dic s => exact .fDict s
  | er0 _ _ => cases ne
  | er1 _ _ _ _ _ _ => cases ne
/-- an error's class, what it may ask -/
theorem IsD.erAt {K : PySem.W.Frag} {H : Hp} {d : D} {v : V} (h : IsD K H d v) (ne : d.isEr = true) : ∃ x a fs, v = .ref a ∧ Er.ErAt H a (He.ga K x) fs ∧ ErC K x ∧ (d = .er0 x ∨ ∃ f d', d = .er1 x f d') := by
  cases h with
  | er0 c h => exact ⟨_, _, [], rfl, .inl ⟨h, rfl⟩, c, .inl rfl⟩
  | er1 c g n h k r => exact ⟨_, _, _, rfl, .inr ⟨_, h, k⟩, c, .inr ⟨_, _, rfl⟩⟩
  | _ => cases ne
def rIsi2 (K : PySem.W.Frag) : List V → Hp → VK → Prop := fun xs H Q => rIsi K xs H Q ∨ Er.rIsEr K xs H Q
theorem call_isi2 {X : Cx} : CallR X (.builtin "isinstance") (rIsi2 X.K) := by
  intro pins s σ H xs us Q I r h
  rcases h with h | h
  · exact call_isi pins s σ H xs us Q I r h
  · exact Er.call_isEr pins s σ H xs us Q I r h
section
variable {X : Cx} {a b c e : Expr} {es : List Expr} {pos p p2 : Pos} {ta tb tc te : DT} {tl : DLs} {t u : DB}
def dIsi (f : D → Bool) (ta : DT) : DT := fun env Q => ta env fun d => Q (.bl (f d))
theorem de_isi {n : String} {x : Str} {f : D → Bool} (hin : n ∈ ["int", "bool", "tuple", "list", "str", "dict"]) (f0 : ∀ y, f (.er0 y) = false) (f1 : ∀ y z d, f (.er1 y z d) = false) (kt : ∀ d : D, kitB d.ty n = some (f d)) (hv : bootBuiltins x = some (.type n)) (hn : x ≠ "__name__") (hdb : (x == ("__debug__" : Str)) = false) (hg : Gl X "isinstance") (hm : X.mg "isinstance" = none) (hgn : Gl X x) (hmn : X.mg x = none) (ha : DE X a ta)
    (hs : starEach [a, .Name x p2] X.env = (false, eval a X.env) :: starEach [.Name x p2] X.env := by rfl) (hs2 : starEach [.Name x p2] X.env = (false, eval (.Name x p2) X.env) :: starEach [] X.env := by rfl) (hpl : (backTo pos (starEach [.Name x p2] X.env)).any (·.1) = false := by rfl) :
    DE X (.Call (.Name "isinstance" p) [a, .Name x p2] [] pos) (dIsi f ta) := by
  refine ⟨fun env P P' i q => ha.mono env _ _ (fun d q => i _ q) q, PE.imp (pe_callB call_isi2 hg hm boot_isinstance (pa_cons ha.pe (pa_cons (pe_bltn (v := .ty n) hgn hmn hv rfl hn hdb) pa_nil hs2) hs) (by decide) (by decide) hs hpl) fun σ H Q ⟨dk, B, pn, env, R, q⟩ => ?_⟩
  refine ⟨dk, B, pn, env, R, ha.mono env _ _ (fun d q v H1 e1 r1 => ?_) q⟩
  cases ne : d.isEr with
  | false => exact .inl ⟨v, .ty n, _, .type n, f d, rfl, .ty n, r1.tyx ne, kit_ty (kt d), q _ H1 e1 (.bl _)⟩
  | true =>
    obtain ⟨y, a, fs, rfl, at_, c, hd⟩ := r1.erAt ne
    have e : f d = false := by
      rcases hd with rfl | ⟨g, d', rfl⟩
      · exact f0 _
      · exact f1 _ _ _
    rw [e] at q
    exact .inr ⟨a, _, fs, .ty n, .type n, false, rfl, at_, c.ex, .ty n, c.no n hin, q _ H1 e1 (.bl _)⟩
theorem de_isInt (hg : Gl X "isinstance") (hm : X.mg "isinstance" = none) (hgn : Gl X "int") (hmn : X.mg "int" = none) (ha : DE X a ta)
    (hs : starEach [a, .Name "int" p2] X.env = (false, eval a X.env) :: starEach [.Name "int" p2] X.env := by rfl) : DE X (.Call (.Name "isinstance" p) [a, .Name "int" p2] [] pos) (dIsi isInt ta) :=
  de_isi (by decide) (fun _ => rfl) (fun _ _ _ => rfl) kit_int (by decide +kernel) (by decide) (by decide) hg hm hgn hmn ha hs
theorem de_isBool (hg : Gl X "isinstance") (hm : X.mg "isinstance" = none) (hgn : Gl X "bool") (hmn : X.mg "bool" = none) (ha : DE X a ta)
    (hs : starEach [a, .Name "bool" p2] X.env = (false, eval a X.env) :: starEach [.Name "bool" p2] X.env := by rfl) : DE X (.Call (.Name "isinstance" p) [a, .Name "bool" p2] [] pos) (dIsi isBool ta) :=
  de_isi (by decide) (fun _ => rfl) (fun _ _ _ => rfl) kit_bool (by decide +kernel) (by decide) (by decide) hg hm hgn hmn ha hs
theorem de_isTup (hg : Gl X "isinstance") (hm : X.mg "isinstance" = none) (hgn : Gl X "tuple") (hmn : X.mg "tuple" = none) (ha : DE X a ta)
    (hs : starEach [a, .Name "tuple" p2] X.env = (false, eval a X.env) :: starEach [.Name "tuple" p2] X.env := by rfl) : DE X (.Call (.Name "isinstance" p) [a, .Name "tuple" p2] [] pos) (dIsi isTup ta) :=
  de_isi (by decide) (fun _ => rfl) (fun _ _ _ => rfl) kit_tup (by decide +kernel) (by decide) (by decide) hg hm hgn hmn ha hs

/-! ### and, or, not as values -/
def dAnd (ta tb : DT) : DT := fun env Q => ta env fun d => match d with
  | .bl true => tb env Q
  | .bl false => Q (.bl false)
  | _ => False
def dOr (ta tb : DT) : DT := fun env Q => ta env fun d => match d with
  | .bl true => Q (.bl true)
  | .bl false => tb env Q
  | _ => False
def dNot (ta : DT) : DT := fun env Q => ta env fun d => match d with
  | .bl x => Q (.bl (!x))
  | _ => False
structure DV (X : Cx) (e : Expr) (t : DT) : Prop where
  de : DE X e t
theorem dv_and1 (h : DE X a ta) : DE X (.BoolOp .And [a] pos) ta := ⟨h.mono, pe_one h.pe⟩
theorem dv_or1 (h : DE X a ta) : DE X (.BoolOp .Or [a] pos) ta := ⟨h.mono, pe_one h.pe⟩
theorem dv_and {rest : List Expr} (ha : DE X a ta) (hb : DE X (.BoolOp .And (b :: rest) pos) tb) : DE X (.BoolOp .And (a :: b :: rest) pos) (dAnd ta tb) := by
  refine ⟨fun env P P' i q => ha.mono env _ _ (fun d q => ?_) q, PE.imp (pe_and ha.pe hb.pe) fun σ H Q ⟨dk, B, pn, env, R, q⟩ => ?_⟩
  · split at q
    · exact hb.mono env P P' i q
    · exact i _ q
    · exact q.elim
  · refine ⟨dk, B, pn, env, R, ha.mono env _ _ (fun d q v H1 e1 r1 => ?_) q⟩
    split at q
    · cases r1
      exact ⟨true, rfl, iteT ⟨dk, B, pn, env, R.to e1, hb.mono env _ _ (fun y k v H2 e2 r => k v H2 (e1.trans e2) r) q⟩⟩
    · cases r1
      exact ⟨false, rfl, iteF (q _ H1 e1 (.bl _))⟩
    · exact q.elim
theorem dv_or {rest : List Expr} (ha : DE X a ta) (hb : DE X (.BoolOp .Or (b :: rest) pos) tb) : DE X (.BoolOp .Or (a :: b :: rest) pos) (dOr ta tb) := by
  refine ⟨fun env P P' i q => ha.mono env _ _ (fun d q => ?_) q, PE.imp (pe_or ha.pe hb.pe) fun σ H Q ⟨dk, B, pn, env, R, q⟩ => ?_⟩
  · split at q
    · exact i _ q
    · exact hb.mono env P P' i q
    · exact q.elim
  · refine ⟨dk, B, pn, env, R, ha.mono env _ _ (fun d q v H1 e1 r1 => ?_) q⟩
    split at q
    · cases r1
      exact ⟨true, rfl, iteT (q _ H1 e1 (.bl _))⟩
    · cases r1
      exact ⟨false, rfl, iteF ⟨dk, B, pn, env, R.to e1, hb.mono env _ _ (fun y k v H2 e2 r => k v H2 (e1.trans e2) r) q⟩⟩
    · exact q.elim
theorem dv_not (ha : DE X a ta) : DE X (.UnaryOp .Not a pos) (dNot ta) := by
  refine ⟨fun env P P' i q => ha.mono env _ _ (fun d q => ?_) q, PE.imp (pe_not ha.pe) fun σ H Q ⟨dk, B, pn, env, R, q⟩ => ?_⟩
  · split at q
    · exact i _ q
    · exact q.elim
  · refine ⟨dk, B, pn, env, R, ha.mono env _ _ (fun d q v H1 e1 r1 => ?_) q⟩
    split at q
    · cases r1
      exact ⟨_, rfl, q _ H1 e1 (.bl _)⟩
    · exact q.elim

/-! ### a <= b <= c -/
def dChain (ta tb tc : DT) : DT := fun env Q => ta env fun x => tb env fun y => match x, y with
  | .int i, .int j => if i ≤ j then (tc env fun z => match z with
    | .int k => Q (.bl (decide (j ≤ k)))
    | _ => False) else Q (.bl false)
  | _, _ => False
theorem dChain_mono (ha : Mono ta) (hb : Mono tb) (hc : Mono tc) : Mono (dChain ta tb tc) := fun env P P' i q => ha env _ _ (fun x q => hb env _ _ (fun y q => by
  split at q
  · split at q
    · rename_i h
      rw [if_pos h]
      refine hc env _ _ (fun z q => ?_) q
      cases z <;> first | exact q.elim | exact i _ q
    · rename_i h
      rw [if_neg h]
      exact i _ q
  · exact q.elim) q) q
theorem tChain_of {K : PySem.W.Frag} (ha : Mono ta) (hb : Mono tb) (hc : Mono tc) (σ : L2.St) (H : Hp) (Q : VK) (h : tD K (dChain ta tb tc) σ H Q) : tChain (rI0 fun i j => .bl (decide (i ≤ j))) (rI0 fun i j => .bl (decide (i ≤ j))) (tD K ta) (tD K tb) (tD K tc) σ H Q := by
  obtain ⟨dk, B, pn, env, R, q⟩ := h
  refine ⟨dk, B, pn, env, R, ha env _ _ (fun x q v H1 e1 r1 => ?_) q⟩
  refine ⟨dk, B, pn, env, R.to e1, hb env _ _ (fun y q u H2 e2 r2 => ?_) q⟩
  obtain ⟨i, j, rfl, rfl⟩ : ∃ i j, x = .int i ∧ y = .int j := by
    cases x <;> cases y <;> first | exact q.elim | exact ⟨_, _, rfl, rfl⟩
  cases r1
  cases r2
  refine ⟨i, j, rfl, rfl, _, rfl, ?_⟩
  dsimp only at q
  by_cases hij : i ≤ j
  · rw [if_pos hij] at q
    rw [if_pos (decide_eq_true hij)]
    refine ⟨dk, B, pn, env, (R.to e1).to e2, hc env _ _ (fun z q w H3 e3 r3 => ?_) q⟩
    cases z <;> first | exact q.elim | skip
    cases r3
    exact ⟨_, _, rfl, rfl, q _ H3 ((e1.trans e2).trans e3) (.bl _)⟩
  · rw [if_neg hij] at q
    rw [if_neg (by simpa using hij)]
    exact q _ H2 (e1.trans e2) (.bl _)
theorem de_chain (ha : DE X a ta) (hb : DE X b tb) (hc : DE X c tc) (hm : lastMarks [.LtE, .LtE] [b, c] = false := by with_unfolding_all rfl) : DE X (.Compare a [.LtE, .LtE] [b, c] pos) (dChain ta tb tc) :=
  ⟨dChain_mono ha.mono hb.mono hc.mono, PE.imp (pe_chain op_le op_le ha.pe hb.pe hc.pe hm) (tChain_of ha.mono hb.mono hc.mono)⟩
theorem dc_chain (ha : DE X a ta) (hb : DE X b tb) (hc : DE X c tc) (hm : lastMarks [.LtE, .LtE] [b, c] = false := by with_unfolding_all rfl) : DC X (.Compare a [.LtE, .LtE] [b, c] pos) (bTest (dChain ta tb tc)) := by
  refine ⟨bTest_mono (dChain_mono ha.mono hb.mono hc.mono), PT.imp (pt_chain op_le op_le ha.pe hb.pe hc.pe hm) fun σ H Q ⟨dk, B, pn, env, R, q⟩ => ?_⟩
  refine tChain_of ha.mono hb.mono hc.mono σ H _ ⟨dk, B, pn, env, R, dChain_mono ha.mono hb.mono hc.mono env _ _ (fun d q v H' e r => ?_) q⟩
  cases d <;> first | exact q.elim | skip
  cases r
  exact ⟨_, rfl, q H' e⟩
end
end DL
namespace DL
open PySem PySem.Spec PyProof.Rows L2
section
variable {X : Cx} {a b c e : Expr} {es : List Expr} {pos p p2 : Pos} {ta tb tc te : DT} {tl : DLs} {t : DA0}
/-! ### all([..]) -/
def gAll : G1 D := fun as Q => match as with
  | [.lst ds] => ∃ bs : List Bool, ds = bs.map D.bl ∧ Q (.bl (bs.all id))
  | _ => False
theorem IsAll.bls_inv {K : PySem.W.Frag} {H : Hp} : ∀ {ns : List Bool} {vs : List V}, IsAll K H (ns.map D.bl) vs → vs = ns.map V.bl
  | [], _, t => by cases t; rfl
  | n :: ns, _, t => by
    cases t with
    | cons h t =>
      cases h
      rw [t.bls_inv]
      rfl
theorem cbAll {K : PySem.W.Frag} : CbD K (rAll K) gAll := by
  refine ⟨fun as P P' i q => ?_, fun dk H as vs Q I r q => ?_⟩
  · unfold gAll at q ⊢
    split at q
    · obtain ⟨ns, h, q⟩ := q
      exact ⟨ns, h, i _ q⟩
    · exact q.elim
  · unfold gAll at q
    split at q
    · cases r with
      | cons h t =>
        cases t
        obtain ⟨A, rfl, n, xs, rr, l⟩ := h
        obtain ⟨ns, rfl, q⟩ := q
        rw [l.bls_inv] at rr
        exact ⟨A, ns, rfl, .inl rr, q _ H (Ext.refl H) (.bl _)⟩
    · exact q.elim
theorem de_all (hc : X.calm = true) (hg : Gl X "all") (hm : X.mg "all" = none) (ha : DA X [e] t) (he : starEach [e] X.env = (false, eval e X.env) :: starEach [] X.env := by rfl) : DE X (.Call (.Name "all" p) [e] [] pos) (aCall gAll t) :=
  de_cb (cr_all hc) cbAll hg hm (by decide +kernel) ha (by decide) (by decide) he

/-! ### a list or {} as data -/
def dFrz (tl : DLs) : DT := fun env Q => tl env fun ds => Q (.lst ds)
def tLstZ (t : TA) : TE := fun σ H Q => t σ H fun xs H1 => xs.length ≤ sizeLine ∧ ∀ a o, H1 a = none → a ≠ sysModules → Q (.ref a) (upd H1 a (.frz o (.lst xs)))
theorem pe_lstZ {t' : TA} (h : PA X es t') : PE X (.List es pos) (tLstZ t') := by
  refine ⟨fun pins s σ H Q I hq => ?_⟩
  refine wpAny_List_spliced (thn (h.run pos pins s σ H _ I hq) fun us s1 ⟨xs, H1, I1, r, z, q⟩ => ⟨by rw [← r.length]; exact z, ?_⟩)
  have fresh := I1.hok.fresh (Nat.le_refl s1.heap.objs.size)
  have held : ({ s1 with heap := s1.heap.push { cls := .type "list", data := .seq us.toArray } } : Shared).heap.get? s1.heap.objs.size = some { cls := .type "list", data := .seq us.toArray } := Heap.get?_push_size _ rfl
  exact ⟨.ref s1.heap.objs.size, _, I1.laid (t' := s1.toks) (o := .frz _ (.lst xs)) (fun b u e => Heap.get?_push_of_some _ e) (Nat.le_refl _) ⟨held, z, us, 0, r, held⟩, rfl, q _ _ fresh (Nat.ne_of_gt I1.big)⟩
theorem de_lst {tl : DLs} (h : DAs X es tl) : DE X (.List es pos) (dFrz (dLst tl)) := by
  refine ⟨fun env P P' i q => h.mono env _ _ (fun ds q => ⟨q.1, i _ q.2⟩) q, PE.imp (pe_lstZ h.pa) fun σ H Q ⟨dk, B, pn, env, R, q⟩ => ?_⟩
  refine ⟨dk, B, pn, env, R, h.mono env _ _ (fun ds q vs H1 e1 r1 => ?_) q⟩
  obtain ⟨z, q⟩ := q
  refine ⟨sz6 (by rw [← r1.length]; exact z), fun p o hp np => ?_⟩
  have ex : Ext dk H1 (upd H1 p (.frz o (.lst vs))) := Ext.new (R.to e1).inv hp
  exact q _ _ (e1.trans ex) (.lst np upd_same (r1.to ex.tup))
def tDicZ : TE := fun _ H Q => ∀ a o, H a = none → Q (.ref a) (upd H a (.frz o (.dK [])))
theorem pe_dicZ : PE X (.Dict [] [] pos) tDicZ := by
  refine ⟨fun pins s σ H Q I hq => wpAny_Dict_empty ?_⟩
  have held : (s.heap.push { cls := .type "dict", data := .dict #[] }).get? s.heap.objs.size = some { cls := .type "dict", data := .dict #[] } := Heap.get?_push_size _ rfl
  exact ⟨.ref s.heap.objs.size, _, I.laid (a := s.heap.objs.size) (o := .frz _ (.dK [])) (t' := s.toks) (fun _ _ q => Heap.get?_push_of_some _ q) (Nat.le_refl _) ⟨held, dk_empty s.heap I.big⟩, rfl, hq _ _ (I.hok.fresh (Nat.le_refl _))⟩
theorem de_dic : DE X (.Dict [] [] pos) (dC .dic) := by
  refine ⟨fun _ _ _ i q => i _ q, PE.imp pe_dicZ fun σ H Q ⟨dk, B, pn, env, R, q⟩ p o hp => ?_⟩
  exact q _ _ (Ext.new R.inv hp) (.dic upd_same)
/-- list(x) as data -/
def gLstZ : G1 D := fun as Q => match as with
  | [.val (.tup ds)] => Q (.lst ds)
  | [.lst ds] => Q (.lst ds)
  | _ => False
def rLstZ (K : PySem.W.Frag) : List V → Hp → VK → Prop := fun xs H Q => ∃ p ys, xs = [.ref p] ∧ (SqL K H p ys ∨ SqT K H p ys) ∧ ∀ l o, H l = none → l ≠ sysModules → Q (.ref l) (upd H l (.frz o (.lst ys)))
theorem call_lstZ : CallR X (.type "list") (rLstZ X.K) := by
  intro pins s σ H xs us Q I r h
  obtain ⟨p, ys, rfl, hq, q⟩ := h
  obtain ⟨u, rfl, rx⟩ := vals1 r
  obtain rfl : u = Value.ref p := rx
  have np : s.heap.objs.size ≠ sysModules := Nat.ne_of_gt I.big
  have out : ∀ (its : List Value), Vals ys its → ys.length ≤ sizeLine → ∀ (h' : Heap) (c' : Nat), (∀ b o', s.heap.get? b = some o' → h'.get? b = some o') →
      h'.get? s.heap.objs.size = some { cls := .type "list", dict := none, data := .seq its.toArray c', slots := #[] } → EP X pins σ Q (.ref s.heap.objs.size) { s with heap := h' } := fun its rv hz h' c' kp e =>
    ⟨.ref s.heap.objs.size, _, I.laid (t' := s.toks) (o := .frz _ (.lst ys)) kp (Nat.le_refl _) ⟨e, hz, its, c', rv, e⟩, rfl, q _ _ (I.hok.fresh (Nat.le_refl _)) np⟩
  rcases hq with hq | hq
  · obtain ⟨its, rv, pl, hz⟩ := I.list hq
    obtain ⟨o, ho, hc, n, hd⟩ := pl.isList
    have hsz : its.toArray.size ≤ sizeLine := by rw [List.size_toArray, ← rv.length]; exact hz
    exact call_list_seq p (.inl rfl) ho hc hd (fun h' c' kp e => out its rv hz h' c' kp e) hsz
  · obtain ⟨its, rv, ⟨o, ho, hc, n, hd⟩, hz⟩ := I.tuple hq
    have hsz : its.toArray.size ≤ sizeLine := by rw [List.size_toArray, ← rv.length]; exact hz
    exact call_list_seq p (.inr rfl) ho hc hd (fun h' c' kp e => out its rv hz h' c' kp e) hsz
theorem cbLstZ {K : PySem.W.Frag} : CbD K (rLstZ K) gLstZ := by
  refine ⟨fun as P P' i q => ?_, fun dk H as vs Q I r q => ?_⟩
  · unfold gLstZ at q ⊢
    split at q <;> first | exact q.elim | exact i _ q
  · unfold gLstZ at q
    split at q
    · cases r with
      | cons h t =>
        cases t
        cases (show IsD K H _ _ from h) with
        | tup s t =>
          rename_i xs
          refine ⟨_, _, rfl, .inr s, fun l o hl nl => ?_⟩
          have ex : Ext dk H (upd H l (.frz o (.lst xs))) := Ext.new I hl
          exact q _ _ ex (.lst nl upd_same (t.to ex.tup))
    · cases r with
      | cons h t =>
        cases t
        obtain ⟨A, rfl, n, xs, rr, l⟩ := h
        refine ⟨_, _, rfl, .inl (.inl rr), fun l' o hl nl => ?_⟩
        have ex : Ext dk H (upd H l' (.frz o (.lst xs))) := Ext.new I hl
        exact q _ _ ex (.lst nl upd_same (l.to ex.tup))
    · exact q.elim
theorem de_lstof (hg : Gl X "list") (hm : X.mg "list" = none) (ha : DA X [e] t) (he : starEach [e] X.env = (false, eval e X.env) :: starEach [] X.env := by rfl) : DE X (.Call (.Name "list" p) [e] [] pos) (aCall gLstZ t) :=
  de_ct call_lstZ cbLstZ hg hm (by decide +kernel) ha (by decide) (by decide) he

/-! ### lists compared, as a value -/
def dEqL (neg : Bool) (ta tb : DLs) : DT := fun env Q => bEqL neg ta tb env fun x => Q (.bl x)
theorem de_eqL {tb : DLs} {k : Nat} (hr : Room k X.A) (ha : DR X a tl) (hb : DR X b tb) : DE X (.Compare a [.Eq] [b] pos) (dEqL false tl tb) := by
  refine ⟨fun env P P' i q => ha.mono env _ _ (fun x q => hb.mono env _ _ (fun y q => ⟨q.1, i _ q.2⟩) q) q, PE.imp (pe_cmpR (op_eqD hr.units) ha.pe hb.pe (nomark _)) fun σ H Q ⟨dk, B, pn, env, R, q⟩ => ?_⟩
  refine ⟨dk, B, pn, env, R, ha.mono env _ _ (fun x q a H1 n1 e1 r1 => ?_) q⟩
  refine ⟨dk, B, pn, env, R.to e1, hb.mono env _ _ (fun y q b H2 n2 e2 r2 => ?_) q⟩
  obtain ⟨xs, rr, l⟩ := r1
  refine ⟨_, _, ListAt.dp ⟨xs, e2.rd n1 rr, l.to e2.tup⟩ (nd_of q.1.1), r2.dp (nd_of q.1.2), q.1.1, q.1.2, ?_⟩
  have z := q.2 _ H2 (e1.trans e2) (.bl _)
  rw [Bool.false_xor] at z
  exact z

/-! ### t != () -/
def gNe0 : D → D → (D → Prop) → Prop := fun x y Q => match x, y with
  | .tup ds, .tup [] => Q (.bl (!ds.isEmpty))
  | _, _ => False
def rNe0 (K : PySem.W.Frag) : R2 := fun x y H Q => ∃ a b xs, x = .ref a ∧ y = .ref b ∧ SqT K H a xs ∧ SqT K H b [] ∧ Q (.bl (!xs.isEmpty)) H
theorem op_ne0 (hu : X.A.units < cLine) : OpR X (compareOp .NotEq) (rNe0 X.K) := by
  intro pins s σ H x y v u Q I rx ry h
  obtain ⟨a, b, xs, rfl, rfl, ha, hb, q⟩ := h
  obtain rfl : v = Value.ref a := rx
  obtain rfl : u = Value.ref b := ry
  obtain ⟨its, r1, p1, _⟩ := I.tuple ha
  obtain ⟨its2, r2, p2, _⟩ := I.tuple hb
  cases r2
  have R := SeqAt.RcNeAt.tuples (A := X.A) (s := s) (e := fun _ => true) p1 p2 hu (fun j h1 h2 => by
    rw [List.size_toArray] at h2
    exact absurd h2 (Nat.not_lt_zero _))
  refine R X.prog X.w X.xe _ ?_
  have e : (!((List.range (min its.toArray.size ([] : List Value).toArray.size)).all (fun _ => true) && its.toArray.size == ([] : List Value).toArray.size)) = !xs.isEmpty := by
    cases r1 <;> simp
  rw [e]
  exact ⟨.bl _, H, I, rfl, q⟩
theorem opNe0 {K : PySem.W.Frag} : OpD K (rNe0 K) gNe0 := by
  refine ⟨fun x y P P' i q => ?_, fun dk H d e x y Q I rx ry q => ?_⟩
  · unfold gNe0 at q ⊢
    split at q
    · exact i _ q
    · exact q.elim
  · unfold gNe0 at q
    split at q
    · cases rx with
      | tup s1 t1 =>
        cases ry with
        | tup s2 t2 =>
          cases t2
          rename_i ds A xs B
          refine ⟨A, B, xs, rfl, rfl, s1, s2, ?_⟩
          have e : xs.isEmpty = ds.isEmpty := by
            cases t1 <;> rfl
          rw [e]
          exact q _ H (Ext.refl H) (.bl _)
    · exact q.elim
theorem dc_ne0 {k : Nat} (hr : Room k X.A) (ha : DE X a ta) (hb : DE X b tb) : DC X (.Compare a [.NotEq] [b] pos) (bTest (dOp gNe0 ta tb)) := dc_cmp (op_ne0 (by have := hr.un; omega)) opNe0 ha hb (nomark _)
theorem de_ne0 {k : Nat} (hr : Room k X.A) (ha : DE X a ta) (hb : DE X b tb) : DE X (.Compare a [.NotEq] [b] pos) (dOp gNe0 ta tb) := de_cmp (op_ne0 (by have := hr.un; omega)) opNe0 ha hb (nomark _)
/-! ### rows of whole numbers compared -/
def gRow (f : List Int → List Int → Bool) : D → D → (D → Prop) → Prop := fun x y Q => ∃ ns ms : List Int, x = .tup (ns.map D.int) ∧ y = .tup (ms.map D.int) ∧ Q (.bl (f ns ms))
abbrev gLtT := gRow HT.lexLt
abbrev gGtT := gRow fun ns ms => HT.lexLt ms ns
theorem opLtT {K : PySem.W.Frag} : OpD K (rLtT K) gLtT := by
  refine ⟨fun x y P P' i ⟨ns, ms, e1, e2, q⟩ => ⟨ns, ms, e1, e2, i _ q⟩, fun dk H d e x y Q I rx ry ⟨ns, ms, e1, e2, q⟩ => ?_⟩
  subst e1 e2
  cases rx with
  | tup s1 t1 =>
    cases ry with
    | tup s2 t2 =>
      rw [t1.ints_inv] at s1
      rw [t2.ints_inv] at s2
      exact ⟨_, _, ns, ms, rfl, rfl, s1, s2, q _ H (Ext.refl H) (.bl _)⟩
theorem dc_ltT {k : Nat} (hr : Room k X.A) (ha : DE X a ta) (hb : DE X b tb) : DC X (.Compare a [.Lt] [b] pos) (bTest (dOp gLtT ta tb)) := dc_cmp (op_ltT (by have := hr.un; omega)) opLtT ha hb (nomark _)
theorem de_ltT {k : Nat} (hr : Room k X.A) (ha : DE X a ta) (hb : DE X b tb) : DE X (.Compare a [.Lt] [b] pos) (dOp gLtT ta tb) := de_cmp (op_ltT (by have := hr.un; omega)) opLtT ha hb (nomark _)
end
end DL

set_option maxRecDepth 100000
set_option maxHeartbeats 2000000
/-! enumerate(tuple) -/
namespace PySem
open Sem (wp)
open AutoSeq1 (wpAny_loadPart')
theorem enumT_new (l : Addr) (items : Array Value) (n : Nat) (dct : Option Addr) (sl : Array (Option Value)) :
    Meets (Builtin.«enumerate.__new__» ⟨[.type "enumerate", .ref l], []⟩) (fun _ R s => s.heap.get? l = some { cls := .type "tuple", dict := dct, data := .seq items n, slots := sl } ∧
      R (.ok (.ret (.ref (s.heap.push { cls := .type "tuple_iterator", data := .fields #[.ref l, .int 0 0] }).objs.size)))
        { s with heap := (s.heap.push { cls := .type "tuple_iterator", data := .fields #[.ref l, .int 0 0] }).push { cls := .type "enumerate", data := .fields #[.none, .bool false, .ref s.heap.objs.size, rawInt 0, .none, .none] } }) :=
  .of_wp fun prog w A R s h => by
    obtain ⟨hp, g, d, tk, os⟩ := s
    obtain ⟨hl, h⟩ := h
    have sub := sub_enumerate
    have isT : Heap.IsTuple (Shared.heap ⟨hp, g, d, tk, os⟩) l items := ⟨_, hl, rfl, n, rfl⟩
    wp_walk using wpAny_loadPart' hl
    refine wpAny_stack_any fun st => wpAny_pure ?_
    split
    · rename_i c _ _ _ _ _
      cases (c == Value.type "enumerate") <;>
      · wp_walk using wpAny_loadPart' hl, wpAny_pyIter_tuple isT
        exact ⟨_, rfl, h⟩
    · wp_walk using wpAny_loadPart' hl, wpAny_pyIter_tuple isT
      exact ⟨_, rfl, h⟩
theorem enumT_call {prog : Program} {w : World} {A : Around} {E : Value → Shared → Prop} {s : Shared} {l : Addr} {items : Array Value} {Q : Value → Shared → Prop} (isT : s.heap.IsTuple l items)
    (h : ∀ h', IsEnum h' (s.heap.objs.size + 1) s.heap.objs.size 0 .none → h'.IsTupleIter s.heap.objs.size l 0 → (∀ b o, s.heap.get? b = some o → h'.get? b = some o) → Q (.ref (s.heap.objs.size + 1)) { s with heap := h' }) :
    wpAny (model prog w) A (call (.type "enumerate") [.ref l]) Q E s := by
  obtain ⟨⟨c, dct, dt, sl⟩, hl, hc, n, hd⟩ := isT
  obtain rfl : c = .type "tuple" := hc
  obtain rfl : dt = .seq items n := hd
  refine callType_new F.called_enumerate (by decide) (F.typeCall_enumerate_1 _) (F.newCall_enumerate_1 _) (fun obj => F.args_object_init_2 obj _) F.entry_enumerate_new
    (enumT_new l items n dct sl) ⟨hl, ?_⟩
  have up : (s.heap.push { cls := .type "tuple_iterator", data := .fields #[.ref l, .int 0 0] }).objs.size = s.heap.objs.size + 1 := Heap.size_push ..
  rw [up]
  have isE : IsEnum ((s.heap.push { cls := .type "tuple_iterator", data := .fields #[.ref l, .int 0 0] }).push
      { cls := .type "enumerate", data := .fields #[.none, .bool false, .ref s.heap.objs.size, rawInt 0, .none, .none] }) (s.heap.objs.size + 1) s.heap.objs.size 0 .none := by
    have z := Heap.get?_push_size (s.heap.push { cls := .type "tuple_iterator", data := .fields #[.ref l, .int 0 0] })
      (o := { cls := .type "enumerate", data := .fields #[.none, .bool false, .ref s.heap.objs.size, rawInt 0, .none, .none] }) rfl
    rw [up] at z
    exact z
  exact ⟨⟨_, isE, rfl⟩, h _ isE ⟨_, Heap.get?_push_of_some _ (Heap.get?_push_size _ rfl), rfl, rfl⟩ fun b o x => Heap.get?_push_of_some _ (Heap.get?_push_of_some _ x)⟩
end PySem
namespace DL
open PySem PySem.Spec PyProof.Rows L2
/-- the tuple at a, each item in a new pair -/
def IteT (K : PySem.W.Frag) (a : Addr) : It where
  go := fun i H => ∃ (xs : List V) (x : V), SqT K H a xs ∧ xs[i]? = some x
  yld := fun i H v H' => ∃ T x, v = .ref T ∧ H T = none ∧ H' = upd H T (.tup [.int (i : Nat), x]) ∧ ∀ xs, SqT K H a xs → xs[i]? = some x
  stop := fun i H => ∃ xs : List V, SqT K H a xs ∧ xs.length = i
theorem turn_enumT {P : Program} {w : World} {K : PySem.W.Frag} {elts : List Expr} {kk : Nat} {tpos : Pos} (a e it : Addr) :
    Turn P w K (.Tuple elts kk tpos) (IteT K a) [e, it] e (fun i h => (∃ old, IsEnum h e it ((i : Nat) : Int) old) ∧ h.IsTupleIter it a i ∧ e ≠ it ∧ a ≠ it ∧ e ≠ a) where
  mem := by simp
  obj := fun i h st b hb => by
    obtain ⟨⟨old, he⟩, ⟨o, ho, hc, hd⟩, _⟩ := st
    rcases (show b = e ∨ b = it by simpa using hb) with rfl | rfl
    · exact ⟨_, he, fun v q => nomatch q⟩
    · exact ⟨o, ho, fun v q => by rw [hd] at q; cases q⟩
  keep := fun i h h' st k => by
    obtain ⟨⟨old, he⟩, hi, z⟩ := st
    exact ⟨⟨old, k e (by simp) _ he⟩, hi.at fun o q => k it (by simp) o q, z⟩
  item := by
    intro X hP hw hK hc i pins s σ H E I hf st hg
    subst hP hw hK
    obtain ⟨⟨old, he⟩, hit, n1, n2, n3⟩ := st
    obtain ⟨xs, x, hq, hx⟩ := hg
    obtain ⟨its, rv, p, hz⟩ := I.tuple hq
    obtain ⟨u, hu, ru⟩ := rv.get hx
    have le : e < s.heap.objs.size := Heap.lt_size he
    have li : it < s.heap.objs.size := by
      obtain ⟨_, q, _⟩ := hit
      exact Heap.lt_size q
    have hi : i < its.toArray.size := by
      rw [List.size_toArray]
      exact (List.getElem?_eq_some_iff.mp hu).1
    refine wpAny_pyNext_enum_itemD (A := X.A) (Draws.tuple (A := X.A.in1) (I.ok.hd hc) it a n2 its.toArray) he ⟨hit, p⟩ hi n1 (by simp [n1, n3]) fun x' h' tk hx' ho st' hT hsz hk => ?_
    have ex : x' = u := by
      have z : its.toArray[i]? = some u := by simpa using hu
      rw [hx'] at z
      exact Option.some.inj z
    subst ex
    refine ⟨_, rfl, wpAny_letOwnedTupleGo_enum (s := { s with heap := h', toks := tk + 1 }) ho fun h'' he' sb => ?_⟩
    have hT2 : h''.get? s.heap.objs.size = some { cls := .type "tuple", data := .seq #[.int i tk, x'] } := (sb.2 _ (Nat.ne_of_gt le)).trans hT
    have new : ObjOk X.prog X.w (upd H s.heap.objs.size (.tup [.int (i : Nat), x])) h'' s.heap.objs.size (.tup [.int (i : Nat), x]) :=
      ⟨by show 2 ≤ sizeLine; decide, [.int i tk, x'], .cons ⟨_, rfl⟩ (.cons ru .nil), ⟨_, hT2, rfl, _, rfl⟩⟩
    have I1 : Inv X pins σ (upd H s.heap.objs.size (.tup [.int (i : Nat), x])) { s with heap := h'', toks := tk + 1 } :=
      I.turnedNew (ch := [e, it]) (fun b ob hb q => (sb.2 b (fun z => hb (by simp [z]))).trans (hk b ob (fun z => hb (by simp [z])) (fun z => hb (by simp [z])) q)) hf (Nat.le_refl _) new
    refine ⟨.ref s.heap.objs.size, _, I1, rfl, ⟨_, x, rfl, I.hok.fresh (Nat.le_refl _), rfl, fun ys hy => by rw [I.tuple_inj hy hq]; exact hx⟩, ⟨⟨x', ?_⟩, st'.1.at fun o q => (sb.2 it (Ne.symm n1)).trans q, n1, n2, n3⟩, fun b hb => ?_⟩
    · rw [show ((i + 1 : Nat) : Int) = (i : Int) + 1 by omega]
      exact he'
    · have hb' : b < s.heap.objs.size := by
        rcases (show b = e ∨ b = it by simpa using hb) with rfl | rfl
        · exact le
        · exact li
      rw [upd_ne (Nat.ne_of_lt hb')]
      exact (hf b hb).1
  done := by
    intro X hP hw hK hc i pins s σ H E I hf st hg
    subst hP hw hK
    obtain ⟨⟨old, he⟩, hit, n1, n2, n3⟩ := st
    obtain ⟨xs, hq, hx⟩ := hg
    obtain ⟨its, rv, p, hz⟩ := I.tuple hq
    have e0 : i = its.toArray.size := by rw [List.size_toArray, ← rv.length, hx]
    subst e0
    obtain ⟨f0, f1, f2, f3, f4, f5⟩ := hf it (by simp)
    exact wpAny_pyNext_enum_endD (A := X.A) (Draws.tuple (A := X.A.in1) (I.ok.hd hc) it a n2 its.toArray) he ⟨hit, p⟩ fun h' eb => ⟨rfl, I.turned (t' := s.toks) (fun b o hb q => eb b o hb q) f0 f1 f3 f4 f5⟩
  self := fun A i s Q E st h => let ⟨⟨_, he⟩, _⟩ := st; wpAny_pyIter_enum he h
def iEnumA (K : PySem.W.Frag) (ta : TA) : TI := fun σ H R => ta σ H fun vs H1 => ∃ a xs, vs = [.ref a] ∧ SqT K H1 a xs ∧ R (IteT K a) H1
theorem pi_enumA {X : Cx} {e : Expr} {ta : TA} {p pos tpos : Pos} {elts : List Expr} {kk : Nat} (hg : Gl X "enumerate") (hm : X.mg "enumerate" = none) (ha : PA X [e] ta) (hs : starEach [e] X.env = [(false, eval e X.env)] := by rfl) :
    PI X (.Tuple elts kk tpos) (.Call (.Name "enumerate" p) [e] [] pos) (iEnumA X.K ta) := by
  refine ⟨fun pins s σ H R I h => ?_⟩
  refine Call_ (ld_blt I hg hm boot_enumerate (PyProof.Rows.callWith_type1 (thn (ha.run pos pins s σ H _ I h) fun us s1 ⟨vs, H1, I1, r1, a, xs, ex, hq, q⟩ => ?_) hs rfl))
  subst ex
  obtain ⟨u, rfl, rx⟩ := vals1 r1
  obtain rfl : u = Value.ref a := rx
  obtain ⟨its, rv, p', hz⟩ := I1.tuple hq
  have la : a < s1.heap.objs.size := by
    obtain ⟨_, z, _⟩ := p'
    exact Heap.lt_size z
  refine enumT_call p' fun h' he hit hk => wpAny_pyIter_enum he ?_
  have I2 : Inv X pins σ H1 { s1 with heap := h' } := I1.kept (t' := s1.toks) hk
  refine ⟨s1.heap.objs.size + 1, [s1.heap.objs.size + 1, s1.heap.objs.size], _, _, H1, rfl, I2, turn_enumT a (s1.heap.objs.size + 1) s1.heap.objs.size, ⟨⟨.none, he⟩, hit, Nat.succ_ne_self _, Nat.ne_of_lt la, Ne.symm (Nat.ne_of_lt (Nat.lt_succ_of_lt la))⟩, fun b hb => ?_, q⟩
  have hle : s1.heap.objs.size ≤ b := by
    rcases (show b = s1.heap.objs.size + 1 ∨ b = s1.heap.objs.size by simpa using hb) with rfl | rfl <;> omega
  exact I1.fpOk hle (I1.hok.fresh hle)
/-- enumerate of a tuple -/
def numD (ds : List D) : List D := (List.range ds.length).zipWith (fun (i : Nat) d => D.tup [.int i, d]) ds
theorem numD_len (ds : List D) : (numD ds).length = ds.length := by
  unfold numD
  rw [List.length_zipWith, List.length_range, Nat.min_self]
theorem numD_get {ds : List D} {i : Nat} {d : D} (h : ds[i]? = some d) : (numD ds)[i]? = some (.tup [.int i, d]) := by
  unfold numD
  rw [List.getElem?_zipWith, h, List.getElem?_range (List.getElem?_eq_some_iff.mp h).1]
theorem numD_inv {ds : List D} {i : Nat} {x : D} (h : (numD ds)[i]? = some x) : ∃ d, ds[i]? = some d ∧ x = .tup [.int i, d] := by
  have hi : i < ds.length := by
    have := (List.getElem?_eq_some_iff.mp h).1
    rw [numD_len] at this
    exact this
  have z := numD_get (List.getElem?_eq_getElem hi)
  rw [h] at z
  exact ⟨_, List.getElem?_eq_getElem hi, Option.some.inj z⟩
def iEnu (t : DA0) : DI0 := fun env Q => t env fun as => match as with
  | [.val (.tup xs)] => Q env (numD xs)
  | _ => False
theorem walkD_enu {K : PySem.W.Frag} {dk : Option Dk} {B : Hp} {pn : Pn} {a : Addr} {xs : List D} (h1 : (D.tup xs, V.ref a) ∈ pn.v) : WalkD K dk B pn (IteT K a) (numD xs) := by
  refine ⟨fun H => IsD K H (.tup xs) (.ref a), fun i H x H' => ∃ T u d, x = .ref T ∧ H T = none ∧ H' = upd H T (.tup [.int (i : Nat), u]) ∧ xs[i]? = some d ∧ IsD K H d u, ⟨fun i H hi g => ?_, fun H g => ?_, fun i H x H' hi g y => ?_⟩, fun σ H env R => R.vals _ h1, fun i H x H' hi g I y => ?_⟩
  · rw [numD_len] at hi
    cases g with
    | tup s1 t1 =>
      have e1 := t1.length
      obtain ⟨u, hu, _⟩ := t1.get i (List.getElem?_eq_getElem hi)
      exact ⟨_, u, s1, hu⟩
  · cases g with
    | tup s1 t1 => exact ⟨_, s1, by rw [numD_len]; exact t1.length.symm⟩
  · cases g with
    | tup s1 t1 =>
      obtain ⟨T, u, e, n, e', f1⟩ := y
      obtain ⟨d, z1, z2⟩ := t1.get' i (f1 _ s1)
      exact ⟨T, u, d, e, n, e', z1, z2⟩
  · obtain ⟨T, u, d, rfl, n, rfl, z1, z2⟩ := y
    have ex : Ext dk H (upd H T (.tup [.int (i : Nat), u])) := Ext.new I n
    exact ⟨ex, _, numD_get z1, .tup (SqT.of upd_same) (.cons (.int _) (.cons (IsD.to ex.tup z2) .nil))⟩
theorem di_enu {X : Cx} {a : Expr} {t : DA0} {elts : List Expr} {kk : Nat} {tpos p pos : Pos} (hg : Gl X "enumerate") (hm : X.mg "enumerate" = none) (ha : DA X [a] t) (hs : starEach [a] X.env = [(false, eval a X.env)] := by rfl) :
    DI X (.Tuple elts kk tpos) (.Call (.Name "enumerate" p) [a] [] pos) (iEnu t) := by
  refine ⟨fun env P P' i q => ha.mono env _ _ (fun d q => ?_) q, PI.imp (pi_enumA hg hm ha.pa hs) fun σ H R' ⟨dk, B, pn, env, R, q⟩ => ?_⟩
  · split at q
    · exact i _ _ q
    · exact q.elim
  · refine ⟨dk, B, pn, env, R, ha.mono env _ _ (fun d q vs H' ex r => ?_) q⟩
    split at q
    · rename_i xs
      cases r with
      | cons h1 h2 =>
        cases h2
        have k1 : IsD X.K H' (.tup xs) _ := h1
        have k1' := k1
        cases k1 with
        | tup s1 t1 =>
          rename_i A us
          exact ⟨A, _, rfl, s1, q _ H' ⟨pn.l, (.tup xs, .ref A) :: pn.v⟩ ⟨fun z hz => hz, fun _ hz => List.mem_cons_of_mem _ hz⟩ ex ((R.to ex).pinV k1') (walkD_enu List.mem_cons_self)⟩
    · exact q.elim
end DL

set_option maxRecDepth 100000
set_option maxHeartbeats 2000000
namespace DL
open PySem PySem.Spec PyProof.Rows L2
/-! ### truth values reckoned with -/
def gSum2 (f : Int → Int → Int) : D → D → (D → Prop) → Prop := fun x y Q => match x, y with
  | .int i, .int j => Q (.int (f i j))
  | .bl i, .int j => Q (.int (f (if i = true then 1 else 0) j))
  | .int i, .bl j => Q (.int (f i (if j = true then 1 else 0)))
  | _, _ => False
def rSum2 (f : Int → Int → Int) : R2 := fun x y H Q => (∃ i j, x = .int i ∧ y = .int j ∧ Q (.int (f i j)) H) ∨ (∃ i j, x = .bl i ∧ y = .int j ∧ Q (.int (f (if i = true then 1 else 0) j)) H) ∨ ∃ i j, x = .int i ∧ y = .bl j ∧ Q (.int (f i (if j = true then 1 else 0))) H
theorem opSum2 {K : PySem.W.Frag} {f : Int → Int → Int} : OpD K (rSum2 f) (gSum2 f) := by
  refine ⟨fun x y P P' i q => ?_, fun dk H d e x y Q I rx ry q => ?_⟩
  · cases x <;> cases y <;> first | exact q.elim | exact i _ q
  · cases d <;> cases e <;> first | exact q.elim | skip
    all_goals
      cases rx
      cases ry
    · exact .inr (.inl ⟨_, _, rfl, rfl, q _ H (Ext.refl H) (.int _)⟩)
    · exact .inr (.inr ⟨_, _, rfl, rfl, q _ H (Ext.refl H) (.int _)⟩)
    · exact .inl ⟨_, _, rfl, rfl, q _ H (Ext.refl H) (.int _)⟩
section
variable {X : Cx} {a b c e : Expr} {es : List Expr} {pos p p2 : Pos} {ta tb tc te : DT} {tl : DLs} {t : DA0}
theorem op_add2 : OpR X (binaryOp .Add) (rSum2 fun i j => i + j) := by
  intro pins s σ H x y v u Q I rx ry h
  rcases h with ⟨i, j, rfl, rfl, q⟩ | ⟨i, j, rfl, rfl, q⟩ | ⟨i, j, rfl, rfl, q⟩
  · exact op_add pins s σ H _ _ v u Q I rx ry ⟨i, j, rfl, rfl, q⟩
  · obtain rfl : v = .bool i := rx
    obtain ⟨t, rfl⟩ := ry
    exact IntBool.add_bool_int ⟨.int _, H, I.tok _, ⟨_, rfl⟩, q⟩
  · obtain ⟨t, rfl⟩ := rx
    obtain rfl : u = .bool j := ry
    refine add_int_bool ⟨.int _, H, I.tok _, ⟨_, rfl⟩, ?_⟩
    cases j <;> exact q
theorem op_sub2 : OpR X (binaryOp .Sub) (rSum2 fun i j => i - j) := by
  intro pins s σ H x y v u Q I rx ry h
  rcases h with ⟨i, j, rfl, rfl, q⟩ | ⟨i, j, rfl, rfl, q⟩ | ⟨i, j, rfl, rfl, q⟩
  · exact op_sub pins s σ H _ _ v u Q I rx ry ⟨i, j, rfl, rfl, q⟩
  · obtain rfl : v = .bool i := rx
    obtain ⟨t, rfl⟩ := ry
    exact IntBool.sub_bool_int ⟨.int _, H, I.tok _, ⟨_, rfl⟩, q⟩
  · obtain ⟨t, rfl⟩ := rx
    obtain rfl : u = .bool j := ry
    exact IntBool.sub_int_bool ⟨.int _, H, I.tok _, ⟨_, rfl⟩, q⟩
theorem de_add2 (ha : DE X a ta) (hb : DE X b tb) : DE X (.BinOp a .Add b pos) (dOp (gSum2 fun i j => i + j) ta tb) := de_op op_add2 opSum2 ha hb
theorem de_sub2 (ha : DE X a ta) (hb : DE X b tb) : DE X (.BinOp a .Sub b pos) (dOp (gSum2 fun i j => i - j) ta tb) := de_op op_sub2 opSum2 ha hb
/-! ### bool(x), str(x) -/
def gBoolOf : G1 D := fun as Q => match as with
  | [.val (.int i)] => Q (.bl (i != 0))
  | [.val (.bl k)] => Q (.bl k)
  | _ => False
theorem cbBoolOf {K : PySem.W.Frag} : CbD K (fun xs H Q => (∃ i, xs = [.int i] ∧ Q (.bl (i != 0)) H) ∨ ∃ k, xs = [.bl k] ∧ Q (.bl k) H) gBoolOf := by
  refine ⟨fun as P P' i q => ?_, fun dk H as vs Q I r q => ?_⟩
  · unfold gBoolOf at q ⊢
    split at q <;> first | exact q.elim | exact i _ q
  · unfold gBoolOf at q
    split at q
    · cases r with
      | cons h t =>
        cases t
        cases (show IsD K H _ _ from h)
        exact .inl ⟨_, rfl, q _ H (Ext.refl H) (.bl _)⟩
    · cases r with
      | cons h t =>
        cases t
        cases (show IsD K H _ _ from h)
        exact .inr ⟨_, rfl, q _ H (Ext.refl H) (.bl _)⟩
    · exact q.elim
theorem de_boolof (hg : Gl X "bool") (hm : X.mg "bool" = none) (ha : DA X [e] t) (he : starEach [e] X.env = (false, eval e X.env) :: starEach [] X.env := by rfl) : DE X (.Call (.Name "bool" p) [e] [] pos) (aCall gBoolOf t) :=
  de_ct call_bool1 cbBoolOf hg hm (by decide +kernel) ha (by decide) (by decide) he
def gStrOf : G1 D := fun as Q => match as with
  | [.val (.int i)] => i.natAbs.log2 < 1920 ∧ Q (.str (toString i))
  | [.val (.bl k)] => Q (.str (if k then "True" else "False"))
  | _ => False
def rStrOf : List V → Hp → VK → Prop := fun xs H Q => (∃ i, xs = [.int i] ∧ i.natAbs.log2 < 1920 ∧ Q (.str (toString i)) H) ∨ ∃ k : Bool, xs = [.bl k] ∧ Q (.str (if k then "True" else "False")) H
theorem call_strof : CallR X (.type "str") rStrOf := by
  intro pins s σ H xs us Q I r h
  rcases h with h | ⟨k, rfl, q⟩
  · exact call_str_int pins s σ H xs us Q I r h
  · obtain ⟨u, rfl, r1⟩ := vals1 r
    obtain rfl : u = .bool k := r1
    exact PySem.P.str_of_bool ⟨.str _, H, I.tok _, ⟨_, rfl⟩, q⟩
theorem cbStrOf {K : PySem.W.Frag} : CbD K rStrOf gStrOf := by
  refine ⟨fun as P P' i q => ?_, fun dk H as vs Q I r q => ?_⟩
  · unfold gStrOf at q ⊢
    split at q <;> first | exact q.elim | exact ⟨q.1, i _ q.2⟩ | exact i _ q
  · unfold gStrOf at q
    split at q
    · cases r with
      | cons h t =>
        cases t
        cases (show IsD K H _ _ from h)
        exact .inl ⟨_, rfl, q.1, q.2 _ H (Ext.refl H) (.str _)⟩
    · cases r with
      | cons h t =>
        cases t
        cases (show IsD K H _ _ from h)
        exact .inr ⟨_, rfl, q _ H (Ext.refl H) (.str _)⟩
    · exact q.elim
theorem de_strof (hg : Gl X "str") (hm : X.mg "str" = none) (ha : DA X [e] t) (he : starEach [e] X.env = (false, eval e X.env) :: starEach [] X.env := by rfl) : DE X (.Call (.Name "str" p) [e] [] pos) (aCall gStrOf t) :=
  de_ct call_strof cbStrOf hg hm (by decide +kernel) ha (by decide) (by decide) he
/-! ### rows of whole numbers, > -/
theorem lex_gt (ns ms : List Int) : ∀ (k i : Nat), i + k = min ns.length ms.length →
    Ob.lexAt (fun j => decide (ns.getD j 0 = ms.getD j 0)) (fun j => decide (ms.getD j 0 < ns.getD j 0)) (decide (ns.length > ms.length)) i k = HT.lexLt (ms.drop i) (ns.drop i) := by
  intro k
  induction k with
  | zero =>
    intro i h
    rw [Ob.lexAt_zero]
    by_cases hl : ns.length > ms.length
    · rw [decide_eq_true hl, List.drop_eq_nil_of_le (by omega : ms.length ≤ i), List.drop_eq_getElem_cons (by omega : i < ns.length)]
      rfl
    · rw [decide_eq_false hl, List.drop_eq_nil_of_le (by omega : ns.length ≤ i)]
      cases ms.drop i <;> rfl
  | succ k ih =>
    intro i h
    have h1 : i < ns.length := by omega
    have h2 : i < ms.length := by omega
    rw [Ob.lexAt_succ, ih (i + 1) (by omega), List.drop_eq_getElem_cons h1, List.drop_eq_getElem_cons h2, HT.lexLt_cons]
    have g1 : ns.getD i 0 = ns[i] := by simp [List.getD, h1]
    have g2 : ms.getD i 0 = ms[i] := by simp [List.getD, h2]
    rw [g1, g2]
    by_cases e : ns[i] = ms[i]
    · rw [if_pos (decide_eq_true e), if_pos e.symm]
    · rw [if_neg (by simpa using e), if_neg (fun z => e z.symm)]
def rGtT (K : PySem.W.Frag) : R2 := fun x y H Q => ∃ a b ns ms, x = .ref a ∧ y = .ref b ∧ SqT K H a (ns.map V.int) ∧ SqT K H b (ms.map V.int) ∧ Q (.bl (HT.lexLt ms ns)) H
theorem op_gtT (hu : X.A.units < cLine) : OpR X (compareOp .Gt) (rGtT X.K) := by
  intro pins s σ H x y v u Q I rx ry h
  obtain ⟨a, b, ns, ms, rfl, rfl, ha, hb, q⟩ := h
  obtain rfl : v = .ref a := rx
  obtain rfl : u = .ref b := ry
  obtain ⟨its, r1, p1, _⟩ := I.tuple ha
  obtain ⟨its2, r2, p2, _⟩ := I.tuple hb
  have i1 : IntsAre its ns := Vals.ints r1
  have i2 : IntsAre its2 ms := Vals.ints r2
  have e1 : its.toArray.size = ns.length := (List.size_toArray).trans i1.length
  have e2 : its2.toArray.size = ms.length := (List.size_toArray).trans i2.length
  have R := Ob.RcOp.tuples_gt (A := X.A) (s := s) (e := fun j => decide (ns.getD j 0 = ms.getD j 0)) (r := fun j => decide (ms.getD j 0 < ns.getD j 0)) p1 p2 hu (fun j h1 h2 => by
    obtain ⟨t, et⟩ := PyProof.Rows.IntsAre.int_at i1 j its.toArray[j] (by simp at h1; simp [h1])
    obtain ⟨t', et'⟩ := PyProof.Rows.IntsAre.int_at i2 j its2.toArray[j] (by simp at h2; simp [h2])
    rw [et, et', show decide (ns.getD j 0 = ms.getD j 0) = (ns.getD j 0 == ms.getD j 0) from rfl]
    exact SeqAt.EqAt.int_int _ _ _ _) (fun j h1 h2 _ => by
    obtain ⟨t, et⟩ := PyProof.Rows.IntsAre.int_at i1 j its.toArray[j] (by simp at h1; simp [h1])
    obtain ⟨t', et'⟩ := PyProof.Rows.IntsAre.int_at i2 j its2.toArray[j] (by simp at h2; simp [h2])
    rw [et, et']
    exact Ob.RcOp.gt_int _ _ _ _)
  rw [e1, e2, lex_gt ns ms _ 0 (Nat.zero_add _), List.drop_zero, List.drop_zero] at R
  exact R X.prog X.w X.xe (EP X pins σ Q) ⟨.bl _, H, I, rfl, q⟩
theorem opGtT {K : PySem.W.Frag} : OpD K (rGtT K) gGtT := by
  refine ⟨fun x y P P' i ⟨ns, ms, e1, e2, q⟩ => ⟨ns, ms, e1, e2, i _ q⟩, fun dk H d e x y Q I rx ry ⟨ns, ms, e1, e2, q⟩ => ?_⟩
  subst e1 e2
  cases rx with
  | tup s1 t1 =>
    cases ry with
    | tup s2 t2 =>
      rw [t1.ints_inv] at s1
      rw [t2.ints_inv] at s2
      exact ⟨_, _, ns, ms, rfl, rfl, s1, s2, q _ H (Ext.refl H) (.bl _)⟩
theorem dc_gtT {k : Nat} (hr : Room k X.A) (ha : DE X a ta) (hb : DE X b tb) : DC X (.Compare a [.Gt] [b] pos) (bTest (dOp gGtT ta tb)) := dc_cmp (op_gtT (by have := hr.un; omega)) opGtT ha hb (nomark _)
theorem de_gtT {k : Nat} (hr : Room k X.A) (ha : DE X a ta) (hb : DE X b tb) : DE X (.Compare a [.Gt] [b] pos) (dOp gGtT ta tb) := de_cmp (op_gtT (by have := hr.un; omega)) opGtT ha hb (nomark _)
end
end DL
namespace DL
open PySem PySem.Spec PyProof.Rows L2
open AutoSeq1 (wpAny_loadPart')
/-! ### t * k -/
theorem mulSame (l : Addr) (items : Array Value) (n : Nat) (dd : Option Addr) (sl : Array (Option Value)) (x : Int) (u : Tok) (c0 : (decide (x < -(2 ^ 63)) || decide (x ≥ 2 ^ 63)) = false) (c1 : (items.isEmpty || x == 1) = true) :
    Meets (Builtin.«tuple.__mul__» ⟨[.ref l, .int x u], []⟩) (fun _ R s => s.heap.get? l = some { cls := .type "tuple", dict := dd, data := .seq items n, slots := sl } ∧ R (.ok (.ret (Value.ref l))) s) :=
  .of_wp fun prog w A R s h => by
    obtain ⟨hp, g, d, tk, os⟩ := s
    obtain ⟨hl, h⟩ := h
    have f1 := AutoSeq1.idx_int
    wp_walk using wpAny_loadPart' hl
    repeat (first
      | (refine wpAny_ite_false (decide_eq_false (by rw [c0]; exact Bool.false_ne_true)) ?_; wp_walk using wpAny_loadPart' hl)
      | (refine wpAny_ite_true (decide_eq_true c1) ?_; wp_walk using wpAny_loadPart' hl))
    exact ⟨_, rfl, h⟩
def rRepZ (K : PySem.W.Frag) : R2 := fun x y H Q => ∃ l k xs, x = .ref l ∧ y = .int k ∧ SqT K H l xs ∧ (1 ≤ k ∧ k ≤ 1000 ∧ xs.length ≤ 1000) ∧ ((xs = [] ∨ k = 1) → Q (.ref l) H) ∧ (xs ≠ [] → 2 ≤ k → ∀ p, H p = none → Q (.ref p) (upd H p (.tup (List.replicate k.toNat xs).flatten)))
section
variable {X : Cx} {a b c e : Expr} {es : List Expr} {pos p p2 : Pos} {ta tb tc te : DT} {tl : DLs} {t : DA0}
theorem op_repZ : OpR X (binaryOp .Mult) (rRepZ X.K) := by
  intro pins s σ H x y v u Q I rx ry h
  obtain ⟨l, k, xs, rfl, rfl, hT, ⟨k1, k2, hz⟩, q1, q2⟩ := h
  by_cases hs : xs = [] ∨ k = 1
  · obtain rfl : v = .ref l := rx
    obtain ⟨t, rfl⟩ := ry
    obtain ⟨its, r, ⟨⟨cls, dd, data, sl⟩, ho, hc, n, hd⟩, _⟩ := I.tuple hT
    obtain rfl : cls = .type "tuple" := hc
    obtain rfl : data = .seq its.toArray n := hd
    have c0 : (decide (k < -(2 ^ 63)) || decide (k ≥ 2 ^ 63)) = false := by
      rw [decide_eq_false (by omega), decide_eq_false (by omega)] <;> rfl
    have c1 : (its.toArray.isEmpty || k == 1) = true := by
      rcases hs with rfl | rfl
      · cases r
        rfl
      · rw [Bool.or_eq_true]
        exact .inr rfl
    exact wpAny_binaryOp_repeat_ref (T := "tuple") (U := "int") (by decide) ⟨_, ho, rfl⟩ (fun s' => typeIs_int s' k t) noFill_tuple_mul F.fills_int_mul F.slot_int_rmul repeat_tuple F.slot_int_index.lookup
      (call_meets F.slot_int_rmul (typeIs_int s k t) F.entry_int_rmul (F.args_int_rmul_2 _ _) (int_rmul_tuple k t l its.toArray n dd sl)
        ⟨ho, rfl, ⟨_, ho, rfl⟩, call_meets F.slot_tuple_mul ⟨_, ho, rfl⟩ F.entry_tuple_mul (F.args_tuple_mul_2 _ _) (mulSame l its.toArray n dd sl k t c0 c1) ⟨ho, .ref l, H, I, rfl, q1 hs⟩⟩)
  · have n1 : xs ≠ [] := fun z => hs (.inl z)
    have n2 : k ≠ 1 := fun z => hs (.inr z)
    exact op_repT pins s σ H _ _ v u Q I rx ry ⟨l, k, xs, rfl, rfl, hT, n1, by omega, k2, hz, q2 n1 (by omega)⟩
def gRep : D → D → (D → Prop) → Prop := fun x y Q => match x, y with
  | .tup ds, .int k => (1 ≤ k ∧ k ≤ 1000 ∧ ds.length ≤ 1000) ∧ Q (.tup (List.replicate k.toNat ds).flatten)
  | _, _ => False
theorem IsAll.rep {K : PySem.W.Frag} {H : Hp} {ds : List D} {vs : List V} (t : IsAll K H ds vs) : ∀ m : Nat, IsAll K H (List.replicate m ds).flatten (List.replicate m vs).flatten
  | 0 => .nil
  | m + 1 => by
    rw [List.replicate_succ, List.replicate_succ, List.flatten_cons, List.flatten_cons]
    exact t.app (IsAll.rep t m)
theorem opRep {K : PySem.W.Frag} : OpD K (rRepZ K) gRep := by
  refine ⟨fun x y P P' i q => ?_, fun dk H d e x y Q I rx ry q => ?_⟩
  · cases x <;> cases y <;> first | exact q.elim | exact ⟨q.1, i _ q.2⟩
  · obtain ⟨ds, k, rfl, rfl⟩ : ∃ ds k, d = .tup ds ∧ e = .int k := by
      cases d <;> cases e <;> first | exact q.elim | exact ⟨_, _, rfl, rfl⟩
    obtain ⟨⟨k1, k2, k3⟩, q⟩ := q
    cases ry
    cases rx with
    | tup h1 t1 =>
      rename_i A xs
      have l1 := t1.length
      refine ⟨A, k, xs, rfl, rfl, h1, ⟨k1, k2, by omega⟩, fun z => ?_, fun n1 k4 p hp => ?_⟩
      · have e : (List.replicate k.toNat ds).flatten = ds := by
          rcases z with rfl | rfl
          · cases t1
            simp
          · rw [show (1 : Int).toNat = 1 from rfl, List.replicate_one, List.flatten_singleton]
        rw [e] at q
        exact q _ H (Ext.refl H) (.tup h1 t1)
      · have ex : Ext dk H (upd H p (.tup (List.replicate k.toNat xs).flatten)) := Ext.new I hp
        exact q _ _ ex (.tup (SqT.of upd_same) ((t1.rep _).to ex.tup))
theorem de_rep (ha : DE X a ta) (hb : DE X b tb) : DE X (.BinOp a .Mult b pos) (dOp gRep ta tb) := de_op op_repZ opRep ha hb
end
/-! ### t[::-1] -/
theorem places_back (n : Nat) : Builtin.Slice.slicePlaces ((n : Int) - 1) (-1) (-1) = n := by
  unfold Builtin.Slice.slicePlaces
  rw [if_neg (by decide)]
  cases n with
  | zero => rfl
  | succ n =>
    rw [if_pos (by omega), show (-(-1) : Int) = 1 from rfl, Int.ediv_one]
    omega
theorem pick_back (xs : Array Value) : ((List.range xs.size).filterMap fun (k : Nat) => xs[(((xs.size : Int) - 1) + (k : Int) * (-1)).toNat]?).toArray = xs.toList.reverse.toArray := by
  have e : (fun (k : Nat) => xs[(((xs.size : Int) - 1) + (k : Int) * (-1)).toNat]?) = (fun j : Nat => xs[j]?) ∘ fun k => xs.size - 1 - k := by
    funext k
    show _ = xs[xs.size - 1 - k]?
    rw [show (((xs.size : Int) - 1) + (k : Int) * (-1)).toNat = xs.size - 1 - k by omega]
  rw [e, ← List.filterMap_map, PySem.W.krv_range, List.filterMap_reverse, PySem.W.krv_all]
theorem getItem_back {prog : Program} {w : World} {A : Around} {E : Value → Shared → Prop} {s : Shared} {t sl : Addr} {items : Array Value} {vl vu vs : Value} {Q : Value → Shared → Prop} (ht : IsTup s.heap t items) (hs : s.heap.IsSliceOf sl vl vu vs) (pl : IsPart vl none) (pu : IsPart vu none) (ps : IsPart vs (some (-1)))
    (h : Q (.ref s.heap.objs.size) { s with heap := s.heap.push { cls := .type "tuple", data := .seq items.toList.reverse.toArray } }) (hsz : items.size ≤ sizeLine) : wpAny (model prog w) A (getItem (.ref t) (.ref sl)) Q E s := by
  have room : sizeOk (.seq items.toList.reverse.toArray) := by
    show items.toList.reverse.toArray.size ≤ sizeLine
    rw [List.size_toArray, List.length_reverse]
    exact hsz
  obtain ⟨os, hos, hcs, hds⟩ := id hs
  have isS : s.TypeIs (.ref sl) "slice" := ⟨os, hos, hcs⟩
  unfold getItem
  try with_reducible refine wpAny_holding ?_
  first | refine wpAny_bind (wpAny_pure ?_) | skip
  refine wpAny_bind (wpAny_sequenceKey ht.typeIs (by decide) (wpAny_bind (wpAny_callSpecial?_slot (name := Str.ofString "__getitem__") ht.typeIs PyProof.Rows.slot_tuple_getitem (wpAny_call_entry PyProof.Rows.slot_tuple_getitem ht.typeIs entry_tuple_getitem ?_ (args_tuple_getitem _ _)))))
  show wpAny _ _ (Builtin.Tuple.tupleItemsOf (.ref t) >>= _) _ _ s
  refine wpAny_bind (tupleItemsOf_ ht (wpAny_bind (wpAny_typeOf isS ?_)))
  rw [if_pos (by decide)]
  refine wpAny_bind ?_
  unfold Builtin.Slice.sliceApplied Builtin.Slice.sliceFields
  refine wpAny_bind (wpAny_bind (wpAny_field hos hds (x := vl) rfl (wpAny_bind (wpAny_field hos hds (x := vu) rfl (wpAny_bind (wpAny_field hos hds (x := vs) rfl (wpAny_pure ?_)))))))
  refine wpAny_bind (HT.slicePart_ ps ?_)
  show wpAny _ _ (if ((-1 : Int) == 0) = true then _ else _) _ _ s
  rw [if_neg (by decide)]
  refine wpAny_bind (HT.slicePart_ pl (wpAny_bind (HT.slicePart_ pu (wpAny_bind (wpAny_pure ?_)))))
  show wpAny _ _ (pure (((items.size : Int) - 1), (-1 : Int), Builtin.Slice.slicePlaces ((items.size : Int) - 1) (-1) (-1))) _ _ s
  rw [places_back]
  refine wpAny_pure ?_
  have no : ¬ ((((items.size : Int) - 1) == 0 && (-1 : Int) == 1 && items.size == items.size) = true) := by
    rw [show ((-1 : Int) == 1) = false from rfl, Bool.and_false, Bool.false_and]
    exact Bool.false_ne_true
  show wpAny _ _ (if (((items.size : Int) - 1) == 0 && (-1 : Int) == 1 && items.size == items.size) = true then _ else _) _ _ s
  rw [if_neg no, pick_back]
  first
    | exact wpAny_bind (m := Builtin.Tuple.tupleExact _) (wpAny_newObj_type (wpAny_pure ⟨_, rfl, wpAny_pure h⟩) room)
    | exact wpAny_bind (m := Builtin.Tuple.tupleExact _) (wpAny_newObj_type (wpAny_bind (wpAny_pure (wpAny_pure ⟨_, rfl, wpAny_pure h⟩))) room)
def tRevT (K : PySem.W.Frag) (te : TE) : TE := fun σ H Q => te σ H fun x H1 => ∃ a xs, x = .ref a ∧ SqT K H1 a xs ∧ ∀ p, H1 p = none → Q (.ref p) (upd H1 p (.tup xs.reverse))
section
variable {X : Cx} {a b c e : Expr} {es : List Expr} {pos p p1 p2 p3 : Pos} {ta tb tc : DT} {tl : DLs} {t : DA0}
theorem pe_revT {te : TE} {k : Nat} (he : PE X e te) : PE X (.Subscript e (.Slice none none (some (.UnaryOp .USub (.Constant (.int 1) k p1) p2)) p3) pos) (tRevT X.K te) := by
  refine ⟨fun pins s σ H Q I h => ?_⟩
  refine Subscript_ (thn (he.run pins s σ H _ I h) fun v s1 ⟨x, H1, I1, r1, a, xs, ex, hx, q⟩ => ?_)
  subst ex
  obtain rfl : v = .ref a := r1
  have back : PO X (some (.UnaryOp .USub (.Constant (.int 1) k p1) p2)) (tPart (tUn (rU fun i => .int (-i)) (tC (.int 1)))) := po_some (pe_un un_neg pe_int)
  refine wpAny_Slice (thn (po_none.run pins s1 σ H1 (fun o H2 => o = none ∧ H2 = H1) I1 ⟨rfl, rfl⟩) fun vl s2 ⟨l, H2, I2, pl, el, e2⟩ => ?_)
  subst el e2
  refine thn (po_none.run pins s2 σ H2 (fun o H3 => o = none ∧ H3 = H2) I2 ⟨rfl, rfl⟩) fun vu s3 ⟨u, H3, I3, pu, eu, e3⟩ => ?_
  subst eu e3
  refine thn (back.run pins s3 σ H3 (fun o H4 => o = some (-1) ∧ H4 = H3) I3 ⟨1, rfl, -1, rfl, rfl, rfl⟩) fun vs s4 ⟨o, H4, I4, ps, eo, e4⟩ => ?_
  subst eo e4
  have I5 : Inv X pins σ H4 { s4 with heap := s4.heap.push { cls := .type "slice", data := .fields #[vl, vu, vs] } } := I4.kept (t' := s4.toks) fun b ob q => Heap.get?_push_of_some _ q
  obtain ⟨its, r, ht, hz⟩ := I5.tuple hx
  have hlen := r.length
  show wpAny (model X.prog X.w) X.A (subscriptTail e (.Slice none none (some (.UnaryOp .USub (.Constant (.int 1) k p1) p2)) p3) (.ref a) (.ref s4.heap.objs.size)) (EP X pins σ Q) X.xe { s4 with heap := s4.heap.push { cls := .type "slice", data := .fields #[vl, vu, vs] } }
  refine tail_any (ops := [.ref a, .ref s4.heap.objs.size]) ht.typeIs (PyProof.Rows.slot_tuple_getitem.lookup) ?_ (by with_unfolding_all rfl)
  refine getItem_back ht (Heap.IsSliceOf.new _ vl vu vs) pl pu ps ?_ (by rw [List.size_toArray]; omega)
  exact ⟨.ref _, _, I5.laid (t' := s4.toks) (o := .tup xs.reverse) (fun b ob q => Heap.get?_push_of_some _ q) (Nat.le_refl _) ⟨by rw [List.length_reverse]; exact hz, _, r.reverse, IsTup.new _ _⟩, rfl, q _ (I5.hok.fresh (Nat.le_refl _))⟩
def dRev (te : DT) : DT := fun env Q => te env fun d => match d with
  | .tup ds => Q (.tup ds.reverse)
  | _ => False
theorem de_rev {te : DT} {k : Nat} (he : DE X e te) : DE X (.Subscript e (.Slice none none (some (.UnaryOp .USub (.Constant (.int 1) k p1) p2)) p3) pos) (dRev te) := by
  refine ⟨fun env P P' i q => he.mono env _ _ (fun d q => ?_) q, PE.imp (pe_revT he.pe) fun σ H Q ⟨dk, B, pn, env, R, q⟩ => ?_⟩
  · cases d <;> first | exact q.elim | exact i _ q
  · refine ⟨dk, B, pn, env, R, he.mono env _ _ (fun d q v H1 e1 r1 => ?_) q⟩
    cases d <;> first | exact q.elim | skip
    cases r1 with
    | tup s1 t1 =>
      rename_i A xs
      refine ⟨A, xs, rfl, s1, fun p hp => ?_⟩
      have ex := Ext.new (dk := dk) (R.to e1).inv hp (o := .tup xs.reverse)
      exact q _ _ (e1.trans ex) (.tup (SqT.of upd_same) (t1.rev.to ex.tup))
end
end DL

set_option maxRecDepth 100000
namespace DL
open PySem PySem.Spec PyProof.Rows L2
section
variable {X : Cx} {a b c e : Expr} {es : List Expr} {pos p p2 : Pos} {ta tb tc te : DT} {tl : DLs} {t : DA0}
/-! ### a number at the module's top -/
theorem de_gint {x : Str} {i : Int} (hg : Gl X x) (hm : ∃ t, X.mg x = some (.int i t)) (hd : (x == ("__debug__" : Str)) = false := by decide) : DE X (.Name x pos) (dC (.int i)) := by
  obtain ⟨t, h⟩ := hm
  exact de_of (pe_glob (v := .int i) hg h ⟨t, rfl⟩ hd) fun _ => .int i
/-! ### one new list or the other -/
def lIf (t : DB) (ta tb : DLs) : DLs := fun env Q => t env fun x => if x = true then ta env Q else tb env Q
theorem dn_if {t : DB} {ta tb : DLs} (h : DC X c t) (ha : DN X a ta) (hb : DN X b tb) : DN X (.IfExp c a b pos) (lIf t ta tb) := by
  refine ⟨fun env P P' i q => h.mono env _ _ (fun x q => ?_) q, PE.imp (pe_ifExp h.pt ha.pe hb.pe) fun σ H Q ⟨dk, B, pn, env, R, q⟩ => ?_⟩
  · cases x with
    | true => exact ha.mono env P P' i q
    | false => exact hb.mono env P P' i q
  · refine ⟨dk, B, pn, env, R, h.mono env _ _ (fun x q H1 e1 => ?_) q⟩
    cases x with
    | true =>
      rw [if_pos rfl] at q ⊢
      exact ⟨dk, B, pn, env, R.to e1, ha.mono env _ _ (fun y k v H2 n e2 r => k v H2 (e1.none_back R.inv n) (e1.trans e2) r) q⟩
    | false =>
      rw [if_neg Bool.false_ne_true] at q ⊢
      exact ⟨dk, B, pn, env, R.to e1, hb.mono env _ _ (fun y k v H2 n e2 r => k v H2 (e1.none_back R.inv n) (e1.trans e2) r) q⟩
theorem dg_tupK {K' : PySem.W.Frag} {es : List Expr} {is : List Nat} {k : Nat} {pos : Pos} (hK : X.K = K') (h : PG X (.Tuple es k pos) (gTup X.K is.length (gNames is))) : DG X (.Tuple es k pos) (.tup is) (gTup K' is.length (gNames is)) := by
  subst hK
  exact dg_tup h
/-! ### the script, a part of it -/
theorem Ext.sql {K : PySem.W.Frag} {dk : Option Dk} {H H' : Hp} {a : Addr} {xs : List V} (e : Ext dk H H') (n : ¬ inDk dk a) (h : SqL K H a xs) : SqL K H' a xs := by
  rcases h with h | h
  · exact .inl (e.rd n h)
  · exact .inr h
def lScr (i : Nat) (tlo thi : DO0) : DLs := fun env Q => match env[i]? with
  | some (some (.scr ns)) => tlo env fun l => thi env fun u => Q (cutD (ns.map D.int) l u)
  | _ => False
variable {lo hi : Option Expr} {tlo thi : DO0}
theorem dn_slScr {i : Nat} (he : PE X e (tVar i)) (hl : DO X lo tlo) (hu : DO X hi thi) : DN X (.Subscript e (.Slice lo hi none p2) pos) (lScr i tlo thi) := by
  refine ⟨fun env P P' j q => ?_, PE.imp (pe_slice sl_list he hl.po hu.po) fun σ H Q ⟨dk, B, pn, env, R, q⟩ => ?_⟩
  · unfold lScr at q ⊢
    split at q
    · exact hl.mono env _ _ (fun l q => hu.mono env _ _ (fun u q => j _ q) q) q
    · exact q.elim
  · unfold lScr at q
    split at q
    · rename_i ns hi
      obtain ⟨v, hv, A, rfl, nA, sA⟩ := R.ok _ _ hi
      refine ⟨_, hv, dk, B, pn, env, R, hl.mono env _ _ (fun l q H2 e2 => ?_) q⟩
      have R2 := R.to e2
      refine ⟨dk, B, pn, env, R2, hu.mono env _ _ (fun u q H3 e3 => ?_) q⟩
      have R3 := R2.to e3
      have ee := e2.trans e3
      refine ⟨A, _, rfl, R3.ext.sql nA sA, fun p hp => ?_⟩
      have ex : Ext dk H3 (upd H3 p (.lst (cutV (ns.map V.int) l u))) := Ext.new R3.inv hp
      exact q p _ (ee.none_back R.inv hp) (ee.trans ex) ⟨_, upd_same, cut_all (IsAll.ints ns)⟩
    · exact q.elim
/-! ### the deck is made -/
def tDk (K : PySem.W.Frag) (t1 t2 : DLs) (t3 : DT) : TE := fun σ H Q => ∃ dk B pn env, Rel K dk B pn σ H env ∧ t1 env fun xs => t2 env fun ys => t3 env fun z => ∀ a0 a1 p v H',
  (p ≠ a0 ∧ p ≠ a1 ∧ a0 ≠ a1) → OwnAt K H' a0 xs → OwnAt K H' a1 ys → H' p = some (.lst [.ref a0, .ref a1, v]) → IsD K H' z v → Ext dk H H' → Q (.ref p) H'
theorem pe_dk {t1 t2 : DLs} {t3 : DT} (h1 : DN X a t1) (h2 : DN X b t2) (h3 : DE X c t3) (s1 : starEach [a, b, c] X.env = (false, eval a X.env) :: starEach [b, c] X.env := by rfl) (s2 : starEach [b, c] X.env = (false, eval b X.env) :: starEach [c] X.env := by rfl)
    (s3 : starEach [c] X.env = (false, eval c X.env) :: starEach [] X.env := by rfl) : PE X (.List [a, b, c] pos) (tDk X.K t1 t2 t3) := by
  refine PE.imp (pe_lst (pa_cons h1.pe (pa_cons h2.pe (pa_cons h3.pe pa_nil s3) s2) s1)) fun σ H Q ⟨dk, B, pn, env, R, q⟩ => ?_
  refine ⟨dk, B, pn, env, R, h1.mono env _ _ (fun xs q a0 H1 n0 e1 o0 => ?_) q⟩
  have R1 := R.to e1
  refine ⟨dk, B, pn, env, R1, h2.mono env _ _ (fun ys q a1 H2 n1 e2 o1 => ?_) q⟩
  have R2 := R1.to e2
  refine ⟨dk, B, pn, env, R2, h3.mono env _ _ (fun z q v H3 e3 r3 => ?_) q⟩
  have R3 := R2.to e3
  refine ⟨by show 3 ≤ sizeLine; decide, fun p hp => ?_⟩
  have ex : Ext dk H3 (upd H3 p (.lst [.ref a0, .ref a1, v])) := Ext.new R3.inv hp
  have d0 := notDk_none R.inv n0
  have d1 := notDk_none R1.inv n1
  obtain ⟨us, g0, k0⟩ := o0
  obtain ⟨ws, g1, k1⟩ := o1
  have z0 := (e2.trans e3).keep _ _ g0 d0
  have z1 := e3.keep _ _ g1 d1
  have ne0 : p ≠ a0 := fun z => by rw [z, z0] at hp; cases hp
  have ne1 : p ≠ a1 := fun z => by rw [z, z1] at hp; cases hp
  have ne2 : a0 ≠ a1 := fun z => by rw [z, n1] at g0; cases g0
  exact q a0 a1 p v _ ⟨ne0, ne1, ne2⟩ ⟨us, by rw [upd_ne ne0.symm]; exact z0, k0.to ((e2.trans e3).trans ex).tup⟩ ⟨ws, by rw [upd_ne ne1.symm]; exact z1, k1.to (e3.trans ex).tup⟩ upd_same (IsD.to ex.tup r3) (((e1.trans e2).trans e3).trans ex)
end
/-! ### the law's def -/
section
variable {P : Program} {w : World} {K : PySem.W.Frag} {mg : Str → Option Value} {base : Heap} {x : Str} {st : Stmt} {f : Addr} {fd : FuncData} {ps N : List Str} {k : Nat} {sp : Sp}
theorem okG (F : FnP K x st f fd) (S : FnScope N ps (defScope st)) (many : ∀ vs H Q E, sp vs H Q E → vs.length = ps.length)
    (read : ∀ (cdv : Value) (A : Around) (fr : List Env) (s : Shared) (H : Hp) (vs : List V) (Q : VK) (E : XK), A.guards = some [] → Room k (A.deeper (envOfC x (defScope st) s.heap.objs.size f cdv)) → sp vs H Q E →
      ∃ t, PSs (cxOf CX0 P w K mg base N x (defScope st) f cdv A fr s H E) (defBody st) t ∧ t { nx := fun _ H' => Q .non H', rt := Q } (L2.start N vs) H) : FnG P w K mg base (k + 1) f fd ps sp := by
  obtain ⟨oc, od, dV, kV, doc, pm, an, cdv, ct, osl, rfl, lk, hcd, _, _⟩ := F.ex
  exact fnG_of lk hcd S many fun A fr s H vs Q E hG hr hsp => read cdv A fr s H vs Q E hG hr hsp
/-- the deck's def: from the script a deck -/
def spDeck (K : PySem.W.Frag) : Sp := fun vs H Q _ => ∃ (a : Addr) (ns : List Int), vs = [.ref a] ∧ SqL K H a (ns.map V.int) ∧ ns.length ≤ 63 ∧ ∀ k xs ys H', DkAt k H' xs ys 0 → Q (.ref k.d) H'
/-- the law: any script of at most 63 whole numbers -/
def spLaw (K : PySem.W.Frag) : Sp := fun vs H Q _ => ∃ (a : Addr) (ns : List Int), vs = [.ref a] ∧ SqL K H a (ns.map V.int) ∧ ns.length ≤ 63 ∧ ∀ H', Q (.bl true) H'
/-- a def's frame at its start, its one argument the script -/
theorem rel_scr {H : Hp} {a : Addr} {ns : List Int} {N : List Str} (h : SqL K H a (ns.map V.int)) : Rel K none H ⟨[], []⟩ (L2.start N [.ref a]) H (some (.scr ns) :: List.replicate (N.length - 1) none) := by
  have f : ∀ {j : Nat} {sv : Sv}, (some (Sv.scr ns) :: List.replicate (N.length - 1) none)[j]? = some (some sv) → j = 0 ∧ sv = .scr ns := fun {j sv} e => by
    cases j with
    | zero =>
      cases e
      exact ⟨rfl, rfl⟩
    | succ j =>
      rw [List.getElem?_cons_succ, List.getElem?_replicate] at e
      split at e <;> cases e
  refine ⟨?_, fun j sv e => ?_, fun p q a ds o ds' e1 _ => (by cases (f e1).2), fun p hp => absurd hp List.not_mem_nil, fun p hp => absurd hp List.not_mem_nil, fun p hp => absurd hp List.not_mem_nil, Ext.refl H, trivial, trivial⟩
  · unfold L2.start
    simp [Nat.add_comm]
  · obtain ⟨rfl, rfl⟩ := f e
    exact ⟨_, rfl, a, rfl, fun z => z, h⟩
/-- the law's frame once the deck stands in its slot -/
theorem rel_deck {H : Hp} {k : Dk} {a : Addr} {xs ys : List Int} {c : Int} {N : List Str} (hN : 2 ≤ N.length) (h : DkAt k H xs ys c) : Rel K (some k) H ⟨[], []⟩ ((L2.start N [.ref a]).set 1 (some (.ref k.d))) H (none :: some .deck :: List.replicate (N.length - 2) none) := by
  have f : ∀ {j : Nat} {sv : Sv}, (none :: some Sv.deck :: List.replicate (N.length - 2) none)[j]? = some (some sv) → j = 1 ∧ sv = .deck := fun {j sv} e => by
    match j, e with
    | 1, e =>
      cases e
      exact ⟨rfl, rfl⟩
    | j + 2, e =>
      rw [List.getElem?_cons_succ, List.getElem?_cons_succ, List.getElem?_replicate] at e
      split at e <;> cases e
  have len : (L2.start N [.ref a]).length = N.length := by
    unfold L2.start
    rw [List.length_append, List.length_map, List.length_replicate, List.length_singleton]
    omega
  refine ⟨?_, fun j sv e => ?_, fun p q a ds o ds' e1 _ => (by cases (f e1).2), fun p hp => absurd hp List.not_mem_nil, fun p hp => absurd hp List.not_mem_nil, fun p hp => absurd hp List.not_mem_nil, Ext.refl H, ⟨_, _, _, h⟩, ⟨_, _, _, h⟩⟩
  · rw [List.length_set, len, List.length_cons, List.length_cons, List.length_replicate]
    omega
  · obtain ⟨rfl, rfl⟩ := f e
    exact ⟨_, by rw [List.getElem?_set, if_pos rfl, if_pos (by rw [len]; omega)], k, rfl, rfl⟩
end
end DL

set_option maxRecDepth 100000
namespace DL
open PySem PySem.Spec PyProof.Rows L2
/-! ### walking a list that is data -/
theorem walkD_frz {K : PySem.W.Frag} {dk : Option Dk} {B : Hp} {pn : Pn} {a : Addr} {ds : List D} (h : (D.lst ds, V.ref a) ∈ pn.v) : WalkD K dk B pn (Itl K a) ds := by
  refine ⟨fun H => IsD K H (.lst ds) (.ref a), fun i H x H' => H' = H ∧ ∃ d, ds[i]? = some d ∧ IsD K H d x, ⟨fun i H hi g => ?_, fun H g => ?_, fun i H x H' hi g y => ?_⟩, fun σ H env R => R.vals _ h, fun i H x H' hi g I y => ?_⟩
  · cases g with
    | lst _ s t =>
      rename_i o xs na0
      have hx : i < xs.length := by rw [← t.length]; exact hi
      exact ⟨xs, xs[i], .inl (.inr ⟨_, s⟩), by simp [hx]⟩
  · cases g with
    | lst _ s t => exact ⟨_, .inl (.inr ⟨_, s⟩), Nat.le_of_eq t.length.symm⟩
  · cases g with
    | lst _ s t =>
      obtain ⟨d, e, z⟩ := t.get' i (y.2 _ (.inl (.inr ⟨_, s⟩)))
      exact ⟨y.1, d, e, z⟩
  · obtain ⟨rfl, d, e, z⟩ := y
    exact ⟨Ext.refl _, d, e, z⟩
def iLstD (te : DT) : DI0 := fun env Q => te env fun d => match d with
  | .lst ds => Q env ds
  | _ => False
section
variable {X : Cx} {tg a b c e : Expr} {te : DT}
theorem di_lstD (h : DE X e te) : DI X tg e (iLstD te) := by
  refine ⟨fun env P P' i q => h.mono env _ _ (fun d q => ?_) q, PI.imp (pi_list h.pe) fun σ H R' ⟨dk, B, pn, env, R, q⟩ => ?_⟩
  · cases d <;> first | exact q.elim | exact i _ _ q
  · refine ⟨dk, B, pn, env, R, h.mono env _ _ (fun d q v H' ex r => ?_) q⟩
    cases d <;> first | exact q.elim | skip
    have r' := r
    cases r with
    | lst _ s tt =>
      rename_i ds a o xs na0
      exact ⟨a, rfl, ⟨xs, .inl (.inr ⟨_, s⟩)⟩, q _ H' ⟨pn.l, (.lst ds, .ref a) :: pn.v⟩ ⟨fun z hz => hz, fun _ hz => List.mem_cons_of_mem _ hz⟩ ex ((R.to ex).pinV r') (walkD_frz List.mem_cons_self)⟩
end
end DL

namespace DL
open PySem PySem.Spec PyProof.Rows L2
/-! ### sorted(set(rows)), sorted(rows): fewer than 64 rows of d whole numbers from 0 on, below B -/
def rowD (r : List Int) : D := .tup (r.map D.int)
theorem IsAll.rows {K : PySem.W.Frag} {H : Hp} : ∀ {rs : List (List Int)} {vs : List V}, IsAll K H (rs.map rowD) vs → ∃ ks : List (Addr × List Int), vs = ks.map (fun p => V.ref p.1) ∧ rs = ks.map (·.2) ∧ ∀ p ∈ ks, SqT K H p.1 (p.2.map V.int)
  | [], _, t => by
    cases t
    exact ⟨[], rfl, rfl, fun p h => absurd h List.not_mem_nil⟩
  | r :: rs, _, t => by
    cases t with
    | cons h t =>
      obtain ⟨ks, rfl, rfl, q⟩ := t.rows
      cases (show IsD K H (.tup (r.map D.int)) _ from h) with
      | tup s l =>
        rename_i a xs
        rw [l.ints_inv] at s
        exact ⟨(a, r) :: ks, rfl, rfl, fun p hp => by
          rcases List.mem_cons.mp hp with rfl | hp
          · exact s
          · exact q p hp⟩
theorem IsAll.of_rows {K : PySem.W.Frag} {H : Hp} : ∀ {ks : List (Addr × List Int)}, (∀ p ∈ ks, SqT K H p.1 (p.2.map V.int)) → IsAll K H (ks.map fun p => rowD p.2) (ks.map fun p => V.ref p.1)
  | [], _ => .nil
  | p :: ks, h => .cons (.tup (h p List.mem_cons_self) (IsAll.ints _)) (IsAll.of_rows fun q hq => h q (List.mem_cons_of_mem _ hq))
def RowsOk (d : Nat) (B : Int) (rs : List (List Int)) : Prop := rs.length < 64 ∧ 1 ≤ d ∧ ∀ r ∈ rs, r.length = d ∧ TS.Bd B r
/-- each once, ascending -/
def SortedOf (B : Int) (rs ys : List (List Int)) : Prop := (∀ r, r ∈ ys ↔ r ∈ rs) ∧ ys.Nodup ∧ ys.Pairwise fun q r => TS.code B q ≤ TS.code B r
def lSortSet (tl : DLs) : DLs := fun env Q => tl env fun ds => ∃ (rs : List (List Int)) (d : Nat) (B : Int), ds = rs.map rowD ∧ RowsOk d B rs ∧ ∀ ys, SortedOf B rs ys → Q (ys.map rowD)
section
variable {X : Cx} {e : Expr} {tl : DLs} {pos p p2 p3 : Pos}
theorem dn_sortset {k : Nat} (hr : Room k X.A) (hc : X.calm = true) (hg : Gl X "sorted") (hm : X.mg "sorted" = none) (hg2 : Gl X "set") (hm2 : X.mg "set" = none) (h : DR X e tl)
    (s1 : starEach [e] X.env = (false, eval e X.env) :: starEach [] X.env := by rfl) (s2 : starEach [.Call (.Name "set" p2) [e] [] p3] X.env = (false, eval (.Call (.Name "set" p2) [e] [] p3) X.env) :: starEach [] X.env := by rfl) :
    DN X (.Call (.Name "sorted" p) [.Call (.Name "set" p2) [e] [] p3] [] pos) (lSortSet tl) := by
  refine ⟨fun env P P' i q => h.mono env _ _ (fun ds ⟨rs, d, B, e, c, q⟩ => ⟨rs, d, B, e, c, fun ys hy => i _ (q ys hy)⟩) q,
    PE.imp (pe_callB (cr_sortedT hc) hg hm (by decide +kernel) (pa_cons (pe_callTy (cr_setOfT hc hr.units) hg2 hm2 (by decide +kernel) (pa_cons h.pe pa_nil s1) (by decide) (by decide) s1 (by rfl)) pa_nil s2) (by decide) (by decide) s2 (by rfl)) fun σ H Q ⟨dk, Bh, pn, env, R, q⟩ => ?_⟩
  refine ⟨dk, Bh, pn, env, R, h.mono env _ _ (fun ds q a H1 n1 e1 r1 => ?_) q⟩
  obtain ⟨rs, d, B, rfl, ⟨h64, hd, hB⟩, q⟩ := q
  obtain ⟨xs, rd, t⟩ := r1
  obtain ⟨ks, rfl, rfl, hk⟩ := t.rows
  have R1 := R.to e1
  refine ⟨a, ks, rfl, .inl rd, hk, by rw [List.length_map] at h64; exact h64, fun A L nA hsub hall => ?_⟩
  have x1 : Ext dk H1 (upd H1 A (SetTO X.prog X.w A L)) := Ext.new R1.inv nA
  refine ⟨A, L, d, B, rfl, upd_same, fun q hq => x1.tup.sq (hk q (hsub q hq)), hd, fun q hq => hB _ (List.mem_map.mpr ⟨q, hsub q hq, rfl⟩), fun L' P hp nd hl hs nP => ?_⟩
  have x2 : Ext dk (upd H1 A (SetTO X.prog X.w A L)) (upd (upd H1 A (SetTO X.prog X.w A L)) P (.lst (L'.map fun q => V.ref q.1))) := Ext.new ((R1.to x1).inv) nP
  have y := q (L'.map (·.2)) ⟨fun r => ⟨fun hr' => ?_, fun hr' => ?_⟩, nd, List.pairwise_map.mpr hs⟩
  · have hv : (L'.map fun p => rowD p.2) = (L'.map (·.2)).map rowD := by
      rw [List.map_map]
      rfl
    refine y P _ (((e1.trans x1)).none_back R.inv nP) ((e1.trans x1).trans x2) ⟨_, upd_same, ?_⟩
    rw [← hv]
    exact IsAll.of_rows fun q hq => (x1.trans x2).tup.sq (hk q (hsub q (hp.mem_iff.mp hq)))
  · obtain ⟨q', hq', rfl⟩ := List.mem_map.mp hr'
    exact List.mem_map.mpr ⟨q', hsub q' (hp.mem_iff.mp hq'), rfl⟩
  · obtain ⟨q', hq', rfl⟩ := List.mem_map.mp hr'
    obtain ⟨q2, hq2, e2⟩ := List.mem_map.mp (hall q' hq')
    exact List.mem_map.mpr ⟨q2, hp.mem_iff.mpr hq2, e2⟩
end
end DL

namespace DL
open PySem PySem.Spec PyProof.Rows L2
theorem perm_back {α β : Type} {f : α → β} {ys zs : List β} (h : zs.Perm ys) : ∀ ks : List α, ys = ks.map f → ∃ ks' : List α, ks'.Perm ks ∧ zs = ks'.map f := by
  induction h with
  | nil => intro ks e; exact ⟨ks, List.Perm.refl _, e⟩
  | cons x p ih =>
    intro ks e
    cases ks with
    | nil => cases e
    | cons k ks =>
      rw [List.map_cons] at e
      cases e
      obtain ⟨k', q, e'⟩ := ih ks rfl
      exact ⟨k :: k', q.cons _, by rw [e', List.map_cons]⟩
  | swap x y l =>
    intro ks e
    match ks, e with
    | a :: b :: ks, e =>
      rw [List.map_cons, List.map_cons] at e
      cases e
      exact ⟨b :: a :: ks, List.Perm.swap _ _ _, rfl⟩
    | [a], e => cases e
    | [], e => cases e
  | trans p q ih1 ih2 =>
    intro ks e
    obtain ⟨k1, q1, e1⟩ := ih2 ks e
    obtain ⟨k2, q2, e2⟩ := ih1 k1 e1
    exact ⟨k2, q2.trans q1, e2⟩
def rSortA (K : PySem.W.Frag) : List V → Hp → VK → Prop := fun vs H Q => ∃ (d : Nat) (B : Int), 1 ≤ d ∧ rSortU K d B vs H Q
theorem cr_sortA {X : Cx} : CallR X (.builtin "sorted") (rSortA X.K) := by
  intro pins s σ H vs us Q I r ⟨d, B, hd, h⟩
  exact cr_sortT hd pins s σ H vs us Q I r h
def gSorted : G1 (List D) := fun as Q => match as with
  | [.lst ds] => ∃ (rs : List (List Int)) (d : Nat) (B : Int), ds = rs.map rowD ∧ RowsOk d B rs ∧ ∀ ys : List (List Int), ys.Perm rs → ys.Pairwise (fun q r => TS.code B q ≤ TS.code B r) → Q (ys.map rowD)
  | _ => False
theorem cbSorted {K : PySem.W.Frag} : CbN K (rSortA K) gSorted := by
  refine ⟨fun as P P' i q => ?_, fun dk H as vs Q I r q => ?_⟩
  · unfold gSorted at q ⊢
    split at q
    · obtain ⟨rs, d, B, e, c, q⟩ := q
      exact ⟨rs, d, B, e, c, fun ys h1 h2 => i _ (q ys h1 h2)⟩
    · exact q.elim
  · unfold gSorted at q
    split at q
    · cases r with
      | cons h t =>
        cases t
        obtain ⟨A, rfl, n, xs, rr, l⟩ := h
        obtain ⟨rs, d, B, rfl, ⟨h64, hd, hB⟩, q⟩ := q
        obtain ⟨ks, rfl, rfl, hk⟩ := l.rows
        refine ⟨d, B, hd, A, _, rfl, .inl rr, by rw [List.length_map] at h64 ⊢; exact h64, fun x hx => ?_, fun ys P hp hw nP => ?_⟩
        · obtain ⟨p, hm, rfl⟩ := List.mem_map.mp hx
          exact ⟨p.2, ⟨_, rfl, hk p hm⟩, hB _ (List.mem_map.mpr ⟨p, hm, rfl⟩)⟩
        · obtain ⟨ks', pm, rfl⟩ := perm_back hp ks rfl
          have hk' : ∀ p ∈ ks', SqT K H p.1 (p.2.map V.int) := fun p hm => hk p (pm.mem_iff.mp hm)
          have x1 : Ext dk H (upd H P (.lst (ks'.map fun p => V.ref p.1))) := Ext.new I nP
          have y := q (ks'.map (·.2)) (pm.map _) ?_
          · refine y P _ nP x1 ⟨_, upd_same, ?_⟩
            have hv : (ks'.map fun p => rowD p.2) = (ks'.map (·.2)).map rowD := by
              rw [List.map_map]
              rfl
            rw [← hv]
            exact IsAll.of_rows fun p hm => x1.tup.sq (hk' p hm)
          · rw [List.pairwise_map]
            rw [List.pairwise_map] at hw
            exact List.Pairwise.imp_of_mem (fun {a b} ha hb h => h a.2 b.2 ⟨_, rfl, hk' a ha⟩ ⟨_, rfl, hk' b hb⟩) hw
    · exact q.elim
section
variable {X : Cx} {e : Expr} {t : DA0} {pos p : Pos}
theorem dn_sorted (hg : Gl X "sorted") (hm : X.mg "sorted" = none) (ha : DA X [e] t) (he : starEach [e] X.env = (false, eval e X.env) :: starEach [] X.env := by rfl) : DN X (.Call (.Name "sorted" p) [e] [] pos) (aCall gSorted t) :=
  dn_cb cr_sortA cbSorted hg hm (by decide +kernel) ha (by decide) (by decide) he
end
end DL

set_option maxRecDepth 100000
set_option maxHeartbeats 4000000
namespace DL
open PySem PySem.Spec PyProof.Rows L2
/-! ### a list that is data, read as a list -/
def zL (te : DT) : DLs := fun env Q => te env fun d => match d with
  | .lst ds => Q ds
  | _ => False
section
variable {X : Cx} {a b c e : Expr} {es : List Expr} {pos p p2 : Pos} {ta tb tc te : DT} {tl : DLs} {t : DA0}
theorem dr_z (h : DE X e te) : DR X e (zL te) := by
  refine ⟨fun env P P' i q => h.mono env _ _ (fun d q => ?_) q, PE.imp h.pe fun σ H Q ⟨dk, B, pn, env, R, q⟩ => ⟨dk, B, pn, env, R, h.mono env _ _ (fun d q v H1 e1 r1 => ?_) q⟩⟩
  · cases d <;> first | exact q.elim | exact i _ q
  · cases d <;> first | exact q.elim | skip
    cases r1 with
    | lst na s t =>
      refine q _ H1 (fun z => ?_) e1 ⟨_, .inr ⟨_, s⟩, t⟩
      obtain ⟨ys, y⟩ := inDk_some (R.to e1).inv z
      rw [s] at y
      cases y
/-! ### lists that are data, put together, many times over -/
def rCatZ : R2 := fun x y H Q => ∃ l b xs zs, x = .ref l ∧ y = .ref b ∧ Rd H l (.lst xs) ∧ Rd H b (.lst zs) ∧ xs.length + zs.length ≤ sizeLine ∧ ∀ p o, H p = none → p ≠ sysModules → Q (.ref p) (upd H p (.frz o (.lst (xs ++ zs))))
theorem frz_new {pins : List (Addr × Obj)} {σ : L2.St} {H : Hp} {s : Shared} {ys : List V} {its : List Value} {Q : VK} (I : Inv X pins σ H s) (hv : Vals ys its) (hz : ys.length ≤ sizeLine) (q : ∀ p o, H p = none → p ≠ sysModules → Q (.ref p) (upd H p (.frz o (.lst ys)))) :
    EP X pins σ Q (.ref s.heap.objs.size) { s with heap := s.heap.push { cls := .type "list", data := .seq its.toArray } } := by
  have held : (s.heap.push { cls := .type "list", data := .seq its.toArray }).get? s.heap.objs.size = some { cls := .type "list", data := .seq its.toArray } := Heap.get?_push_size _ rfl
  exact ⟨.ref _, _, I.laid (t' := s.toks) (o := .frz _ (.lst ys)) (fun _ _ q => Heap.get?_push_of_some _ q) (Nat.le_refl _) ⟨held, hz, its, 0, hv, held⟩, rfl, q _ _ I.fresh (Nat.ne_of_gt I.big)⟩
theorem op_catZ : OpR X (binaryOp .Add) rCatZ := by
  intro pins s σ H x y v u Q I rx ry h
  obtain ⟨l, b, xs, zs, rfl, rfl, hl, hb, hz, q⟩ := h
  cases rx
  cases ry
  obtain ⟨z1, its, n, r1, e1⟩ := hl.ok I.hok
  obtain ⟨z2, its2, n2, r2, e2⟩ := hb.ok I.hok
  refine PySem.P.add_list e1 e2 ?_ (by rw [List.size_toArray, List.size_toArray, ← r1.length, ← r2.length]; exact hz)
  rw [show its.toArray ++ its2.toArray = (its ++ its2).toArray by simp]
  exact frz_new I (r1.append r2) (by rw [List.length_append]; exact hz) q
def gCatZ : D → D → (D → Prop) → Prop := fun x y Q => match x, y with
  | .lst i, .lst j => i.length + j.length ≤ 1000000 ∧ Q (.lst (i ++ j))
  | _, _ => False
theorem opCatZ {K : PySem.W.Frag} : OpD K rCatZ gCatZ := by
  refine ⟨fun x y P P' i q => ?_, fun dk H d e x y Q I rx ry q => ?_⟩
  · cases x <;> cases y <;> first | exact q.elim | exact ⟨q.1, i _ q.2⟩
  · cases d <;> cases e <;> first | exact q.elim | skip
    cases rx with
    | lst n1 s1 t1 =>
      cases ry with
      | lst n2 s2 t2 =>
        rename_i ds1 ds2 a1 o1 xs a2 o2 zs
        refine ⟨_, _, _, _, rfl, rfl, .inr ⟨_, s1⟩, .inr ⟨_, s2⟩, sz6 (by rw [← t1.length, ← t2.length]; exact q.1), fun p o hp np => ?_⟩
        have ex := Ext.new (dk := dk) I hp (o := .frz o (.lst (xs ++ zs)))
        exact q.2 _ _ ex (.lst np upd_same ((t1.app t2).to ex.tup))
theorem de_catZ (ha : DE X a ta) (hb : DE X b tb) : DE X (.BinOp a .Add b pos) (dOp gCatZ ta tb) := de_op op_catZ opCatZ ha hb
def rMulZ : R2 := fun x y H Q => ∃ l k xs, x = .ref l ∧ y = .int k ∧ Rd H l (.lst xs) ∧ 0 ≤ k ∧ k ≤ 1000 ∧ xs.length ≤ 1000 ∧ ∀ p o, H p = none → p ≠ sysModules → Q (.ref p) (upd H p (.frz o (.lst (List.replicate k.toNat xs).flatten)))
theorem op_mulZ : OpR X (binaryOp .Mult) rMulZ := by
  intro pins s σ H x y v u Q I rx ry h
  obtain ⟨l, k, xs, rfl, rfl, hl, h1, h2, hx, q⟩ := h
  cases rx
  obtain ⟨t, rfl⟩ := ry
  obtain ⟨z, its, n, r, e⟩ := hl.ok I.hok
  have size : its.toArray.size = xs.length := by rw [List.size_toArray, ← r.length]
  have most : xs.length * k.toNat ≤ sizeLine := Nat.le_trans (Nat.mul_le_mul hx (show k.toNat ≤ 1000 by omega)) (by decide)
  have c1 : ¬ (!Builtin.List.listFitsIndex k) = true := by
    rw [fitsIndex_both (by omega) (by omega)]
    exact Bool.false_ne_true
  have c2 : ¬ its.toArray.size * k.toNat > (2 ^ 63 - 1) / 8 := by
    rw [size]
    have : (sizeLine : Nat) ≤ (2 ^ 63 - 1) / 8 := by decide
    omega
  have c3 : ¬ Builtin.List.listTooLong (its.toArray.size * k.toNat) = true := by
    rw [size, notLongL most]
    exact Bool.false_ne_true
  have out : List.foldl (fun x1 x2 => x1 ++ x2) #[] (List.replicate (if its.toArray.isEmpty = true then 0 else k.toNat) its.toArray) = (List.replicate k.toNat its).flatten.toArray := by
    have f : ∀ m : Nat, List.foldl (fun x1 x2 => x1 ++ x2) #[] (List.replicate m its.toArray) = (List.replicate m its).flatten.toArray := fun m => by
      have y := foldl_rep its m []
      rw [List.nil_append] at y
      exact y
    rw [f]
    cases its with
    | nil => simp
    | cons i its => rw [if_neg (by simp)]
  have mul := AutoListH.list___mul___list_int_3 l its.toArray n k t c1 c2 c3
  refine wpAny_binaryOp_repeat_ref (T := "list") (U := "int") (by decide) ⟨_, e, rfl⟩ (fun s' => typeIs_int s' k t) noFill_list_mul F.fills_int_mul F.slot_int_rmul repeat_list F.slot_int_index.lookup
    (call_meets F.slot_int_rmul (typeIs_int s k t) F.entry_int_rmul (F.args_int_rmul_2 _ _) (int___rmul___int_list k t l its.toArray n) ⟨e, rfl, ⟨_, e, rfl⟩, call_meets F.slot_list_mul ⟨_, e, rfl⟩ F.entry_list_mul (F.args_list_mul_2 _ _) mul ⟨e, ?_⟩⟩)
  rw [out]
  exact frz_new I (r.rep k.toNat) (by rw [PyProof.Rows.lm_len_rep_flat, Nat.mul_comm]; exact most) q
def gMulZ : D → D → (D → Prop) → Prop := fun x y Q => match x, y with
  | .lst ds, .int k => (0 ≤ k ∧ k ≤ 1000 ∧ ds.length ≤ 1000) ∧ Q (.lst (List.replicate k.toNat ds).flatten)
  | _, _ => False
theorem opMulZ {K : PySem.W.Frag} : OpD K rMulZ gMulZ := by
  refine ⟨fun x y P P' i q => ?_, fun dk H d e x y Q I rx ry q => ?_⟩
  · cases x <;> cases y <;> first | exact q.elim | exact ⟨q.1, i _ q.2⟩
  · cases d <;> cases e <;> first | exact q.elim | skip
    obtain ⟨⟨k1, k2, k3⟩, q⟩ := q
    cases ry
    cases rx with
    | lst n1 s1 t1 =>
      rename_i ds k a1 o1 xs
      refine ⟨_, _, _, rfl, rfl, .inr ⟨_, s1⟩, k1, k2, by rw [← t1.length]; exact k3, fun p o hp np => ?_⟩
      have ex := Ext.new (dk := dk) I hp (o := .frz o (.lst (List.replicate k.toNat xs).flatten))
      exact q _ _ ex (.lst np upd_same ((t1.rep _).to ex.tup))
theorem de_mulZ (ha : DE X a ta) (hb : DE X b tb) : DE X (.BinOp a .Mult b pos) (dOp gMulZ ta tb) := de_op op_mulZ opMulZ ha hb
end
/-! ### errors -/
/-- the class called x, its own __init__ keeping one field f -/
structure ErF (P : Program) (K : PySem.W.Frag) (mg : Str → Option Value) (x f : Str) : Prop where
  ex : ∃ (T : Er.ErrT) (fI : Addr) (fd : FuncData), T.f = f ∧ T.Ok ∧ Er.ErrK P K T (He.ga K x) fI fd ∧ (∀ (s : Shared) (a v : Value), BindsTo s fd ⟨[a, v], []⟩ [("self", a), (T.f, v)]) ∧ ∀ (s : Shared) (a v : Value), BindsTo s fd ⟨[a], [(T.f, v)]⟩ [("self", a), (T.f, v)]
  c : ErC K x
  g : XfC K (He.ga K x)
  m : mg x = some (.ref (He.ga K x))
/-- the class called x, without an own __init__ -/
structure ErN (K : PySem.W.Frag) (mg : Str → Option Value) (x : Str) : Prop where
  q : PySem.W.excIn K (He.ga K x) He.veBase "ValueError.__new__" = true
  k : PySem.W.keepIn K (.ref (He.ga K x)) = true
  c : ErC K x
  m : mg x = some (.ref (He.ga K x))
def dErr (x f : Str) (te : DT) : DT := fun env Q => te env fun d => Q (.er1 x f d)
section
variable {X : Cx} {a b c e : Expr} {es : List Expr} {pos p p2 : Pos} {ta tb tc te : DT} {tl : DLs} {t : DA0} {x y f : Str} {kws : List Keyword}
theorem er_mk {T : Er.ErrT} (F : ErF X.prog X.K X.mg x f) (ht : T.f = f) (n : PySem.W.findIn X.K (.ref (He.ga X.K x)) T.f = some none) (he : DE X e te) (σ : L2.St) (H : Hp) (Q : VK) (h : tD X.K (dErr x f te) σ H Q) : Er.tErr (He.ga X.K x) T.f (tD X.K te) σ H Q := by
  obtain ⟨dk, B, pn, env, R, q⟩ := h
  refine ⟨dk, B, pn, env, R, he.mono env _ _ (fun d q v H1 e1 r1 a dx na nd ne => ?_) q⟩
  have R1 := R.to e1
  have x1 : Ext dk H1 (upd H1 dx (exd dx [(T.f, v)])) := Ext.new R1.inv nd
  have na' : upd H1 dx (exd dx [(T.f, v)]) a = none := by
    rw [upd_ne (Ne.symm ne)]
    exact na
  have x2 : Ext dk (upd H1 dx (exd dx [(T.f, v)])) (upd (upd H1 dx (exd dx [(T.f, v)])) a (exo a (He.ga X.K x) (some dx))) := Ext.new ((R1.to x1).inv) na'
  refine q _ _ (e1.trans (x1.trans x2)) (.er1 F.c F.g (by rw [← ht]; exact n) upd_same ?_ (IsD.to (x1.trans x2).tup r1))
  rw [upd_ne ne, upd_same, ht]
theorem dErr_mono (h : Mono te) : Mono (dErr x f te) := fun env P P' i q => h env _ _ (fun d q => i _ q) q
theorem de_err {k : Nat} (F : ErF X.prog X.K X.mg x f) (hr : Room (k + 1) X.A) (hg : Gl X x) (he : DE X e te) (hdb : (x == ("__debug__" : Str)) = false := by decide) (hs : starEach [e] X.env = (false, eval e X.env) :: starEach [] X.env := by rfl) :
    DE X (.Call (.Name x p) [e] [] pos) (dErr x f te) := by
  obtain ⟨T, fI, fd, ht, T1, T2, b1, b2⟩ := F.ex
  exact ⟨dErr_mono he.mono, PE.imp (Er.pe_err T1 T2 hr b1 hg F.m he.pe hdb hs) (er_mk F ht T2.noF he)⟩
theorem de_errK {k : Nat} (F : ErF X.prog X.K X.mg x f) (hr : Room (k + 1) X.A) (hg : Gl X x) (he : DE X e te) (hdb : (x == ("__debug__" : Str)) = false := by decide) (hk : keywordEach kws X.env = [(some f, eval e X.env)] := by rfl) :
    DE X (.Call (.Name x p) [] kws pos) (dErr x f te) := by
  obtain ⟨T, fI, fd, ht, T1, T2, b1, b2⟩ := F.ex
  exact ⟨dErr_mono he.mono, PE.imp (Er.pe_errK T1 T2 hr b2 hg F.m he.pe hdb (by rw [hk, ht])) (er_mk F ht T2.noF he)⟩
theorem de_err0 (F : ErN X.K X.mg x) (hg : Gl X x) (hdb : (x == ("__debug__" : Str)) = false := by decide) : DE X (.Call (.Name x p) [] [] pos) (dC (.er0 x)) := by
  refine ⟨fun _ _ _ i q => i _ q, PE.imp (Er.pe_err0 PySem.F.excBase_ValueError F.q F.k hg F.m hdb) fun σ H Q ⟨dk, B, pn, env, R, q⟩ a na => ?_⟩
  exact q _ _ (Ext.new R.inv na) (.er0 F.c upd_same)
/-- which class -/
def clsOf : D → Option Str
  | .er0 x => some x
  | .er1 x _ _ => some x
  | _ => none
def dIsE (xs : List Str) (g : Str → Bool) (te : DT) : DT := fun env Q => te env fun d => ∃ x, clsOf d = some x ∧ x ∈ xs ∧ Q (.bl (g x))
theorem isE_mk {xs : List Str} {g : Str → Bool} {v : V} {u : Value} (kv : ClsV v u) (tb : ∀ x ∈ xs, PySem.W.kitOne X.K (.ref (He.ga X.K x)) u = some (g x)) (he : DE X e te) (hc : PE X c (tC v)) (hg : Gl X "isinstance") (hm : X.mg "isinstance" = none)
    (hs : starEach [e, c] X.env = (false, eval e X.env) :: starEach [c] X.env) (hs2 : starEach [c] X.env = (false, eval c X.env) :: starEach [] X.env) (hpl : (backTo pos (starEach [c] X.env)).any (·.1) = false) : DE X (.Call (.Name "isinstance" p) [e, c] [] pos) (dIsE xs g te) := by
  refine ⟨fun env P P' i q => he.mono env _ _ (fun d ⟨x, h1, h2, q⟩ => ⟨x, h1, h2, i _ q⟩) q, PE.imp (pe_callB call_isi2 hg hm boot_isinstance (pa_cons he.pe (pa_cons hc pa_nil hs2) hs) (by decide) (by decide) hs hpl) fun σ H Q ⟨dk, B, pn, env, R, q⟩ => ?_⟩
  refine ⟨dk, B, pn, env, R, he.mono env _ _ (fun d ⟨x, h1, h2, q⟩ w H1 e1 r1 => ?_) q⟩
  have ne : d.isEr = true := by
    cases d <;> first | rfl | cases h1
  obtain ⟨y, a, fs, rfl, at_, ec, hd⟩ := r1.erAt ne
  have ey : y = x := by
    rcases hd with rfl | ⟨f, d', rfl⟩ <;> exact Option.some.inj h1
  subst ey
  exact .inr ⟨a, _, fs, v, u, g y, rfl, at_, ec.ex, kv, tb y h2, q _ H1 e1 (.bl _)⟩
theorem de_isE {xs : List Str} {g : Str → Bool} (hy : X.mg y = some (.ref (He.ga X.K y))) (tb : ∀ x ∈ xs, PySem.W.kitOne X.K (.ref (He.ga X.K x)) (.ref (He.ga X.K y)) = some (g x)) (hg : Gl X "isinstance") (hm : X.mg "isinstance" = none) (hgy : Gl X y) (he : DE X e te) (hdb : (y == ("__debug__" : Str)) = false := by decide)
    (hs : starEach [e, .Name y p2] X.env = (false, eval e X.env) :: starEach [.Name y p2] X.env := by rfl) (hs2 : starEach [.Name y p2] X.env = (false, eval (.Name y p2) X.env) :: starEach [] X.env := by rfl) (hpl : (backTo pos (starEach [.Name y p2] X.env)).any (·.1) = false := by rfl) :
    DE X (.Call (.Name "isinstance" p) [e, .Name y p2] [] pos) (dIsE xs g te) := isE_mk (.own _) tb he (pe_glob hgy hy rfl hdb) hg hm hs hs2 hpl
theorem de_isVE {xs : List Str} (tb : ∀ x ∈ xs, PySem.W.kitOne X.K (.ref (He.ga X.K x)) (.type "ValueError") = some true) (hg : Gl X "isinstance") (hm : X.mg "isinstance" = none) (hgy : Gl X "ValueError") (hmy : X.mg "ValueError" = none) (he : DE X e te)
    (hs : starEach [e, .Name "ValueError" p2] X.env = (false, eval e X.env) :: starEach [.Name "ValueError" p2] X.env := by rfl) (hs2 : starEach [.Name "ValueError" p2] X.env = (false, eval (.Name "ValueError" p2) X.env) :: starEach [] X.env := by rfl) (hpl : (backTo pos (starEach [.Name "ValueError" p2] X.env)).any (·.1) = false := by rfl) :
    DE X (.Call (.Name "isinstance" p) [e, .Name "ValueError" p2] [] pos) (dIsE xs (fun _ => true) te) := isE_mk (.ty "ValueError") tb he (pe_bltn (v := .ty "ValueError") hgy hmy PyProof.Rows.Boot.«ValueError» rfl) hg hm hs hs2 hpl
/-- an error's field -/
def dFld (n : Str) (te : DT) : DT := fun env Q => te env fun d => match d with
  | .er1 _ f d' => f = n ∧ Q d'
  | _ => False
theorem de_fld {n : Str} (he : DE X e te) (hb : attributeBase e n X.env (eval e X.env) = eval e X.env := by rfl) : DE X (.Attribute e n pos) (dFld n te) := by
  refine ⟨fun env P P' i q => he.mono env _ _ (fun d q => ?_) q, PE.imp (Er.pe_erF he.pe hb) fun σ H Q ⟨dk, B, pn, env, R, q⟩ => ⟨dk, B, pn, env, R, he.mono env _ _ (fun d q v H1 e1 r1 => ?_) q⟩⟩
  · cases d <;> first | exact q.elim | exact ⟨q.1, i _ q.2⟩
  · cases d <;> first | exact q.elim | skip
    obtain ⟨ef, k⟩ := q
    subst ef
    cases r1 with
    | er1 c g no ha hd r => exact ⟨_, _, _, _, _, rfl, g, no, ha, hd, by simp [List.lookup], k _ H1 e1 r⟩
end
end DL

set_option maxRecDepth 100000
set_option maxHeartbeats 4000000
/-! How great data is, how long what is written of it. -/
namespace LW
open PySem PySem.Spec PyProof.Rows L2 DL
/-! ### sizes -/
mutual
def wt : D → Nat
  | .tup ds => 1 + wts ds
  | .lst ds => 1 + wts ds
  | _ => 1
def wts : List D → Nat
  | [] => 0
  | d :: ds => wt d + wts ds
end
mutual
/-- numbers below b, short texts -/
def lf (b : Nat) : D → Bool
  | .int i => decide (i.natAbs < b)
  | .str x => decide (x.length ≤ 45) && x.cps.toList.all fun c => decide (c < 16 ^ 8)
  | .tup ds => lfs b ds
  | .lst ds => lfs b ds
  | .er0 _ => false
  | .er1 _ _ _ => false
  | _ => true
def lfs (b : Nat) : List D → Bool
  | [] => true
  | d :: ds => lf b d && lfs b ds
end
theorem wt_pos : ∀ d : D, 1 ≤ wt d
  | .tup ds => by show 1 ≤ 1 + wts ds; omega
  | .lst ds => by show 1 ≤ 1 + wts ds; omega
  | .non => Nat.le_refl _
  | .bl _ => Nat.le_refl _
  | .int _ => Nat.le_refl _
  | .str _ => Nat.le_refl _
  | .dic => Nat.le_refl _
  | .er0 _ => Nat.le_refl _
  | .er1 _ _ _ => Nat.le_refl _
theorem len_wts : ∀ ds : List D, ds.length ≤ wts ds
  | [] => Nat.le_refl _
  | d :: ds => by
    show ds.length + 1 ≤ wt d + wts ds
    have h1 := wt_pos d
    have h2 := len_wts ds
    omega
theorem wts_app : ∀ a b : List D, wts (a ++ b) = wts a + wts b
  | [], b => (Nat.zero_add _).symm
  | d :: a, b => by
    show wt d + wts (a ++ b) = wt d + wts a + wts b
    rw [wts_app a b]
    omega
theorem wts_rev : ∀ a : List D, wts a.reverse = wts a
  | [] => rfl
  | d :: a => by
    rw [List.reverse_cons, wts_app, wts_rev a]
    show wts a + (wt d + 0) = wt d + wts a
    omega
theorem lfs_app {b : Nat} : ∀ x y : List D, lfs b (x ++ y) = (lfs b x && lfs b y)
  | [], y => rfl
  | d :: x, y => by
    show (lf b d && lfs b (x ++ y)) = (lf b d && lfs b x && lfs b y)
    rw [lfs_app x y, Bool.and_assoc]
theorem lfs_iff {b : Nat} : ∀ {ds : List D}, lfs b ds = true ↔ ∀ d ∈ ds, lf b d = true
  | [] => ⟨fun _ d h => absurd h List.not_mem_nil, fun _ => rfl⟩
  | e :: ds => by
    show (lf b e && lfs b ds) = true ↔ _
    rw [Bool.and_eq_true, lfs_iff (ds := ds), List.forall_mem_cons]
theorem wts_mem {ds : List D} {d : D} (h : d ∈ ds) : wt d ≤ wts ds := by
  induction ds with
  | nil => exact absurd h List.not_mem_nil
  | cons e ds ih =>
    show wt d ≤ wt e + wts ds
    rcases List.mem_cons.mp h with rfl | h
    · omega
    · have := ih h
      omega
theorem deps_iff {k : Nat} : ∀ {ds : List D}, D.deps ds ≤ k ↔ ∀ d ∈ ds, d.dep ≤ k
  | [] => ⟨fun _ d h => absurd h List.not_mem_nil, fun _ => Nat.zero_le _⟩
  | e :: ds => by
    show max e.dep (D.deps ds) ≤ k ↔ _
    rw [Nat.max_le, deps_iff (ds := ds), List.forall_mem_cons]
/-- how great, how deep, what leaves -/
structure Good (b n k : Nat) (d : D) : Prop where
  w : wt d ≤ n
  p : d.dep ≤ k
  l : lf b d = true
mutual
theorem lf_le {b c : Nat} (h : b ≤ c) : ∀ d : D, lf b d = true → lf c d = true
  | .int i, q => decide_eq_true (Nat.lt_of_lt_of_le (of_decide_eq_true q) h)
  | .str _, q => q
  | .tup ds, q => lfs_le h ds q
  | .lst ds, q => lfs_le h ds q
  | .non, _ => rfl
  | .bl _, _ => rfl
  | .dic, _ => rfl
  | .er0 _, h => by cases (show false = true from h)
  | .er1 _ _ _, h => by cases (show false = true from h)
theorem lfs_le {b c : Nat} (h : b ≤ c) : ∀ ds : List D, lfs b ds = true → lfs c ds = true
  | [], _ => rfl
  | d :: ds, q => by
    obtain ⟨q1, q2⟩ := Bool.and_eq_true_iff.mp (show (lf b d && lfs b ds) = true from q)
    show (lf c d && lfs c ds) = true
    rw [lf_le h d q1, lfs_le h ds q2]
    rfl
end
theorem Good.le {b c n m k j : Nat} {d : D} (g : Good b n k d) (hb : b ≤ c) (hn : n ≤ m) (hk : k ≤ j) : Good c m j d := ⟨Nat.le_trans g.w hn, Nat.le_trans g.p hk, lf_le hb d g.l⟩
/-- a list of such -/
structure GoodL (b n k : Nat) (ds : List D) : Prop where
  w : wts ds ≤ n
  p : D.deps ds ≤ k
  l : lfs b ds = true
theorem Good.tup {b n k : Nat} {ds : List D} (g : GoodL b n k ds) : Good b (n + 1) (k + 1) (.tup ds) := ⟨by have := g.w; show 1 + wts ds ≤ n + 1; omega, by have := g.p; show D.deps ds + 1 ≤ k + 1; omega, g.l⟩
theorem Good.lst {b n k : Nat} {ds : List D} (g : GoodL b n k ds) : Good b (n + 1) (k + 1) (.lst ds) := ⟨by have := g.w; show 1 + wts ds ≤ n + 1; omega, by have := g.p; show D.deps ds + 1 ≤ k + 1; omega, g.l⟩
theorem Good.of_tup {b n k : Nat} {ds : List D} (g : Good b n k (.tup ds)) : ∃ m j, n = m + 1 ∧ k = j + 1 ∧ GoodL b m j ds := by
  have h1 : 1 + wts ds ≤ n := g.w
  have h2 : D.deps ds + 1 ≤ k := g.p
  exact ⟨n - 1, k - 1, by omega, by omega, by omega, by omega, g.l⟩
theorem GoodL.le {b c n m k j : Nat} {ds : List D} (g : GoodL b n k ds) (hb : b ≤ c) (hn : n ≤ m) (hk : k ≤ j) : GoodL c m j ds := ⟨Nat.le_trans g.w hn, Nat.le_trans g.p hk, lfs_le hb ds g.l⟩
theorem GoodL.nil {b : Nat} : GoodL b 0 0 [] := ⟨Nat.le_refl _, Nat.le_refl _, rfl⟩
theorem GoodL.cons {b n m k : Nat} {d : D} {ds : List D} (g : Good b n k d) (h : GoodL b m k ds) : GoodL b (n + m) k (d :: ds) :=
  ⟨Nat.add_le_add g.w h.w, Nat.max_le.mpr ⟨g.p, h.p⟩, by show (lf b d && lfs b ds) = true; rw [g.l, h.l]; rfl⟩
theorem GoodL.app {b n m k : Nat} {x y : List D} (g : GoodL b n k x) (h : GoodL b m k y) : GoodL b (n + m) k (x ++ y) :=
  ⟨by rw [wts_app]; exact Nat.add_le_add g.w h.w, deps_iff.mpr fun d hd => (List.mem_append.mp hd).elim (deps_iff.mp g.p d) (deps_iff.mp h.p d), by rw [lfs_app, g.l, h.l]; rfl⟩
theorem wts_split (x : List D) (i : Nat) : wts (x.take i) + wts (x.drop i) = wts x := by rw [← wts_app, List.take_append_drop]
theorem GoodL.sub {b n k : Nat} {x y : List D} (g : GoodL b n k x) (hw : wts y ≤ wts x) (hm : ∀ d ∈ y, d ∈ x) : GoodL b n k y :=
  ⟨Nat.le_trans hw g.w, deps_iff.mpr fun d hd => deps_iff.mp g.p d (hm d hd), lfs_iff.mpr fun d hd => lfs_iff.mp g.l d (hm d hd)⟩
theorem GoodL.take {b n k : Nat} {x : List D} (g : GoodL b n k x) (i : Nat) : GoodL b n k (x.take i) := g.sub (by have := wts_split x i; omega) fun d hd => List.mem_of_mem_take hd
theorem GoodL.drop {b n k : Nat} {x : List D} (g : GoodL b n k x) (i : Nat) : GoodL b n k (x.drop i) := g.sub (by have := wts_split x i; omega) fun d hd => List.mem_of_mem_drop hd
theorem GoodL.rev {b n k : Nat} {x : List D} (g : GoodL b n k x) : GoodL b n k x.reverse := g.sub (by rw [wts_rev]; exact Nat.le_refl _) fun d hd => List.mem_reverse.mp hd
theorem GoodL.cut {b n k : Nat} {x : List D} (g : GoodL b n k x) (l u : Option Int) : GoodL b n k (DL.cutD x l u) := by
  unfold DL.cutD
  exact (g.drop _).take _
theorem GoodL.mem {b n k : Nat} {x : List D} (g : GoodL b n k x) {d : D} (h : d ∈ x) : Good b n k d := ⟨Nat.le_trans (wts_mem h) g.w, deps_iff.mp g.p d h, lfs_iff.mp g.l d h⟩
theorem cut_take (x : List D) (i : Nat) (hi : i ≤ x.length) : DL.cutD x none (some (i : Int)) = x.take i := by
  unfold DL.cutD
  rw [HT.sIx_none, HT.sIx_nat, List.drop_zero, Nat.sub_zero, Nat.min_eq_left hi]
theorem cut_drop (x : List D) (i : Nat) (hi : i ≤ x.length) : DL.cutD x (some (i : Int)) none = x.drop i := by
  unfold DL.cutD
  rw [HT.sIx_none, HT.sIx_nat, Nat.min_eq_left hi, List.take_of_length_le (by rw [List.length_drop]; exact Nat.le_refl _)]
theorem GoodL.len {b n k : Nat} {x : List D} (g : GoodL b n k x) : x.length ≤ n := Nat.le_trans (len_wts x) g.w
theorem str_lf {b : Nat} {s : String} (h : s.length ≤ 45) : lf b (.str (Str.ofString s)) = true := by
  show (decide ((Str.ofString s).length ≤ 45) && (Str.ofString s).cps.toList.all fun c => decide (c < 16 ^ 8)) = true
  rw [PySem.ofString_length, decide_eq_true h, Bool.true_and, List.all_eq_true]
  intro c hc
  rw [Str.ofString_eq_toList] at hc
  have hc' : c ∈ (s.toList.map Char.toNat) := by simpa using hc
  obtain ⟨ch, _, rfl⟩ := List.mem_map.mp hc'
  refine decide_eq_true ?_
  have : ch.toNat < 1114112 := by
    have v := ch.valid
    unfold UInt32.isValidChar Nat.isValidChar at v
    show ch.val.toNat < 1114112
    omega
  omega
/-! ### what is written of them -/
mutual
theorem shown_wt : ∀ d : D, lf (10 ^ 31) d = true → d.py.showable = true ∧ d.py.shown.length + 2 ≤ 500 * wt d
  | .non, _ => ⟨rfl, by decide⟩
  | .bl true, _ => ⟨rfl, by decide⟩
  | .bl false, _ => ⟨rfl, by decide⟩
  | .int i, h => by
    have h' : i.natAbs < 10 ^ 31 := of_decide_eq_true h
    refine ⟨?_, ?_⟩
    · refine decide_eq_true ?_
      by_cases h0 : i.natAbs = 0
      · rw [h0]
        decide
      · have z : i.natAbs.log2 < 110 := (Nat.log2_lt h0).mpr (by omega)
        omega
    · have z : (Str.ofString (toString i)).length ≤ 32 := by
        have e := int_text_length_le10 (k := 31) (by decide) h'
        rw [PySem.ofString_length]
        exact e
      show (Str.ofString (toString i)).length + 2 ≤ 500 * 1
      omega
  | .str x, h => by
    obtain ⟨h1, h2⟩ := Bool.and_eq_true_iff.mp (show (decide (x.length ≤ 45) && x.cps.toList.all fun c => decide (c < 16 ^ 8)) = true from h)
    refine ⟨rfl, ?_⟩
    have z := StrLaws.reprText_len x (fun c hc => of_decide_eq_true (List.all_eq_true.mp h2 c hc))
    have z1 : x.length ≤ 45 := of_decide_eq_true h1
    show (reprText x).length + 2 ≤ 500 * 1
    omega
  | .tup ds, h => by
    obtain ⟨a, b⟩ := showns_wt ds h
    refine ⟨a, ?_⟩
    have z := tupleText_len_le (PyData.shownAll (D.pys ds))
    show (tupleText (PyData.shownAll (D.pys ds))).length + 2 ≤ 500 * (1 + wts ds)
    omega
  | .lst ds, h => by
    obtain ⟨a, b⟩ := showns_wt ds h
    refine ⟨a, ?_⟩
    have z := listText_len_le (PyData.shownAll (D.pys ds))
    show (listText (PyData.shownAll (D.pys ds))).length + 2 ≤ 500 * (1 + wts ds)
    omega
  | .dic, _ => ⟨rfl, by decide⟩
  | .er0 _, h => by cases (show false = true from h)
  | .er1 _ _ _, h => by cases (show false = true from h)
theorem showns_wt : ∀ ds : List D, lfs (10 ^ 31) ds = true → PyData.showableAll (D.pys ds) = true ∧ ((PyData.shownAll (D.pys ds)).map (·.length)).sum + 2 * (PyData.shownAll (D.pys ds)).length ≤ 500 * wts ds
  | [], _ => ⟨rfl, Nat.zero_le _⟩
  | d :: ds, h => by
    obtain ⟨h1, h2⟩ := Bool.and_eq_true_iff.mp (show (lf (10 ^ 31) d && lfs (10 ^ 31) ds) = true from h)
    obtain ⟨a1, b1⟩ := shown_wt d h1
    obtain ⟨a2, b2⟩ := showns_wt ds h2
    refine ⟨?_, ?_⟩
    · show (d.py.showable && PyData.showableAll (D.pys ds)) = true
      rw [a1, a2]
      rfl
    · show d.py.shown.length + ((PyData.shownAll (D.pys ds)).map (·.length)).sum + 2 * ((PyData.shownAll (D.pys ds)).length + 1) ≤ 500 * (wt d + wts ds)
      omega
end
theorem Good.shows {n k : Nat} {d : D} (g : Good (10 ^ 31) n k d) (hn : n ≤ 33000) (hk : k ≤ 60) : Shows d.py := by
  obtain ⟨a, b⟩ := shown_wt d g.l
  refine ⟨a, by rw [D.dep_py]; exact Nat.le_trans g.p hk, ?_⟩
  have := g.w
  rw [sizeLine_eq]
  omega

end LW

set_option maxRecDepth 100000
set_option maxHeartbeats 4000000
namespace K00
open PySem PySem.Spec PyProof.Rows L2 DL
def topS (i : Nat) : Stmt := PySem.Challenge.pw_sixkeepers_k00_errors_and_bounds.main.body.getD i (.Pass ⟨0, 0, 0, 0⟩)
def unI : D → Int
  | .int i => i
  | _ => 0
theorem onT {b : Bool} {A B : Prop} (h : b = true) (q : A) : if b = true then A else B := by
  rw [if_pos h]
  exact q
theorem onF {b : Bool} {A B : Prop} (h : b = false) (q : B) : if b = true then A else B := by
  rw [if_neg (by rw [h]; exact Bool.false_ne_true)]
  exact q
theorem atI_at {ds : List D} {j : Int} {i : Nat} {d : D} (e : j = i) (h : ds[i]? = some d) : atI ds j = some d := by
  rw [e]
  exact atI_nat h
theorem gIx_mk {ds : List D} {j : Int} {d : D} {F : D → Prop} (h : atI ds j = some d) (q : F d) : gIx (.tup ds) (.int j) F := by
  unfold gIx
  dsimp only
  rw [h]
  exact q
theorem ints_ex {C : Int → Prop} : ∀ {ys : List D}, (∀ y ∈ ys, ∃ p, y = D.int p ∧ C p) → ∃ ps : List Int, ys = ps.map D.int ∧ ∀ p ∈ ps, C p
  | [], _ => ⟨[], rfl, fun p h => absurd h List.not_mem_nil⟩
  | y :: ys, h => by
    obtain ⟨p, rfl, c⟩ := h y List.mem_cons_self
    obtain ⟨ps, rfl, cs⟩ := ints_ex (fun z hz => h z (List.mem_cons_of_mem _ hz))
    exact ⟨p :: ps, rfl, fun q hq => by
      rcases List.mem_cons.mp hq with rfl | hq
      · exact c
      · exact cs q hq⟩
theorem ne_self (X : Str) : (true ^^ decide (X = X)) = false := by simp
/-! ### what is drawn, what is made of it -/
def odds : List D := [.non, .bl true, .bl false, .int 0, .int 1, .int 2, .int (-1), .int (10 ^ 30), .str "", .str "0", .str "2: 01", .tup [], .lst [], .dic, .tup [.int 0], .tup [.int 1], .tup [.int 0, .int 1], .tup [.bl true, .int 0]] ++
  [.lst [.int 0], .tup [.int 0, .int 2], .tup [.tup [.int 0, .int 1]], .tup [.int 1, .tup [.tup [.int 0]]], .tup [.int 0, .tup [.int 0]], .tup [.int 0, .tup [.int 0, .int 0]], .tup [.tup [.int 0], .int 1], .tup [.tup [], .tup []]] ++
  [.tup [.str "clash", .tup [], .int 0], .tup [.non], .tup [.int (-1)], .tup [.int 0, .tup [.int (-1)]], .tup [.int 0, .tup [.bl true, .int 0]], .tup [.int 2, .tup [.tup [.int 0, .int 1], .tup [.int 0, .int 1]]]] ++
  [.tup [.tup [.int 0, .int 0, .int 1]], .tup [.int 0, .int 0, .int 0]]
def ers : List Str := ["BadBatch", "BadRow", "BadStock", "BadText", "Busy", "NoAnswers", "NoNumber", "NoRelation", "NotOne", "NothingToUndo", "NoUnknown", "NoVersion", "Rejected", "TooHard", "TooManyEdits", "Unfit"]
def made (v : D) : List D := [.er0 "BadBatch", .er1 "BadRow" "given" v, .er1 "BadStock" "error" v, .er1 "BadText" "place" v, .er0 "Busy", .er1 "NoAnswers" "reason" v, .er1 "NoNumber" "number" v] ++
  [.er1 "NoRelation" "given" v, .er1 "NotOne" "given" v, .er0 "NothingToUndo", .er1 "NoUnknown" "given" v, .er1 "NoVersion" "given" v, .er1 "Rejected" "index" v] ++ [.er1 "TooHard" "size" v, .er0 "TooManyEdits", .er0 "Unfit"]
section
variable {P : Program} {w : World} {K : PySem.W.Frag} {mg : Str → Option Value} {base : Heap}
/-! ### a draw -/
abbrev s_law_draw : Stmt := topS 38
abbrev N_law_draw : List Str := ["_law_deck_here", "_law_many", "_law_rest", "_law_cell", "_law_mixed"]
abbrev P_law_draw : List Str := ["_law_deck_here", "_law_many"]
theorem sc_law_draw : FnScope N_law_draw P_law_draw (defScope s_law_draw) := ⟨rfl, rfl, rfl, by decide +kernel, rfl, by decide +kernel, by decide +kernel⟩
def f_law_draw : Fs := fun as Q => ∃ m : Int, as = [.deck, .val (.int m)] ∧ (1 ≤ m ∧ m < 1073741824) ∧ ∀ v : Int, 0 ≤ v → v < m → Q (.val (.int v))
theorem m_law_draw : FMono f_law_draw := fun as P P' i ⟨m, e, b, q⟩ => ⟨m, e, b, fun v h1 h2 => i _ (q v h1 h2)⟩
theorem fdiv_nn {i m : Int} (h : 0 ≤ i) (hm : 1 ≤ m) : 0 ≤ i.fdiv m := Int.fdiv_nonneg h (by omega)
theorem fmod_in {i m : Int} (hm : 1 ≤ m) : 0 ≤ i.fmod m ∧ i.fmod m < m := by
  rw [Int.fmod_eq_emod_of_nonneg _ (by omega)]
  exact ⟨Int.emod_nonneg _ (by omega), Int.emod_lt_of_pos _ (by omega)⟩
theorem ix0 {α : Type} {x : α} {l : List α} : ixN (x :: l).length 0 = some 0 := by
  unfold ixN
  rw [if_pos (by decide), if_pos (by rw [List.length_cons]; omega)]
  rfl
theorem six0 {α : Type} {x : α} {l : List α} : seqIndex? 0 (x :: l).length = some 0 := by
  unfold seqIndex?
  simp
theorem ok_law_draw {f : Addr} {fd : FuncData} (F : At K mg "_law_draw" s_law_draw f fd P_law_draw) (hB_int : mg "int" = none) (hB_len : mg "len" = none) : Cal P w K mg base 1 "_law_draw" P_law_draw (spF K f_law_draw) := by
  refine F.cal (F.F.ok sc_law_draw (fun vs H Q E h => ?_) fun cdv A outer s H vs Q E hr h => ?_)
  · obtain ⟨dk, as, _, ha, m, rfl, _⟩ := h
    rw [ha.length]
    rfl
  obtain ⟨dk, as, inv, ha, m, rfl, ⟨m1, m2⟩, q⟩ := h
  cases ha with
  | cons a1 a2 =>
    cases a2 with
    | cons a2 a3 =>
      cases a3
      obtain ⟨k, rfl, rfl⟩ := a1
      cases (show IsD _ _ _ _ from a2)
      obtain ⟨ns, ms, c, z⟩ := inv
      refine ⟨_, PSs.nox (pss_cons (ps_if (pt_cmpR (op_neD hr.units) (pe_ix ix_list (pv 0) pe_int (fun _ _ => rfl)) (pe_lst pa_nil) (nomark _))
          (pss_cons (ps_set (i := 2) sc_law_draw.nd rfl (Or.inl rfl) (pe_ix ix_list (pe_ix ix_list (pv 0) pe_int (fun _ _ => rfl)) pe_int (fun _ _ => rfl)))
          (pss_cons (ps_asg (pe_op op_fdivN (pv 2) (pv 1)) (pg_sub (pe_ix ix_list (pv 0) pe_int (fun _ _ => rfl)) pe_int set_list))
          (pss_cons (ps_if (pt_cmpR op_eq (pe_ix ix_list (pe_ix ix_list (pv 0) pe_int (fun _ _ => rfl)) pe_int (fun _ _ => rfl)) pe_int (nomark _))
            (pss_one (ps_expr (pe_bm PySem.F.plainAttrs_list PySem.F.slot_list_pop PySem.F.type_list_pop mt_popAt (pe_ix ix_list (pv 0) pe_int (fun _ _ => rfl)) (pa_cons pe_int pa_nil)))) pss_nil)
          (pss_one (ps_ret (pe_op op_modN (pe_callTy call_int1 (by rfl) hB_int (by decide +kernel) (pa_cons (pv 2) pa_nil)) (pv 1))))))) pss_nil)
        (pss_cons (ps_asg (pe_op op_add (pe_ix ix_list (pv 0) pe_int (fun _ _ => rfl)) pe_int) (pg_sub (pv 0) pe_int set_list))
        (pss_cons (ps_set (i := 3) sc_law_draw.nd rfl (Or.inl rfl) (pe_ix ix_list (pe_ix ix_list (pv 0) pe_int (fun _ _ => rfl)) (pe_op op_modN (pe_callTy call_int1 (by rfl) hB_int (by decide +kernel) (pa_cons (pe_ix ix_list (pv 0) pe_int (fun _ _ => rfl)) pa_nil)) (pe_callB call_len_seq (by rfl) hB_len PySem.boot_len (pa_cons (pe_ix ix_list (pv 0) pe_int (fun _ _ => rfl)) pa_nil))) (fun _ _ => rfl)))
        (pss_cons (ps_set (i := 4) sc_law_draw.nd rfl (Or.inl rfl) (pe_op op_modN (pe_callTy call_int1 (by rfl) hB_int (by decide +kernel) (pa_cons (pe_op op_add (pe_op op_modN (pe_callTy call_int1 (by rfl) hB_int (by decide +kernel) (pa_cons (pv 3) pa_nil)) pe_int) (pe_op op_mul pe_int (pe_ix ix_list (pv 0) pe_int (fun _ _ => rfl)))) pa_nil)) pe_int))
        (pss_cons (ps_set (i := 4) sc_law_draw.nd rfl (Or.inl rfl) (pe_op op_modN (pe_callTy call_int1 (by rfl) hB_int (by decide +kernel) (pa_cons (pe_op op_add (pe_op op_mul (pv 4) (pv 4)) (pe_op op_mul pe_int (pe_ix ix_list (pv 0) pe_int (fun _ _ => rfl)))) pa_nil)) pe_int))
        (pss_one (ps_ret (pe_op op_modN (pe_op op_fdivN (pe_op op_modN (pe_callTy call_int1 (by rfl) hB_int (by decide +kernel) (pa_cons (pe_op op_mul (pv 4) (pv 4)) pa_nil)) pe_int) pe_int) (pv 1))))))))), ?_⟩
      -- deck[0] != []
      have pys : ∀ l : List Int, D.pys (l.map D.int) = l.map PyData.int := fun l => by
        induction l with
        | nil => rfl
        | cons x l ih => exact congrArg (PyData.int x :: ·) ih
      have dp0 : Dp K H (.ref k.d0) (.list (D.pys (ns.map D.int))) := ListAt.dp ⟨_, .inl z.h0, IsAll.ints ns⟩ (nd_ints ns)
      rw [pys] at dp0
      refine ⟨_, rfl, k.d, _, 0, .ref k.d0, rfl, rfl, SqL.of z.h, rfl, Nat.zero_le _, fun e0 he0 => ?_⟩
      have z1 : DkAt k (upd H e0 (.lst [])) ns ms c := z.new he0
      have E1 : Ext (some k) H (upd H e0 (.lst [])) := Ext.new ⟨ns, ms, c, z⟩ he0
      have dp0' : Dp K (upd H e0 (.lst [])) (.ref k.d0) (.list (D.pys (ns.map D.int))) := ListAt.dp ⟨_, .inl z1.h0, IsAll.ints ns⟩ (nd_ints ns)
      rw [pys] at dp0'
      refine ⟨_, .list [], dp0', .lst (SqL.of upd_same) .nil, W.shaped_ints ns, by decide, _, rfl, ?_⟩
      cases ns with
      | cons n ns =>
        refine iteT ?_
        have hn : 0 ≤ n := z.p0 n List.mem_cons_self
        -- rest = deck[0][0]
        refine ⟨_, rfl, k.d, _, 0, .ref k.d0, rfl, rfl, SqL.of z1.h, rfl, k.d0, _, 0, .int n, rfl, rfl, SqL.of z1.h0, atI_nat (j := 0) rfl, ?_⟩
        -- deck[0][0] = rest // many
        have z2 : DkAt k (upd (upd H e0 (.lst [])) k.d0 (.lst ((n.fdiv m :: ns).map V.int))) (n.fdiv m :: ns) ms c := z1.set0 _ (fun x hx => by
          rcases List.mem_cons.mp hx with rfl | hx
          · exact fdiv_nn hn m1
          · exact z.p0 x (List.mem_cons_of_mem _ hx)) z.l0
        have E2 := E1.trans (Ext.cell (Or.inr (Or.inl rfl)) z1.h0 ⟨_, _, _, z2⟩)
        refine ⟨_, rfl, _, rfl, n, m, rfl, rfl, ⟨by omega, by omega⟩, _, rfl, k.d, _, 0, .ref k.d0, rfl, rfl, SqL.of z1.h, rfl, k.d0, _, 0, 0, rfl, rfl, z1.h0, ix0, ?_⟩
        -- if deck[0][0] == 0
        refine ⟨_, rfl, k.d, _, 0, .ref k.d0, rfl, rfl, SqL.of z2.h, rfl, k.d0, _, 0, .int (n.fdiv m), rfl, rfl, SqL.of z2.h0, atI_nat (j := 0) rfl, rfl, _, rfl, ?_⟩
        refine ite2 (fun _ => ?_) (fun _ => ?_)
        · -- deck[0].pop(0)
          have z3 : DkAt k (upd (upd (upd H e0 (.lst [])) k.d0 (.lst ((n.fdiv m :: ns).map V.int))) k.d0 (.lst (ns.map V.int))) ns ms c := z2.set0 _ (fun x hx => z.p0 x (List.mem_cons_of_mem _ hx)) (by have := z.l0; rw [List.length_cons] at this; omega)
          have E3 := E2.trans (Ext.cell (Or.inr (Or.inl rfl)) z2.h0 ⟨_, _, _, z3⟩)
          refine ⟨_, rfl, k.d, _, 0, .ref k.d0, rfl, rfl, SqL.of z2.h, rfl, .inl ⟨rfl, _, SqL.of z2.h0⟩, k.d0, _, 0, 0, .int (n.fdiv m), rfl, rfl, z2.h0, by decide, by decide, six0, rfl, ?_⟩
          obtain ⟨b1, b2⟩ := fmod_in (i := n) m1
          exact ⟨_, rfl, .inl ⟨n, rfl, _, rfl, n, m, rfl, rfl, by omega, q _ b1 b2 _ _ E3 (.int _)⟩⟩
        · obtain ⟨b1, b2⟩ := fmod_in (i := n) m1
          exact ⟨_, rfl, .inl ⟨n, rfl, _, rfl, n, m, rfl, rfl, by omega, q _ b1 b2 _ _ E2 (.int _)⟩⟩
      | nil =>
        refine iteF ?_
        -- deck[2] = deck[2] + 1
        have z2 := z1.setc (c + 1) (by have := z.pc; omega)
        have E2 := E1.trans (Ext.cell (Or.inl rfl) z1.h ⟨_, _, _, z2⟩)
        refine ⟨_, rfl, k.d, _, 2, .int c, rfl, rfl, SqL.of z1.h, rfl, c, 1, rfl, rfl, _, rfl, k.d, _, 2, 2, rfl, rfl, z1.h, rfl, ?_⟩
        -- cell = deck[1][int(deck[2]) % len(deck[1])]
        have hms : 0 < ms.length := List.length_pos_iff.mpr z.ne
        have b3 := fmod_in (i := c + 1) (m := (ms.length : Int)) (by omega)
        obtain ⟨y, hy⟩ : ∃ y, ms[((c + 1).fmod (ms.length : Int)).toNat]? = some y := ⟨_, List.getElem?_eq_getElem (by omega)⟩
        refine ⟨_, rfl, k.d, _, 1, .ref k.d1, rfl, rfl, SqL.of z2.h, rfl, _, rfl, k.d, _, 2, .int (c + 1), rfl, rfl, SqL.of z2.h, rfl, .inl ⟨c + 1, rfl, ?_⟩⟩
        refine ⟨_, rfl, k.d, _, 1, .ref k.d1, rfl, rfl, SqL.of z2.h, rfl, k.d1, _, rfl, .inl (SqL.of z2.h1), c + 1, _, rfl, rfl, ?_, ?_⟩
        · rw [List.length_map]
          omega
        rw [List.length_map]
        refine ⟨k.d1, _, _, .int y, rfl, rfl, SqL.of z2.h1, ?_, ?_⟩
        · have e : (c + 1).fmod (ms.length : Int) = ((((c + 1).fmod (ms.length : Int)).toNat : Nat) : Int) := by omega
          rw [e]
          refine atI_nat ?_
          rw [List.getElem?_map, hy]
          rfl
        -- mixed, twice
        refine ⟨_, rfl, .inl ⟨y, rfl, y, 4294966297, rfl, rfl, (show (4294966297 : Int) ≠ 0 by decide), ?_⟩⟩
        refine ⟨_, rfl, k.d, _, 2, .int (c + 1), rfl, rfl, SqL.of z2.h, rfl, 1640531527, c + 1, rfl, rfl, .inl ⟨by decide, by decide⟩, _, _, rfl, rfl, .inl ⟨_, rfl, _, _, rfl, rfl, (show (4294966297 : Int) ≠ 0 by decide), ?_⟩⟩
        obtain ⟨u, hu⟩ : ∃ u, u = (y.fmod 4294966297 + 1640531527 * (c + 1)).fmod 4294966297 := ⟨_, rfl⟩
        have bu := fmod_in (i := y.fmod 4294966297 + 1640531527 * (c + 1)) (m := 4294966297) (by decide)
        rw [← hu] at bu
        refine ⟨.int u, by rw [hu]; rfl, .int u, by rw [hu]; rfl, u, u, rfl, rfl, .inl ⟨by omega, by omega⟩, ?_⟩
        refine ⟨_, rfl, k.d, _, 2, .int (c + 1), rfl, rfl, SqL.of z2.h, rfl, 122949823, c + 1, rfl, rfl, .inl ⟨by decide, by decide⟩, _, _, rfl, rfl, .inl ⟨_, rfl, _, _, rfl, rfl, (show (4294966237 : Int) ≠ 0 by decide), ?_⟩⟩
        obtain ⟨x, hx⟩ : ∃ x, x = (u * u + 122949823 * (c + 1)).fmod 4294966237 := ⟨_, rfl⟩
        have bx := fmod_in (i := u * u + 122949823 * (c + 1)) (m := 4294966237) (by decide)
        rw [← hx] at bx
        -- the value
        refine ⟨.int x, by rw [hx]; rfl, .int x, by rw [hx]; rfl, x, x, rfl, rfl, .inl ⟨by omega, by omega⟩, .inl ⟨_, rfl, _, _, rfl, rfl, (show (4294966187 : Int) ≠ 0 by decide), ?_⟩⟩
        refine ⟨_, _, rfl, rfl, ⟨(show (1024 : Int) ≠ 0 by decide), (show (1024 : Int).natAbs < 1073741824 by decide)⟩, _, rfl, _, m, rfl, rfl, (show m ≠ 0 by omega), ?_⟩
        obtain ⟨b1, b2⟩ := fmod_in (i := ((x * x).fmod 4294966187).fdiv 1024) m1
        exact q _ b1 b2 _ _ E2 (.int _)
/-! ### law_one -/
abbrev s_law_one : Stmt := topS 39
abbrev N_law_one : List Str := ["_law_deck_here", "_law_items"]
abbrev P_law_one : List Str := ["_law_deck_here", "_law_items"]
theorem sc_law_one : FnScope N_law_one P_law_one (defScope s_law_one) := ⟨rfl, rfl, rfl, by decide +kernel, rfl, by decide +kernel, by decide +kernel⟩
def f_law_one : Fs := fun as Q => ∃ ds : List D, as = [.deck, .lst ds] ∧ (ds ≠ [] ∧ ds.length < 1000) ∧ ∀ v ∈ ds, Q (.val v)
theorem m_law_one : FMono f_law_one := fun as P P' i ⟨ds, e, c, q⟩ => ⟨ds, e, c, fun v h => i _ (q v h)⟩
theorem l_law_one : ∀ as Q, f_law_one as Q → as.length = P_law_one.length := fun as Q ⟨ds, e, _⟩ => by rw [e]; rfl
theorem ok_law_one {f : Addr} {fd : FuncData} (F : At K mg "_law_one" s_law_one f fd P_law_one) (C_law_draw : Cal P w K mg base 1 "_law_draw" P_law_draw (spF K f_law_draw)) (hB_len : mg "len" = none) : Cal P w K mg base 2 "_law_one" P_law_one (spF K f_law_one) := by
  refine F.ok sc_law_one l_law_one (fun cdv A outer s H E hr =>
    (dss_one (ds_ret (de_ixL (dr_var (pv 1)) (de_fn C_law_draw hr (by decide) (by rfl) m_law_draw (da_deck (pv 0) (da_val (de_len (by rfl) hB_len (da_lst (dr_var (pv 1)) da_nil)) da_nil))) (fun _ _ => rfl))))) ?_
  rintro as Q ⟨ds, rfl, ⟨hne, hl⟩, q⟩ env A
  cases A with
  | deck A => cases A with
    | lst A =>
      cases A
      have hp : 0 < ds.length := List.length_pos_iff.mpr hne
      refine ⟨rfl, _, rfl, ⟨by omega, by omega⟩, fun v v0 v1 => ?_⟩
      have hi : v.toNat < ds.length := by omega
      refine gIx_mk (atI_at (i := v.toNat) (by omega) (List.getElem?_eq_getElem hi)) ?_
      exact q _ (List.getElem_mem hi)

/-! ### law_odd -/
abbrev s_law_odd : Stmt := topS 40
abbrev N_law_odd : List Str := ["_law_deck_here", "_law_some"]
abbrev P_law_odd : List Str := ["_law_deck_here"]
theorem sc_law_odd : FnScope N_law_odd P_law_odd (defScope s_law_odd) := ⟨rfl, rfl, rfl, by decide +kernel, rfl, by decide +kernel, by decide +kernel⟩
def f_law_odd : Fs := fun as Q => as = [.deck] ∧ ∀ v ∈ odds, Q (.val v)
theorem m_law_odd : FMono f_law_odd := fun as P P' i ⟨e, q⟩ => ⟨e, fun v h => i _ (q v h)⟩
theorem l_law_odd : ∀ as Q, f_law_odd as Q → as.length = P_law_odd.length := fun as Q ⟨e, _⟩ => by rw [e]; rfl
theorem ok_law_odd {f : Addr} {fd : FuncData} (F : At K mg "_law_odd" s_law_odd f fd P_law_odd) (C_law_one : Cal P w K mg base 2 "_law_one" P_law_one (spF K f_law_one))  : Cal P w K mg base 3 "_law_odd" P_law_odd (spF K f_law_odd) := by
  refine F.ok sc_law_odd l_law_odd (fun cdv A outer s H E hr =>
    (dss_cons (ds_setN (i := 1) (fun _ h => ps_set (i := 1) sc_law_odd.nd rfl (Or.inl rfl) h) (dn_lst (das_cons de_non (das_cons de_bl (das_cons de_bl (das_cons de_int (das_cons de_int (das_cons de_int (das_cons (de_neg de_int) (das_cons (de_pow de_int de_int) (das_cons de_str (das_cons de_str (das_cons de_str (das_cons (de_tup das_nil) (das_cons (de_lst das_nil) (das_cons de_dic (das_cons (de_tup (das_cons de_int das_nil)) (das_cons (de_tup (das_cons de_int das_nil)) (das_cons (de_tup (das_cons de_int (das_cons de_int das_nil))) (das_cons (de_tup (das_cons de_bl (das_cons de_int das_nil))) das_nil))))))))))))))))))))
      (dss_cons (ds_setN (i := 1) (fun _ h => ps_set (i := 1) sc_law_odd.nd rfl (Or.inl rfl) h) (dn_cat1 (dw1_var (pv 1)) (dn_lst (das_cons (de_lst (das_cons de_int das_nil)) (das_cons (de_tup (das_cons de_int (das_cons de_int das_nil))) (das_cons (de_tup (das_cons (de_tup (das_cons de_int (das_cons de_int das_nil))) das_nil)) (das_cons (de_tup (das_cons de_int (das_cons (de_tup (das_cons (de_tup (das_cons de_int das_nil)) das_nil)) das_nil))) (das_cons (de_tup (das_cons de_int (das_cons (de_tup (das_cons de_int das_nil)) das_nil))) (das_cons (de_tup (das_cons de_int (das_cons (de_tup (das_cons de_int (das_cons de_int das_nil))) das_nil))) (das_cons (de_tup (das_cons (de_tup (das_cons de_int das_nil)) (das_cons de_int das_nil))) (das_cons (de_tup (das_cons (de_tup das_nil) (das_cons (de_tup das_nil) das_nil))) das_nil)))))))))))
      (dss_cons (ds_setN (i := 1) (fun _ h => ps_set (i := 1) sc_law_odd.nd rfl (Or.inl rfl) h) (dn_cat1 (dw1_var (pv 1)) (dn_lst (das_cons (de_tup (das_cons de_str (das_cons (de_tup das_nil) (das_cons de_int das_nil)))) (das_cons (de_tup (das_cons de_non das_nil)) (das_cons (de_tup (das_cons (de_neg de_int) das_nil)) (das_cons (de_tup (das_cons de_int (das_cons (de_tup (das_cons (de_neg de_int) das_nil)) das_nil))) (das_cons (de_tup (das_cons de_int (das_cons (de_tup (das_cons de_bl (das_cons de_int das_nil))) das_nil))) (das_cons (de_tup (das_cons de_int (das_cons (de_tup (das_cons (de_tup (das_cons de_int (das_cons de_int das_nil))) (das_cons (de_tup (das_cons de_int (das_cons de_int das_nil))) das_nil))) das_nil))) das_nil)))))))))
      (dss_cons (ds_setN (i := 1) (fun _ h => ps_set (i := 1) sc_law_odd.nd rfl (Or.inl rfl) h) (dn_cat1 (dw1_var (pv 1)) (dn_lst (das_cons (de_tup (das_cons (de_tup (das_cons de_int (das_cons de_int (das_cons de_int das_nil)))) das_nil)) (das_cons (de_tup (das_cons de_int (das_cons de_int (das_cons de_int das_nil)))) das_nil)))))
      (dss_one (ds_ret (de_fn C_law_one hr (by decide) (by rfl) m_law_one (da_deck (pv 0) (da_lst (dr_var (pv 1)) da_nil)))))))))) ?_
  rintro as Q ⟨rfl, q⟩ env A
  cases A with
  | deck A =>
    cases A
    refine ⟨⟨by decide, by decide, by decide⟩, ?_⟩
    repeat' (first | (refine ⟨by decide, ?_⟩) | (intro adr))
    refine ⟨rfl, odds, rfl, ⟨by decide, by decide⟩, q⟩

/-! ### law_made -/
abbrev s_law_made : Stmt := topS 41
abbrev N_law_made : List Str := ["_law_one_here", "_law_found"]
abbrev P_law_made : List Str := ["_law_one_here"]
theorem sc_law_made : FnScope N_law_made P_law_made (defScope s_law_made) := ⟨rfl, rfl, rfl, by decide +kernel, rfl, by decide +kernel, by decide +kernel⟩
def f_law_made : Fs := fun as Q => ∃ v : D, as = [.val v] ∧ Q (.new (made v))
theorem m_law_made : FMono f_law_made := fun as P P' i ⟨v, e, q⟩ => ⟨v, e, i _ q⟩
theorem l_law_made : ∀ as Q, f_law_made as Q → as.length = P_law_made.length := fun as Q ⟨v, e, _⟩ => by rw [e]; rfl
theorem ok_law_made {f : Addr} {fd : FuncData} (F : At K mg "_law_made" s_law_made f fd P_law_made)   (hE_BadBatch : ErN K mg "BadBatch") (hE_BadRow : ErF P K mg "BadRow" "given") (hE_BadStock : ErF P K mg "BadStock" "error") (hE_BadText : ErF P K mg "BadText" "place") (hE_Busy : ErN K mg "Busy") (hE_NoAnswers : ErF P K mg "NoAnswers" "reason") (hE_NoNumber : ErF P K mg "NoNumber" "number") (hE_NoRelation : ErF P K mg "NoRelation" "given") (hE_NotOne : ErF P K mg "NotOne" "given") (hE_NothingToUndo : ErN K mg "NothingToUndo") (hE_NoUnknown : ErF P K mg "NoUnknown" "given") (hE_NoVersion : ErF P K mg "NoVersion" "given") (hE_Rejected : ErF P K mg "Rejected" "index") (hE_TooHard : ErF P K mg "TooHard" "size") (hE_TooManyEdits : ErN K mg "TooManyEdits") (hE_Unfit : ErN K mg "Unfit") : Cal P w K mg base 2 "_law_made" P_law_made (spF K f_law_made) := by
  refine F.ok sc_law_made l_law_made (fun cdv A outer s H E hr =>
    (dss_cons (ds_setN (i := 1) (fun _ h => ps_set (i := 1) sc_law_made.nd rfl (Or.inl rfl) h) (dn_lst (das_cons (de_err0 hE_BadBatch (by rfl)) (das_cons (de_err hE_BadRow hr (by rfl) (de_var (pv 0))) (das_cons (de_err hE_BadStock hr (by rfl) (de_var (pv 0))) (das_cons (de_err hE_BadText hr (by rfl) (de_var (pv 0))) (das_cons (de_err0 hE_Busy (by rfl)) (das_cons (de_err hE_NoAnswers hr (by rfl) (de_var (pv 0))) (das_cons (de_err hE_NoNumber hr (by rfl) (de_var (pv 0))) das_nil)))))))))
      (dss_cons (ds_setN (i := 1) (fun _ h => ps_set (i := 1) sc_law_made.nd rfl (Or.inl rfl) h) (dn_cat1 (dw1_var (pv 1)) (dn_lst (das_cons (de_err hE_NoRelation hr (by rfl) (de_var (pv 0))) (das_cons (de_err hE_NotOne hr (by rfl) (de_var (pv 0))) (das_cons (de_err0 hE_NothingToUndo (by rfl)) (das_cons (de_err hE_NoUnknown hr (by rfl) (de_var (pv 0))) (das_cons (de_err hE_NoVersion hr (by rfl) (de_var (pv 0))) (das_cons (de_err hE_Rejected hr (by rfl) (de_var (pv 0))) das_nil)))))))))
      (dss_one (ds_retN (dn_cat1 (dw1_var (pv 1)) (dn_lst (das_cons (de_err hE_TooHard hr (by rfl) (de_var (pv 0))) (das_cons (de_err0 hE_TooManyEdits (by rfl)) (das_cons (de_err0 hE_Unfit (by rfl)) das_nil)))))))))) ?_
  rintro as Q ⟨v, rfl, q⟩ env A
  cases A with
  | val A =>
    cases A
    refine ⟨by simp, fun a1 => ?_⟩
    refine ⟨by simp, by simp, fun a2 => ?_⟩
    exact ⟨by simp, by simp, q⟩

/-! ### law_classes -/
abbrev s_law_classes : Stmt := topS 42
abbrev N_law_classes : List Str := ["_law_error", "_law_found"]
abbrev P_law_classes : List Str := ["_law_error"]
theorem sc_law_classes : FnScope N_law_classes P_law_classes (defScope s_law_classes) := ⟨rfl, rfl, rfl, by decide +kernel, rfl, by decide +kernel, by decide +kernel⟩
def f_law_classes : Fs := fun as Q => ∃ (d : D) (x : Str), as = [.val d] ∧ clsOf d = some x ∧ x ∈ ers ∧ Q (.new (ers.map fun y => .bl (x == y)))
theorem m_law_classes : FMono f_law_classes := fun as P P' i ⟨d, x, e, h1, h2, q⟩ => ⟨d, x, e, h1, h2, i _ q⟩
theorem l_law_classes : ∀ as Q, f_law_classes as Q → as.length = P_law_classes.length := fun as Q ⟨v, x, e, _⟩ => by rw [e]; rfl
theorem ok_law_classes {f : Addr} {fd : FuncData} (F : At K mg "_law_classes" s_law_classes f fd P_law_classes)  (hB_isinstance : mg "isinstance" = none) (hM_BadBatch : mg "BadBatch" = some (.ref (He.ga K "BadBatch"))) (hI_BadBatch : ∀ x ∈ ers, PySem.W.kitOne K (.ref (He.ga K x)) (.ref (He.ga K "BadBatch")) = some (x == "BadBatch")) (hM_BadRow : mg "BadRow" = some (.ref (He.ga K "BadRow"))) (hI_BadRow : ∀ x ∈ ers, PySem.W.kitOne K (.ref (He.ga K x)) (.ref (He.ga K "BadRow")) = some (x == "BadRow")) (hM_BadStock : mg "BadStock" = some (.ref (He.ga K "BadStock"))) (hI_BadStock : ∀ x ∈ ers, PySem.W.kitOne K (.ref (He.ga K x)) (.ref (He.ga K "BadStock")) = some (x == "BadStock")) (hM_BadText : mg "BadText" = some (.ref (He.ga K "BadText"))) (hI_BadText : ∀ x ∈ ers, PySem.W.kitOne K (.ref (He.ga K x)) (.ref (He.ga K "BadText")) = some (x == "BadText")) (hM_Busy : mg "Busy" = some (.ref (He.ga K "Busy"))) (hI_Busy : ∀ x ∈ ers, PySem.W.kitOne K (.ref (He.ga K x)) (.ref (He.ga K "Busy")) = some (x == "Busy")) (hM_NoAnswers : mg "NoAnswers" = some (.ref (He.ga K "NoAnswers"))) (hI_NoAnswers : ∀ x ∈ ers, PySem.W.kitOne K (.ref (He.ga K x)) (.ref (He.ga K "NoAnswers")) = some (x == "NoAnswers")) (hM_NoNumber : mg "NoNumber" = some (.ref (He.ga K "NoNumber"))) (hI_NoNumber : ∀ x ∈ ers, PySem.W.kitOne K (.ref (He.ga K x)) (.ref (He.ga K "NoNumber")) = some (x == "NoNumber")) (hM_NoRelation : mg "NoRelation" = some (.ref (He.ga K "NoRelation"))) (hI_NoRelation : ∀ x ∈ ers, PySem.W.kitOne K (.ref (He.ga K x)) (.ref (He.ga K "NoRelation")) = some (x == "NoRelation")) (hM_NotOne : mg "NotOne" = some (.ref (He.ga K "NotOne"))) (hI_NotOne : ∀ x ∈ ers, PySem.W.kitOne K (.ref (He.ga K x)) (.ref (He.ga K "NotOne")) = some (x == "NotOne")) (hM_NothingToUndo : mg "NothingToUndo" = some (.ref (He.ga K "NothingToUndo"))) (hI_NothingToUndo : ∀ x ∈ ers, PySem.W.kitOne K (.ref (He.ga K x)) (.ref (He.ga K "NothingToUndo")) = some (x == "NothingToUndo")) (hM_NoUnknown : mg "NoUnknown" = some (.ref (He.ga K "NoUnknown"))) (hI_NoUnknown : ∀ x ∈ ers, PySem.W.kitOne K (.ref (He.ga K x)) (.ref (He.ga K "NoUnknown")) = some (x == "NoUnknown")) (hM_NoVersion : mg "NoVersion" = some (.ref (He.ga K "NoVersion"))) (hI_NoVersion : ∀ x ∈ ers, PySem.W.kitOne K (.ref (He.ga K x)) (.ref (He.ga K "NoVersion")) = some (x == "NoVersion")) (hM_Rejected : mg "Rejected" = some (.ref (He.ga K "Rejected"))) (hI_Rejected : ∀ x ∈ ers, PySem.W.kitOne K (.ref (He.ga K x)) (.ref (He.ga K "Rejected")) = some (x == "Rejected")) (hM_TooHard : mg "TooHard" = some (.ref (He.ga K "TooHard"))) (hI_TooHard : ∀ x ∈ ers, PySem.W.kitOne K (.ref (He.ga K x)) (.ref (He.ga K "TooHard")) = some (x == "TooHard")) (hM_TooManyEdits : mg "TooManyEdits" = some (.ref (He.ga K "TooManyEdits"))) (hI_TooManyEdits : ∀ x ∈ ers, PySem.W.kitOne K (.ref (He.ga K x)) (.ref (He.ga K "TooManyEdits")) = some (x == "TooManyEdits")) (hM_Unfit : mg "Unfit" = some (.ref (He.ga K "Unfit"))) (hI_Unfit : ∀ x ∈ ers, PySem.W.kitOne K (.ref (He.ga K x)) (.ref (He.ga K "Unfit")) = some (x == "Unfit")) : Cal P w K mg base 1 "_law_classes" P_law_classes (spF K f_law_classes) := by
  refine F.ok sc_law_classes l_law_classes (fun cdv A outer s H E hr =>
    (dss_cons (ds_setN (i := 1) (fun _ h => ps_set (i := 1) sc_law_classes.nd rfl (Or.inl rfl) h) (dn_lst (das_cons (de_isE hM_BadBatch hI_BadBatch (by rfl) hB_isinstance (by rfl) (de_var (pv 0))) (das_cons (de_isE hM_BadRow hI_BadRow (by rfl) hB_isinstance (by rfl) (de_var (pv 0))) (das_cons (de_isE hM_BadStock hI_BadStock (by rfl) hB_isinstance (by rfl) (de_var (pv 0))) das_nil)))))
      (dss_cons (ds_setN (i := 1) (fun _ h => ps_set (i := 1) sc_law_classes.nd rfl (Or.inl rfl) h) (dn_cat1 (dw1_var (pv 1)) (dn_lst (das_cons (de_isE hM_BadText hI_BadText (by rfl) hB_isinstance (by rfl) (de_var (pv 0))) (das_cons (de_isE hM_Busy hI_Busy (by rfl) hB_isinstance (by rfl) (de_var (pv 0))) (das_cons (de_isE hM_NoAnswers hI_NoAnswers (by rfl) hB_isinstance (by rfl) (de_var (pv 0))) das_nil))))))
      (dss_cons (ds_setN (i := 1) (fun _ h => ps_set (i := 1) sc_law_classes.nd rfl (Or.inl rfl) h) (dn_cat1 (dw1_var (pv 1)) (dn_lst (das_cons (de_isE hM_NoNumber hI_NoNumber (by rfl) hB_isinstance (by rfl) (de_var (pv 0))) (das_cons (de_isE hM_NoRelation hI_NoRelation (by rfl) hB_isinstance (by rfl) (de_var (pv 0))) (das_cons (de_isE hM_NotOne hI_NotOne (by rfl) hB_isinstance (by rfl) (de_var (pv 0))) das_nil))))))
      (dss_cons (ds_setN (i := 1) (fun _ h => ps_set (i := 1) sc_law_classes.nd rfl (Or.inl rfl) h) (dn_cat1 (dw1_var (pv 1)) (dn_lst (das_cons (de_isE hM_NothingToUndo hI_NothingToUndo (by rfl) hB_isinstance (by rfl) (de_var (pv 0))) (das_cons (de_isE hM_NoUnknown hI_NoUnknown (by rfl) hB_isinstance (by rfl) (de_var (pv 0))) (das_cons (de_isE hM_NoVersion hI_NoVersion (by rfl) hB_isinstance (by rfl) (de_var (pv 0))) das_nil))))))
      (dss_cons (ds_setN (i := 1) (fun _ h => ps_set (i := 1) sc_law_classes.nd rfl (Or.inl rfl) h) (dn_cat1 (dw1_var (pv 1)) (dn_lst (das_cons (de_isE hM_Rejected hI_Rejected (by rfl) hB_isinstance (by rfl) (de_var (pv 0))) (das_cons (de_isE hM_TooHard hI_TooHard (by rfl) hB_isinstance (by rfl) (de_var (pv 0))) (das_cons (de_isE hM_TooManyEdits hI_TooManyEdits (by rfl) hB_isinstance (by rfl) (de_var (pv 0))) das_nil))))))
      (dss_one (ds_retN (dn_cat1 (dw1_var (pv 1)) (dn_lst (das_cons (de_isE hM_Unfit hI_Unfit (by rfl) hB_isinstance (by rfl) (de_var (pv 0))) das_nil))))))))))) ?_
  rintro as Q ⟨d, x, rfl, h1, h2, q⟩ env A
  cases A with
  | val A =>
    cases A
    refine ⟨x, h1, h2, x, h1, h2, x, h1, h2, by simp, fun a1 => ?_⟩
    refine ⟨x, h1, h2, x, h1, h2, x, h1, h2, by simp, by simp, fun a2 => ?_⟩
    refine ⟨x, h1, h2, x, h1, h2, x, h1, h2, by simp, by simp, fun a3 => ?_⟩
    refine ⟨x, h1, h2, x, h1, h2, x, h1, h2, by simp, by simp, fun a4 => ?_⟩
    refine ⟨x, h1, h2, x, h1, h2, x, h1, h2, by simp, by simp, fun a5 => ?_⟩
    exact ⟨x, h1, h2, by simp, by simp, q⟩

end
end K00

set_option maxRecDepth 100000
set_option maxHeartbeats 8000000
namespace K00
open PySem PySem.Spec PyProof.Rows L2 DL
section
theorem compW_sub {f : D → (Option D → Prop) → Prop} : ∀ {ds : List D} {Q : List D → Prop}, (∀ d ∈ ds, ∀ P : Option D → Prop, P (some d) → P none → f d P) → (∀ ys : List D, ys.length ≤ ds.length → (∀ y ∈ ys, y ∈ ds) → Q ys) → compW f ds Q
  | [], _, _, q => q [] (Nat.le_refl _) fun y h => h
  | d :: ds, Q, h, q => by
    refine h d List.mem_cons_self _ ?_ ?_
    · refine compW_sub (fun e he => h e (List.mem_cons_of_mem _ he)) fun ys hl hy => q _ (by simp; omega) fun y hm => ?_
      rcases (show y = d ∨ y ∈ ys by simpa using hm) with rfl | hm
      · exact List.mem_cons_self
      · exact List.mem_cons_of_mem _ (hy y hm)
    · refine compW_sub (fun e he => h e (List.mem_cons_of_mem _ he)) fun ys hl hy => q _ (by simp; omega) fun y hm => ?_
      exact List.mem_cons_of_mem _ (hy y (by simpa using hm))
variable {P : Program} {w : World} {K : PySem.W.Frag} {mg : Str → Option Value} {base : Heap}
/-! ### law_deck -/
abbrev s_law_deck : Stmt := topS 37
abbrev N_law_deck : List Str := ["_law_script", "_law_cells", "_law_cell"]
abbrev P_law_deck : List Str := ["_law_script"]
theorem sc_law_deck : FnScope N_law_deck P_law_deck (defScope s_law_deck) := ⟨rfl, rfl, rfl, by decide +kernel, rfl, by decide +kernel, by decide +kernel⟩
/-! ### law -/
abbrev s_law : Stmt := topS 43
abbrev N_law : List Str := ["_law_script", "_law_deck_here", "_law_told", "_law_turn", "_law_one_here", "_law_errors", "_law_k", "_law_kept", "_law_named", "_law_own"]
abbrev P_law : List Str := ["_law_script"]
theorem sc_law : FnScope N_law P_law (defScope s_law) := ⟨rfl, rfl, rfl, by decide +kernel, rfl, by decide +kernel, by decide +kernel⟩
theorem ok_law_deck {f : Addr} {fd : FuncData} (F : At K mg "_law_deck" s_law_deck f fd P_law_deck) (hB_abs : mg "abs" = none) (hB_len : mg "len" = none) : Cal P w K mg base 1 "_law_deck" P_law_deck (spDeck K) := by
  refine F.cal (F.F.ok sc_law_deck (fun vs H Q E h => ?_) fun cdv A outer s H vs Q E hr h => ?_)
  · obtain ⟨a, ns, rfl, _⟩ := h
    rfl
  obtain ⟨a, ns, rfl, hs, hl, q⟩ := h
  refine ⟨_, PSs.nox (pss_cons (DS.ps (ds_comp (i := 1) (own := [("_law_cell", 2)]) rfl sc_law_deck.nd rfl rfl (sw_true rfl rfl rfl (by decide +kernel)) (di_new (dn_slScr (pv 0) do_no (do_int de_int))) (blkOk_by (N := N_law_deck) (sc := defScope s_law_deck) (by decide +kernel)) (fun _ _ _ _ _ => (dg_name (pg_name (i := 2) sc_law_deck.nd rfl (Or.inl rfl)))) (fun _ _ _ _ _ => dts_nil) (fun _ _ _ _ _ => (de_abs (by rfl) hB_abs (da_val (de_var (pv 2)) da_nil))) (by decide))) (pss_one (ps_ret (pe_dk (dn_comp (own := [("_law_cell", 2)]) rfl sc_law_deck.nd (di_var (pv 1)) (blkOk_by (N := N_law_deck) (sc := defScope s_law_deck) (by decide +kernel)) (fun _ _ _ _ _ => (dg_name (pg_name (i := 2) sc_law_deck.nd rfl (Or.inl rfl)))) (fun _ _ _ _ _ => (dts_one (dc_ge (de_var (pv 2)) (de_pow de_int de_int)))) (fun _ _ _ _ _ => (de_var (pv 2))) (by decide)) (dn_cat1 (dw1_var (pv 1)) (dn_lst (das_cons (de_add de_int (de_len (by rfl) hB_len (da_lst (dr_var (pv 1)) da_nil))) das_nil))) de_int)))), ?_⟩
  refine ⟨none, H, ⟨[], []⟩, _, rel_scr hs, ?_⟩
  have mem : ∀ d ∈ DL.cutD (ns.map D.int) none (some 63), ∃ i, d = D.int i := fun d hd => by
    unfold DL.cutD at hd
    have z := List.mem_of_mem_drop (List.mem_of_mem_take hd)
    obtain ⟨i, _, rfl⟩ := List.mem_map.mp z
    exact ⟨i, rfl⟩
  have len : (DL.cutD (ns.map D.int) none (some 63)).length ≤ 63 := by
    unfold DL.cutD
    rw [List.length_take, List.length_drop, List.length_map]
    omega
  obtain ⟨cs, ec, hc⟩ : ∃ cs : List Int, (DL.cutD (ns.map D.int) none (some 63)).map (fun d => D.int (if unI d < 0 then -unI d else unI d)) = cs.map D.int ∧ ∀ c ∈ cs, 0 ≤ c := by
    refine ints_ex fun y hy => ?_
    obtain ⟨d, _, rfl⟩ := List.mem_map.mp hy
    refine ⟨_, rfl, ?_⟩
    split <;> omega
  have lc : cs.length ≤ 63 := by
    have z := congrArg List.length ec
    rw [List.length_map, List.length_map] at z
    omega
  refine ⟨Nat.le_trans len (by decide), compW_map (fun d => .int (if unI d < 0 then -unI d else unI d)) (fun d hd P p => ?_) ?_⟩
  · obtain ⟨i, rfl⟩ := mem d hd
    exact p
  · intro adr σ' H1 R
    rw [ec] at R
    refine ⟨none, H, ⟨[], []⟩, _, R, ?_⟩
    have lcm : (cs.map D.int).length ≤ 63 := by
      rw [List.length_map]
      exact lc
    refine ⟨Nat.le_trans lcm (by decide), compW_sub (fun d hd P p1 p2 => ?_) fun gs hg hm => ?_⟩
    · obtain ⟨i, _, rfl⟩ := List.mem_map.mp hd
      refine ⟨⟨by decide, by decide, by decide⟩, ?_⟩
      cases hx : decide ((10 : Int) ^ (18 : Int).toNat ≤ i) with
      | true => exact onT (b := decide ((10 : Int) ^ (18 : Int).toNat ≤ i)) hx p1
      | false => exact onF (b := decide ((10 : Int) ^ (18 : Int).toNat ≤ i)) hx p2
    · obtain ⟨bs, rfl, hb⟩ := ints_ex (C := fun i => 0 ≤ i) (ys := gs) fun y hy => by
        obtain ⟨i, hi, rfl⟩ := List.mem_map.mp (hm y hy)
        exact ⟨i, rfl, hc i hi⟩
      have lb : bs.length ≤ 63 := by
        rw [List.length_map] at hg
        omega
      refine ⟨by simp, by simp; omega, fun a0 a1 p v H2 np o0 o1 hp hv ex => ?_⟩
      obtain ⟨us, u1, u2⟩ := o0
      obtain ⟨ws, w1, w2⟩ := o1
      cases hv
      have e1 : (cs.map D.int ++ [D.int (11239 + ((cs.map D.int).length : Int))]) = (cs ++ [11239 + (cs.length : Int)]).map D.int := by
        rw [List.map_append, List.length_map]
        rfl
      rw [IsAll.ints_inv u2] at u1
      have w3 : IsAll K H2 ((cs ++ [11239 + (cs.length : Int)]).map D.int) ws := by
        rw [← e1]
        exact w2
      rw [IsAll.ints_inv w3] at w1
      refine q ⟨p, a0, a1⟩ bs _ H2 ⟨np.1, np.2.1, np.2.2, hp, u1, w1, hb, fun n hn => ?_, by omega, ?_, by simp, by decide⟩
      · rcases List.mem_append.mp hn with h | h
        · exact hc n h
        · obtain rfl : n = 11239 + (cs.length : Int) := by simpa using h
          omega
      · rw [List.length_append]
        show cs.length + 1 ≤ 64
        omega
def told : List D := [.int 5, .int 12, .int 6, .int 40, .int 80, .int 10, .int 14, .int 6, .int 4] ++ [.int 10, .int 60, .int 400, .int 8, .int 3, .int 8, .int 10, .int 30, .int 20]
theorem made_at (v : D) (i : Nat) (h : i < 16) : ∃ d x, (made v)[i]? = some d ∧ clsOf d = some x ∧ x ∈ ers ∧ x = ers.getD i "" := by
  match i, h with
  | 0, _ => exact ⟨_, _, rfl, rfl, by decide, rfl⟩
  | 1, _ => exact ⟨_, _, rfl, rfl, by decide, rfl⟩
  | 2, _ => exact ⟨_, _, rfl, rfl, by decide, rfl⟩
  | 3, _ => exact ⟨_, _, rfl, rfl, by decide, rfl⟩
  | 4, _ => exact ⟨_, _, rfl, rfl, by decide, rfl⟩
  | 5, _ => exact ⟨_, _, rfl, rfl, by decide, rfl⟩
  | 6, _ => exact ⟨_, _, rfl, rfl, by decide, rfl⟩
  | 7, _ => exact ⟨_, _, rfl, rfl, by decide, rfl⟩
  | 8, _ => exact ⟨_, _, rfl, rfl, by decide, rfl⟩
  | 9, _ => exact ⟨_, _, rfl, rfl, by decide, rfl⟩
  | 10, _ => exact ⟨_, _, rfl, rfl, by decide, rfl⟩
  | 11, _ => exact ⟨_, _, rfl, rfl, by decide, rfl⟩
  | 12, _ => exact ⟨_, _, rfl, rfl, by decide, rfl⟩
  | 13, _ => exact ⟨_, _, rfl, rfl, by decide, rfl⟩
  | 14, _ => exact ⟨_, _, rfl, rfl, by decide, rfl⟩
  | 15, _ => exact ⟨_, _, rfl, rfl, by decide, rfl⟩
  | n + 16, h => exact absurd h (by omega)
theorem rng16 {n i : Nat} {x : D} (h : (rng 0 n)[i]? = some x) : i < n ∧ x = .int (0 + (i : Int)) := by
  by_cases hi : i < n
  · rw [rng_get hi] at h
    exact ⟨hi, (Option.some.inj h).symm⟩
  · rw [List.getElem?_eq_none (by rw [rng_len]; omega)] at h
    cases h
def owns (i : Nat) : List D := (List.range 16).map fun j => D.bl (decide ((0 + (i : Int)) = 0 + ((j : Nat) : Int)))
def asks (x : Str) : List D := ers.map fun y => D.bl (x == y)
theorem same : ∀ i, i < 16 → (SeqAt.shaped (.list (D.pys (asks (ers.getD i "")))) = true ∧ SeqAt.shaped (.list (D.pys (owns i))) = true) ∧ (true ^^ PyData.eqv (.list (D.pys (asks (ers.getD i "")))) (.list (D.pys (owns i)))) = false := by
  have h : ((List.range 16).all fun i => SeqAt.shaped (.list (D.pys (asks (ers.getD i "")))) && (SeqAt.shaped (.list (D.pys (owns i))) && PyData.eqv (.list (D.pys (asks (ers.getD i "")))) (.list (D.pys (owns i))))) = true := by decide +kernel
  intro i hi
  have z := List.all_eq_true.mp h i (List.mem_range.mpr hi)
  rw [Bool.and_eq_true, Bool.and_eq_true] at z
  exact ⟨⟨z.1, z.2.1⟩, by rw [z.2.2]; rfl⟩
def both11 (v : D) : D := .lst [.lst [v, v, v, v, v, v, v, v, v, v, v], .lst [v, v, v, v, v, v, v, v, v, v, v]]
theorem odds_good : ∀ v ∈ odds, LW.Good (10 ^ 31) 20 3 v := by
  have h : (odds.all fun v => decide (LW.wt v ≤ 20) && decide (v.dep ≤ 3) && LW.lf (10 ^ 31) v) = true := by decide +kernel
  intro v hv
  have z := List.all_eq_true.mp h v hv
  rw [Bool.and_eq_true, Bool.and_eq_true] at z
  exact ⟨of_decide_eq_true z.1.1, of_decide_eq_true z.1.2, z.2⟩
theorem shows11 : ∀ v ∈ odds, Shows (both11 v).py := fun v hv => by
  have g := odds_good v hv
  have n : LW.GoodL (10 ^ 31) 0 3 [] := LW.GoodL.nil.le (Nat.le_refl _) (Nat.le_refl _) (Nat.zero_le _)
  have l := LW.Good.lst (LW.GoodL.cons g (LW.GoodL.cons g (LW.GoodL.cons g (LW.GoodL.cons g (LW.GoodL.cons g (LW.GoodL.cons g (LW.GoodL.cons g (LW.GoodL.cons g (LW.GoodL.cons g (LW.GoodL.cons g (LW.GoodL.cons g n)))))))))))
  exact LW.Good.shows (d := both11 v) (LW.Good.lst (LW.GoodL.cons l (LW.GoodL.cons l (LW.GoodL.nil.le (Nat.le_refl _) (Nat.le_refl _) (Nat.zero_le _))))) (by decide) (by decide)
end
end K00

set_option maxRecDepth 100000
set_option maxHeartbeats 8000000
namespace K00
open PySem PySem.Spec PyProof.Rows L2 DL
section
variable {P : Program} {w : World} {K : PySem.W.Frag} {mg : Str → Option Value} {base : Heap}
-- level 4
theorem ok_law {f : Addr} {fd : FuncData} (F : FnP K "law" s_law f fd) (C_law_deck : Cal P w K mg base 1 "_law_deck" P_law_deck (spDeck K)) (C_law_odd : Cal P w K mg base 3 "_law_odd" P_law_odd (spF K f_law_odd)) (C_law_made : Cal P w K mg base 2 "_law_made" P_law_made (spF K f_law_made)) (C_law_classes : Cal P w K mg base 1 "_law_classes" P_law_classes (spF K f_law_classes)) (hB_range : mg "range" = none) (hB_repr : mg "repr" = none) (hB_isinstance : mg "isinstance" = none) (hB_ValueError : mg "ValueError" = none) (hC_MAX_ARITY : ∃ t, mg "MAX_ARITY" = some (.int 5 t)) (hC_MAX_ROWS : ∃ t, mg "MAX_ROWS" = some (.int 12 t)) (hC_MAX_STOCK : ∃ t, mg "MAX_STOCK" = some (.int 6 t)) (hC_MAX_UNKNOWNS : ∃ t, mg "MAX_UNKNOWNS" = some (.int 40 t)) (hC_MAX_FACTS : ∃ t, mg "MAX_FACTS" = some (.int 80 t)) (hC_MAX_SMALL : ∃ t, mg "MAX_SMALL" = some (.int 10 t)) (hC_MAX_HARD : ∃ t, mg "MAX_HARD" = some (.int 14 t)) (hC_MAX_OPERATIONS : ∃ t, mg "MAX_OPERATIONS" = some (.int 6 t)) (hC_MAX_SEEN : ∃ t, mg "MAX_SEEN" = some (.int 4 t)) (hC_MAX_LOTS : ∃ t, mg "MAX_LOTS" = some (.int 10 t)) (hC_MAX_CLAUSES : ∃ t, mg "MAX_CLAUSES" = some (.int 60 t)) (hC_MAX_SUMS : ∃ t, mg "MAX_SUMS" = some (.int 400 t)) (hC_MAX_LEARNT : ∃ t, mg "MAX_LEARNT" = some (.int 8 t)) (hC_MAX_WIDTH : ∃ t, mg "MAX_WIDTH" = some (.int 3 t)) (hC_MAX_NAME : ∃ t, mg "MAX_NAME" = some (.int 8 t)) (hC_MAX_HISTORY : ∃ t, mg "MAX_HISTORY" = some (.int 10 t)) (hC_HISTORY : ∃ t, mg "HISTORY" = some (.int 30 t)) (hC_BATCH : ∃ t, mg "BATCH" = some (.int 20 t)) (hE_BadRow : ErF P K mg "BadRow" "given") (hE_BadStock : ErF P K mg "BadStock" "error") (hE_BadText : ErF P K mg "BadText" "place") (hE_NoAnswers : ErF P K mg "NoAnswers" "reason") (hE_NoNumber : ErF P K mg "NoNumber" "number") (hE_NoRelation : ErF P K mg "NoRelation" "given") (hE_NotOne : ErF P K mg "NotOne" "given") (hE_NoUnknown : ErF P K mg "NoUnknown" "given") (hE_NoVersion : ErF P K mg "NoVersion" "given") (hE_Rejected : ErF P K mg "Rejected" "index") (hE_TooHard : ErF P K mg "TooHard" "size") (hM_KeeperError : mg "KeeperError" = some (.ref (He.ga K "KeeperError"))) (hI_KeeperError : ∀ x ∈ ers, PySem.W.kitOne K (.ref (He.ga K x)) (.ref (He.ga K "KeeperError")) = some true) (hI_ValueError : ∀ x ∈ ers, PySem.W.kitOne K (.ref (He.ga K x)) (.type "ValueError") = some true) : FnG P w K mg base 4 f fd P_law (spLaw K) := by
  refine okG F sc_law (fun vs H Q E h => ?_) (fun cdv A fr s H vs Q E hG hr h => ?_)
  · obtain ⟨a, ns, rfl, _⟩ := h
    rfl
  obtain ⟨a, ns, rfl, hs, hl, q⟩ := h
  refine ⟨_, PSs.nox (pss_cons (ps_set (i := 1) sc_law.nd rfl (Or.inl rfl) (Cal.pe C_law_deck hr (by decide) (by rfl) (pa_cons (pv 0) pa_nil))) (DSs.pss (dss_cons (ds_setN (i := 2) (fun _ h => ps_set (i := 2) sc_law.nd rfl (Or.inl rfl) h) (dn_lst (das_cons (de_gint (by rfl) hC_MAX_ARITY) (das_cons (de_gint (by rfl) hC_MAX_ROWS) (das_cons (de_gint (by rfl) hC_MAX_STOCK) (das_cons (de_gint (by rfl) hC_MAX_UNKNOWNS) (das_cons (de_gint (by rfl) hC_MAX_FACTS) (das_cons (de_gint (by rfl) hC_MAX_SMALL) (das_cons (de_gint (by rfl) hC_MAX_HARD) (das_cons (de_gint (by rfl) hC_MAX_OPERATIONS) (das_cons (de_gint (by rfl) hC_MAX_SEEN) das_nil)))))))))))
      (dss_cons (ds_setN (i := 2) (fun _ h => ps_set (i := 2) sc_law.nd rfl (Or.inl rfl) h) (dn_cat1 (dw1_var (pv 2)) (dn_lst (das_cons (de_gint (by rfl) hC_MAX_LOTS) (das_cons (de_gint (by rfl) hC_MAX_CLAUSES) (das_cons (de_gint (by rfl) hC_MAX_SUMS) (das_cons (de_gint (by rfl) hC_MAX_LEARNT) (das_cons (de_gint (by rfl) hC_MAX_WIDTH) (das_cons (de_gint (by rfl) hC_MAX_NAME) (das_cons (de_gint (by rfl) hC_MAX_HISTORY) (das_cons (de_gint (by rfl) hC_HISTORY) (das_cons (de_gint (by rfl) hC_BATCH) das_nil))))))))))))
      (dss_cons (ds_if (dc_ne (de_repr hG hr (by rfl) hB_repr (da_lst (dr_var (pv 2)) da_nil)) de_str) (dss_one (ds_ret de_bl)) dss_nil)
      (dss_cons (ds_for PassesOwn.never rfl (di_range1 (by rfl) hB_range (da_val de_int da_nil)) (dg_name (pg_name (i := 3) sc_law.nd rfl (Or.inl rfl)))
      (dss_cons (ds_set (i := 4) (fun _ h => ps_set (i := 4) sc_law.nd rfl (Or.inl rfl) h) (de_fn C_law_odd hr (by decide) (by rfl) m_law_odd (da_deck (pv 1) da_nil)))
      (dss_cons (ds_setN (i := 5) (fun _ h => ps_set (i := 5) sc_law.nd rfl (Or.inl rfl) h) (dn_fn C_law_made hr (by decide) (by rfl) m_law_made (da_val (de_var (pv 4)) da_nil)))
      (dss_cons (ds_for PassesOwn.never rfl (di_range1 (by rfl) hB_range (da_val de_int da_nil)) (dg_name (pg_name (i := 6) sc_law.nd rfl (Or.inr rfl)))
      (dss_cons (ds_if (dc_neL hr (DN.read (dn_fn C_law_classes hr (by decide) (by rfl) m_law_classes (da_val (de_ixL (dr_var (pv 5)) (de_var (pv 6)) (fun _ _ => rfl)) da_nil))) (DN.read (dn_comp (own := [("_law_own", 9)]) rfl sc_law.nd (di_range1 (by rfl) hB_range (da_val de_int da_nil)) (blkOk_by (N := N_law) (sc := defScope s_law) (by decide +kernel)) (fun _ _ _ _ _ => (dg_name (pg_name (i := 9) sc_law.nd rfl (Or.inl rfl)))) (fun _ _ _ _ _ => dts_nil) (fun _ _ _ _ _ => (de_eq (de_var (pv 6)) (de_var (pv 9)))) (by decide)))) (dss_one (ds_ret de_bl)) dss_nil)
      (dss_one (ds_if (DW.dc (dw_or (dc_not (dc_val (de_isE hM_KeeperError hI_KeeperError (by rfl) hB_isinstance (by rfl) (de_ixL (dr_var (pv 5)) (de_var (pv 6)) (fun _ _ => rfl))))) (dw_or1 (dc_not (dc_val (de_isVE hI_ValueError (by rfl) hB_isinstance (by rfl) hB_ValueError (de_ixL (dr_var (pv 5)) (de_var (pv 6)) (fun _ _ => rfl)))))))) (dss_one (ds_ret de_bl)) dss_nil))))
      (dss_cons (ds_set (i := 7) (fun _ h => ps_set (i := 7) sc_law.nd rfl (Or.inl rfl) h) (de_lst (das_cons (de_fld (de_ixL (dr_var (pv 5)) de_int (fun _ _ => rfl))) (das_cons (de_fld (de_ixL (dr_var (pv 5)) de_int (fun _ _ => rfl))) (das_cons (de_fld (de_ixL (dr_var (pv 5)) de_int (fun _ _ => rfl))) (das_cons (de_fld (de_ixL (dr_var (pv 5)) de_int (fun _ _ => rfl))) (das_cons (de_fld (de_ixL (dr_var (pv 5)) de_int (fun _ _ => rfl))) (das_cons (de_fld (de_ixL (dr_var (pv 5)) de_int (fun _ _ => rfl))) das_nil))))))))
      (dss_cons (ds_set (i := 7) (fun _ h => ps_set (i := 7) sc_law.nd rfl (Or.inl rfl) h) (de_catZ (de_var (pv 7)) (de_lst (das_cons (de_fld (de_ixL (dr_var (pv 5)) de_int (fun _ _ => rfl))) (das_cons (de_fld (de_ixL (dr_var (pv 5)) de_int (fun _ _ => rfl))) (das_cons (de_fld (de_ixL (dr_var (pv 5)) de_int (fun _ _ => rfl))) (das_cons (de_fld (de_ixL (dr_var (pv 5)) de_int (fun _ _ => rfl))) (das_cons (de_fld (de_ixL (dr_var (pv 5)) de_int (fun _ _ => rfl))) das_nil))))))))
      (dss_cons (ds_set (i := 8) (fun _ h => ps_set (i := 8) sc_law.nd rfl (Or.inl rfl) h) (de_lst (das_cons (de_fld (de_errK hE_BadRow hr (by rfl) (de_var (pv 4)))) (das_cons (de_fld (de_errK hE_BadStock hr (by rfl) (de_var (pv 4)))) (das_cons (de_fld (de_errK hE_BadText hr (by rfl) (de_var (pv 4)))) das_nil)))))
      (dss_cons (ds_set (i := 8) (fun _ h => ps_set (i := 8) sc_law.nd rfl (Or.inl rfl) h) (de_catZ (de_var (pv 8)) (de_lst (das_cons (de_fld (de_errK hE_NoAnswers hr (by rfl) (de_var (pv 4)))) (das_cons (de_fld (de_errK hE_NoNumber hr (by rfl) (de_var (pv 4)))) (das_cons (de_fld (de_errK hE_NoRelation hr (by rfl) (de_var (pv 4)))) das_nil))))))
      (dss_cons (ds_set (i := 8) (fun _ h => ps_set (i := 8) sc_law.nd rfl (Or.inl rfl) h) (de_catZ (de_var (pv 8)) (de_lst (das_cons (de_fld (de_errK hE_NotOne hr (by rfl) (de_var (pv 4)))) (das_cons (de_fld (de_errK hE_NoUnknown hr (by rfl) (de_var (pv 4)))) (das_cons (de_fld (de_errK hE_NoVersion hr (by rfl) (de_var (pv 4)))) das_nil))))))
      (dss_cons (ds_set (i := 8) (fun _ h => ps_set (i := 8) sc_law.nd rfl (Or.inl rfl) h) (de_catZ (de_var (pv 8)) (de_lst (das_cons (de_fld (de_errK hE_Rejected hr (by rfl) (de_var (pv 4)))) (das_cons (de_fld (de_errK hE_TooHard hr (by rfl) (de_var (pv 4)))) das_nil)))))
      (dss_one (ds_if (dc_ne (de_repr hG hr (by rfl) hB_repr (da_val (de_lst (das_cons (de_var (pv 7)) (das_cons (de_var (pv 8)) das_nil))) da_nil)) (de_repr hG hr (by rfl) hB_repr (da_val (de_mulZ (de_lst (das_cons (de_mulZ (de_lst (das_cons (de_var (pv 4)) das_nil)) de_int) das_nil)) de_int) da_nil))) (dss_one (ds_ret de_bl)) dss_nil))))))))))))
      (dss_one (ds_ret de_bl)))))))), ?_⟩
  refine ⟨_, rfl, a, ns, rfl, hs, hl, fun k xs ys H' hd => ?_⟩
  refine ⟨some k, H', ⟨[], []⟩, _, rel_deck (by decide) hd, ?_⟩
  refine ⟨by decide, fun a1 => ⟨by decide, by decide, fun a2 => ?_⟩⟩
  refine ⟨⟨by decide +kernel, by decide +kernel, by decide +kernel, by decide +kernel⟩, ?_⟩
  refine ⟨⟨by decide, by decide⟩, ?_⟩
  refine forW_inv (fun i e => ∃ o3 o4 o5 o6 o7 o8 o9, e = [none, some .deck, some (.lst true a2 told), o3, o4, o5, o6, o7, o8, o9]) ⟨none, none, none, none, none, none, none, rfl⟩
    (fun i x e N hx ⟨o3, o4, o5, o6, o7, o8, o9, he⟩ hN => ?_) (fun e ⟨o3, o4, o5, o6, o7, o8, o9, he⟩ => ?_)
  · subst he
    refine ⟨rfl, rfl, fun v hv => ⟨v, rfl, fun a5 => ⟨⟨by decide, by decide⟩, ?_⟩⟩⟩
    refine forW_inv (fun i e => ∃ o3 o6 o7 o8 o9, e = [none, some .deck, some (.lst true a2 told), o3, some (.val v), some (.lst true a5 (made v)), o6, o7, o8, o9]) ⟨_, _, _, _, _, rfl⟩
      (fun i x e N' hx' ⟨o3, o6, o7, o8, o9, he⟩ hN' => ?_) (fun e ⟨o3, o6, o7, o8, o9, he⟩ => ?_)
    · subst he
      obtain ⟨hi, rfl⟩ := rng16 hx'
      obtain ⟨d, y, h1, h2, h3, h4⟩ := made_at v i hi
      have hat : atI (made v) (0 + (i : Int)) = some d := atI_at (i := i) (by omega) h1
      obtain ⟨s1, s2⟩ := same i hi
      rw [← h4] at s1 s2
      refine gIx_mk hat ⟨d, y, rfl, h2, h3, ⟨by decide, by decide⟩, by decide, compW_rng (fun j => D.bl (decide ((0 + (i : Int)) = 0 + ((j : Nat) : Int)))) (fun j hj P p => by
        show P (some (D.bl (false ^^ decide ((0 + (i : Int)) = 0 + ((j : Nat) : Int)))))
        rw [Bool.false_xor]
        exact p) ⟨s1, ?_⟩⟩
      refine onF s2 ?_
      refine gIx_mk hat ⟨y, h2, h3, ?_⟩
      refine gIx_mk hat ⟨y, h2, h3, ?_⟩
      exact hN' _ ⟨_, _, _, _, _, rfl⟩
    · subst he
      refine ⟨rfl, ?_⟩
      refine ⟨rfl, ?_⟩
      refine ⟨rfl, ?_⟩
      refine ⟨rfl, ?_⟩
      refine ⟨rfl, ?_⟩
      refine ⟨rfl, ?_⟩
      refine ⟨by simp, ?_⟩
      refine ⟨rfl, ?_⟩
      refine ⟨rfl, ?_⟩
      refine ⟨rfl, ?_⟩
      refine ⟨rfl, ?_⟩
      refine ⟨rfl, ?_⟩
      refine ⟨by simp, by simp, ?_⟩
      refine ⟨rfl, rfl, rfl, by simp, ?_⟩
      refine ⟨rfl, rfl, rfl, by simp, by simp, ?_⟩
      refine ⟨rfl, rfl, rfl, by simp, by simp, ?_⟩
      refine ⟨rfl, rfl, by simp, by simp, ?_⟩
      refine ⟨by simp, shows11 v hv, by simp, ⟨by decide, by decide, by simp⟩, by simp, ⟨by decide, by decide, by simp⟩, shows11 v hv, ?_⟩
      refine onF (ne_self (both11 v).py.shown) ?_
      exact hN _ ⟨_, _, _, _, _, _, _, rfl⟩
  · subst he
    refine fun v H2 ex r => ?_
    cases (show IsD K H2 (.bl true) v from r)
    exact q H2
end
end K00

set_option maxRecDepth 100000
set_option maxHeartbeats 2000000
/-! A head's facts, errors with an own __init__ among them. -/
namespace Hz
open PySem PySem.Spec PyProof.Rows L2 DL
abbrev bb {a b : Bool} (h : (a && b) = true) : a = true ∧ b = true := Bool.and_eq_true_iff.mp h
/-! ### the class's own object -/
def clsB (K : W.Frag) (C : Addr) : Bool := match K.lookup C with
  | some ⟨.type t, _, .cls cd, sl⟩ => decide (t = "type") && (match cd.mro, sl.toList with
    | .ref C' :: bm, [_, _, _, _, some (.builtin n), _] => decide (C' = C) && (decide (n = "ValueError.__new__") && (!cd.hasDel && (cd.hasDict && HandSPX.refsVE bm)))
    | _, _ => false)
  | _ => false
theorem clsB_ok {K : W.Frag} {C : Addr} (h : clsB K C = true) : ∃ nm q N bs bm sn sub ab col dd k0 k1 k2 k3 k5, K.lookup C = some (excClassObj nm q C N bs bm true sn sub ab col dd k0 k1 k2 k3 k5 "ValueError.__new__") ∧ HandSPX.refsVE bm = true := by
  unfold clsB at h
  cases e : K.lookup C with
  | none =>
    rw [e] at h
    cases h
  | some o =>
    obtain ⟨oc, od, dt, sl⟩ := o
    rw [e] at h
    cases oc with
    | type t =>
      cases dt with
      | cls cd =>
        obtain ⟨h1, h2⟩ := bb h
        have e1 := of_decide_eq_true h1
        subst e1
        obtain ⟨nm, bs, mro, ns, qn, hd, sn, sub, ab, col, del⟩ := cd
        obtain ⟨l⟩ := sl
        have h2' : (match (generalizing := false) mro, l with
          | .ref C' :: bm, [_, _, _, _, some (.builtin n), _] => decide (C' = C) && (decide (n = "ValueError.__new__") && (!del && (hd && HandSPX.refsVE bm)))
          | _, _ => false) = true := h2
        split at h2'
        · rename_i C' bm k0 k1 k2 k3 n k5
          obtain ⟨a1, h3⟩ := bb h2'
          obtain ⟨a2, h4⟩ := bb h3
          obtain ⟨a3, h5⟩ := bb h4
          obtain ⟨a4, a5⟩ := bb h5
          have e2 := of_decide_eq_true a1
          have e3 := of_decide_eq_true a2
          subst e2 e3
          cases del with
          | true => cases a3
          | false =>
            cases hd with
            | false => cases a4
            | true => exact ⟨nm, qn, ns, bs, bm, sn, sub, ab, col, od, k0, k1, k2, k3, k5, rfl, a5⟩
        · cases h2'
      | _ => cases h
    | _ => cases dt <;> cases h
/-! ### what every error's class says -/
def kitB (K : W.Frag) (C : Addr) : Bool := ["int", "bool", "tuple", "list", "str", "dict"].all fun n => decide (W.kitOne K (.ref C) (.type n) = some false)
def excB (K : W.Frag) (D : Addr) : Bool := He.eqO (W.findIn K (.ref D) "__getattribute__") (some (some (.builtin "BaseException.__getattribute__"))) && (He.eqO (W.findIn K (.ref D) "__getattr__") (some none) && (decide (W.subIn K (.ref D) (.type "BaseException") = some true) && (W.hasDictIn K D &&
  (He.eqO (W.findIn K (.ref D) "__class__") (some (some (.builtin "object.__class__"))) && (He.eqO (W.specialIn K (.builtin "object.__class__") "__get__") (some (some (.builtin "getset_descriptor.__get__"))) && (decide (W.takesIn K (.builtin "object.__class__") = some true) && decide (W.mroIn K D (.type "object") = some true)))))))
theorem excB_ok {K : W.Frag} {D : Addr} (h : excB K D = true) : ExcC K D := by
  obtain ⟨a1, h⟩ := bb h
  obtain ⟨a2, h⟩ := bb h
  obtain ⟨a3, h⟩ := bb h
  obtain ⟨a4, h⟩ := bb h
  obtain ⟨a5, h⟩ := bb h
  obtain ⟨a6, h⟩ := bb h
  obtain ⟨a7, a8⟩ := bb h
  exact ⟨He.eqO_ok a1, He.eqO_ok a2, of_decide_eq_true a3, a4, He.eqO_ok a5, He.eqO_ok a6, of_decide_eq_true a7, of_decide_eq_true a8⟩
def ercB (K : W.Frag) (x : Str) : Bool := excB K (He.ga K x) && kitB K (He.ga K x)
theorem ercB_ok {K : W.Frag} {x : Str} (h : ercB K x = true) : ErC K x := by
  obtain ⟨h1, h2⟩ := bb h
  exact ⟨excB_ok h1, fun n hn => of_decide_eq_true (List.all_eq_true.mp h2 n hn)⟩
/-! ### an __init__ -/
structure IniD where
  x : Str
  T : Er.ErrT
def iniAd (K : W.Frag) (d : IniD) : Addr := He.ma K (He.ga K d.x) "__init__"
abbrev IniV : Type := Option (Str × Str × Arguments × FuncBody × Scope × Addr × List Str × Addr)
def iniV (K : W.Frag) (d : IniD) : IniV := match K.lookup (iniAd K d) with
  | some ⟨_, _, .func fd, _⟩ => some (fd.name, fd.qualname, fd.params, fd.body, fd.scope, fd.globals, fd.closure.map (·.1), fd.builtins)
  | _ => none
def IniD.val (d : IniD) : IniV := some (d.T.name, d.T.qual, d.T.params, .stmts d.T.body, d.T.scope, mainGlobals, ["__class__"], builtinsNs)
/-- its code object, its cell -/
def codB (P : Program) (K : W.Frag) (fd : FuncData) (C : Addr) : Bool := (match fd.defaults with
    | .none => true
    | _ => false) && (W.codeIn K fd.code fd.qualname && ((match fd.code with
    | .ref cda => (match K.lookup cda with
      | some ⟨_, _, .fields vs, _⟩ => (match (vs[2]? : Option Value) with
        | some (.str file _) => (P.main.file : Str) == file
        | _ => false)
      | _ => false)
    | _ => false) && (match fd.closure with
    | [(_, cc)] => (match K.lookup cc with
      | some ⟨_, _, .cell (some (.ref D)), _⟩ => decide (D = C)
      | _ => false)
    | _ => false)))
def iniB (P : Program) (K : W.Frag) (d : IniD) : Bool := clsB K (He.ga K d.x) && (He.eqO (W.findIn K (.ref (He.ga K d.x)) "__setattr__") (some (some (.builtin "object.__setattr__"))) && (decide (W.subIn K (.ref (He.ga K d.x)) (.type "BaseException") = some true) && (decide (W.typeIn K (.ref (He.ga K d.x)) = some (.type "type")) &&
  (W.keepIn K (.ref (He.ga K d.x)) && (He.eqO (W.findIn K (.ref (He.ga K d.x)) "__init__") (some (some (.ref (iniAd K d)))) && (decide (W.typeIn K (.ref (iniAd K d)) = some (.type "function")) && (He.eqO (W.ks_superIn K (He.ga K d.x) (He.ga K d.x) "__init__") (some (some (.builtin "ValueError.__init__"))) &&
  (decide (W.subIn K (.ref (He.ga K d.x)) (.type "ValueError") = some true) && (decide (W.mroIn K (He.ga K d.x) (.ref (He.ga K d.x)) = some true) && (He.eqO (W.findIn K (.ref (He.ga K d.x)) d.T.f) (some none) && (xfB K (He.ga K d.x) && (match K.lookup (iniAd K d) with
  | some ⟨_, _, .func fd, _⟩ => codB P K fd (He.ga K d.x)
  | _ => false))))))))))))
/-- what stands for all -/
def allB (K : W.Frag) : Bool := He.eqO (W.nsIn K cStatics "thirdparty.any") (some none) && He.eqO (W.nsIn K mainGlobals "super") (some none)
theorem errF_of {P : Program} {K : W.Frag} {h : Heap} {mg : Str → Option Value} {d : IniD} (X : K.In h) (G : h.Ns mainGlobals mg) (hg : (He.Fa.glo d.x).ok K = true) (hc : ercB K d.x = true) (hA : allB K = true) (hi : iniB P K d = true) (hv : iniV K d = d.val) (hT : d.T.Ok)
    (top : (P.main.scope.names.lookup ("super" : Str)).isSome = false)
    (b1 : ∀ (kV doc pm ct : Value) (an : Option Addr) (cda cc : Addr) (a v : Value), bindArgs (W.fnX d.T.name d.T.qual d.T.params d.T.body d.T.scope [("__class__", cc)] .none kV doc pm an (.ref cda) ct) ⟨[a, v], []⟩ = pure [(("self" : Str), a), (d.T.f, v)])
    (b2 : ∀ (kV doc pm ct : Value) (an : Option Addr) (cda cc : Addr) (a v : Value), bindArgs (W.fnX d.T.name d.T.qual d.T.params d.T.body d.T.scope [("__class__", cc)] .none kV doc pm an (.ref cda) ct) ⟨[a], [(d.T.f, v)]⟩ = pure [(("self" : Str), a), (d.T.f, v)]) : ErF P K mg d.x d.T.f := by
  obtain ⟨q1, q2⟩ := bb hA
  obtain ⟨a1, hi⟩ := bb hi
  obtain ⟨a2, hi⟩ := bb hi
  obtain ⟨a3, hi⟩ := bb hi
  obtain ⟨a4, hi⟩ := bb hi
  obtain ⟨a5, hi⟩ := bb hi
  obtain ⟨a6, hi⟩ := bb hi
  obtain ⟨a7, hi⟩ := bb hi
  obtain ⟨a8, hi⟩ := bb hi
  obtain ⟨a9, hi⟩ := bb hi
  obtain ⟨a10, hi⟩ := bb hi
  obtain ⟨a11, hi⟩ := bb hi
  obtain ⟨a12, hi⟩ := bb hi
  unfold iniV at hv
  cases e : K.lookup (iniAd K d) with
  | none =>
    rw [e] at hi
    cases hi
  | some o =>
    obtain ⟨oc, od, dt, osl⟩ := o
    rw [e] at hi hv
    cases dt with
    | func fd =>
      obtain ⟨n1, n2, n3, n4, n5, n6, n7, n8, n9, n10, n11, n12, n13, n14, n15⟩ := fd
      have e2 : (some (n1, n2, n3, n4, n5, n6, n7.map (·.1), n15) : IniV) = some (d.T.name, d.T.qual, d.T.params, FuncBody.stmts d.T.body, d.T.scope, mainGlobals, [("__class__" : Str)], builtinsNs) := hv
      simp only [Option.some.injEq, Prod.mk.injEq] at e2
      obtain ⟨r1, r2, r3, r4, r5, r6, r7, r8⟩ := e2
      subst r1 r2 r3 r4 r5 r6 r8
      obtain ⟨c0, hi⟩ := bb (show codB P K _ _ = true from hi)
      obtain ⟨c1, hi⟩ := bb hi
      obtain rfl : n8 = .none := by
        have c0' : (match (generalizing := false) n8 with
          | .none => true
          | _ => false) = true := c0
        cases n8 <;> first | rfl | cases c0'
      obtain ⟨c2, c3⟩ := bb hi
      have c1' : W.codeIn K n13 d.T.qual = true := c1
      have c2' : (match (generalizing := false) n13 with
        | .ref cda => (match K.lookup cda with
          | some ⟨_, _, .fields vs, _⟩ => (match (vs[2]? : Option Value) with
            | some (.str file _) => (P.main.file : Str) == file
            | _ => false)
          | _ => false)
        | _ => false) = true := c2
      have c3' : (match (generalizing := false) n7 with
        | [(_, cc)] => (match K.lookup cc with
          | some ⟨_, _, .cell (some (.ref D)), _⟩ => decide (D = He.ga K d.x)
          | _ => false)
        | _ => false) = true := c3
      clear c1 c2 c3
      obtain ⟨cda, rfl⟩ : ∃ cda, n13 = .ref cda := by
        cases n13 <;> first | exact ⟨_, rfl⟩ | cases c2'
      obtain ⟨cc, rfl⟩ : ∃ cc : Addr, n7 = [(("__class__" : Str), cc)] := by
        match n7, r7 with
        | [(y, cc)], r7 =>
          have z : y = ("__class__" : Str) := by simpa using r7
          exact ⟨cc, by rw [z]⟩
      refine ⟨⟨d.T, iniAd K d, _, rfl, hT, ⟨⟨clsB_ok a1, He.eqO_ok a2, of_decide_eq_true a3, of_decide_eq_true a4, a5⟩, ⟨oc, od, osl, .none, n9, n10, n11, n12, cda, n14, cc, rfl, e, c1', ?_, ?_⟩, He.eqO_ok a6, of_decide_eq_true a7, He.eqO_ok a8, of_decide_eq_true a9, of_decide_eq_true a10, He.eqO_ok q1, He.eqO_ok q2, He.eqO_ok a11, top⟩, ?_, ?_⟩, ercB_ok hc, xfB_ok a12, He.glo_ok X G hg⟩
      · cases ec : K.lookup cda with
        | none =>
          dsimp only at c2'
          rw [ec] at c2'
          cases c2'
        | some o =>
          obtain ⟨xc, xd, dt, xs⟩ := o
          dsimp only at c2'
          rw [ec] at c2'
          cases dt with
          | fields vs =>
            dsimp only at c2'
            cases ev : vs[2]? with
            | none =>
              rw [ev] at c2'
              cases c2'
            | some v =>
              rw [ev] at c2'
              cases v with
              | str file tf => exact ⟨_, _, _, _, file, tf, rfl, ev, c2'⟩
              | _ => cases c2'
          | _ => cases c2'
      · dsimp only at c3'
        cases ec : K.lookup cc with
        | none =>
          rw [ec] at c3'
          cases c3'
        | some o =>
          obtain ⟨xc, xd, dt, xs⟩ := o
          rw [ec] at c3'
          cases dt with
          | cell v =>
            cases v with
            | none => cases c3'
            | some v =>
              cases v with
              | ref D =>
                have z : D = He.ga K d.x := of_decide_eq_true c3'
                subst z
                exact ⟨_, _, _, rfl⟩
              | _ => cases c3'
          | _ => cases c3'
      · exact fun s a v => BindsTo.of_eq (b1 _ _ _ _ _ _ _ _ _)
      · exact fun s a v => BindsTo.of_eq (b2 _ _ _ _ _ _ _ _ _)
    | _ => cases hi
/-! ### the Hook -/
def asZ (g : Addr → Option Obj) : Nat → List Addr
  | 0 => [mainGlobals, cStatics]
  | n + 1 => He.growD g (asZ g n)
abbrev AlZ : Type := He.AlD × (Bool × List IniV)
section
variable (n : Nat) (fa : List He.Fa) (fn : List He.DefD) (ex : W.Frag → Bool) (en : List IniD)
def obsK (K : W.Frag) : AlZ := (He.obsD fa fn K, ex K, en.map (iniV K))
def obsZ (g : Addr → Option Obj) : AlZ := obsK fa fn ex en (He.frG g (asZ g n))
def valZ : AlZ := (He.valD fn, true, en.map IniD.val)
structure SaysZ (K : W.Frag) : Prop where
  d : He.SaysD fa fn K
  x : ex K = true
  i : en.map (iniV K) = en.map IniD.val
def hookZ : W.Hook where
  α := AlZ
  obs := fun s => obsZ n fa fn ex en s.heap.get?
  val := fun _ => valZ fn en
  says := fun _ h => ∃ K : W.Frag, K.In h ∧ SaysZ fa fn ex en K
  of := fun _ _ e => ⟨_, He.frG_in, ⟨congrArg (fun z : AlZ => z.1) e, congrArg (fun z : AlZ => z.2.1) e, congrArg (fun z : AlZ => z.2.2) e⟩⟩
  keeps := fun _ _ _ ⟨K, hK, c⟩ k => ⟨K, W.Frag.In.keeps hK k, c⟩
theorem obsZ_eq {g : Addr → Option Obj} {s : Shared} (h : ∀ a, g a = s.heap.get? a) : obsZ n fa fn ex en g = (hookZ n fa fn ex en).obs s := by
  rw [show g = s.heap.get? from funext h]
  rfl
end
theorem SaysZ.ini {fa : List He.Fa} {fn : List He.DefD} {ex : W.Frag → Bool} {en : List IniD} {K : W.Frag} (c : SaysZ fa fn ex en K) (i : Nat) {d : IniD} (h : en[i]? = some d := by rfl) : iniV K d = d.val := by
  have z := congrArg (fun l : List IniV => l[i]?) c.i
  have z' : (en.map (iniV K))[i]? = (en.map IniD.val)[i]? := z
  rw [List.getElem?_map, List.getElem?_map, h] at z'
  exact Option.some.inj z'
theorem errN_of {K : W.Frag} {h : Heap} {mg : Str → Option Value} {x : Str} (X : K.In h) (G : h.Ns mainGlobals mg) (hg : (He.Fa.glo x).ok K = true) (hc : ercB K x = true) (he : (He.Fa.exc x).ok K = true) : ErN K mg x := by
  obtain ⟨a, b, _, _⟩ := He.exc_ok he
  exact ⟨a, b, ercB_ok hc, He.glo_ok X G hg⟩
end Hz

set_option maxRecDepth 100000
set_option maxHeartbeats 0
namespace K00
open PySem PySem.Spec PyProof.Rows L2 DL
/-- an __init__ as it stands in its class -/
def iniT (s : Stmt) (q : Str) : Er.ErrT := match s with
  | .ClassDef _ _ _ [.FunctionDef nm ps [.Expr (.Call (.Attribute (.Call (.Name _ p0) [] [] p1) _ p2) [.Constant (.str m) j p3] [] p4) p5, .Assign [.Attribute (.Name _ p6) f p7] (.Name _ p8) p9] _ _ _ sc _ _ _] _ _ _ _ _ _ _ => ⟨nm, q, ps, sc, f, m, j, p0, p1, p2, p3, p4, p5, p6, p7, p8, p9⟩
  | _ => ⟨"", "", ⟨[], [], none, [], [], none, []⟩, default, "", "", 0, ⟨0, 0, 0, 0⟩, ⟨0, 0, 0, 0⟩, ⟨0, 0, 0, 0⟩, ⟨0, 0, 0, 0⟩, ⟨0, 0, 0, 0⟩, ⟨0, 0, 0, 0⟩, ⟨0, 0, 0, 0⟩, ⟨0, 0, 0, 0⟩, ⟨0, 0, 0, 0⟩, ⟨0, 0, 0, 0⟩⟩
def t_BadRow : Er.ErrT := iniT (topS 3) "BadRow.__init__"
theorem tok_BadRow : t_BadRow.Ok := ⟨⟨_, rfl, rfl⟩, rfl, rfl, rfl, rfl, rfl, rfl, rfl, by decide +kernel, by decide +kernel, by decide +kernel, by decide +kernel⟩
def i_BadRow : Hz.IniD := ⟨"BadRow", t_BadRow⟩
def t_BadStock : Er.ErrT := iniT (topS 4) "BadStock.__init__"
theorem tok_BadStock : t_BadStock.Ok := ⟨⟨_, rfl, rfl⟩, rfl, rfl, rfl, rfl, rfl, rfl, rfl, by decide +kernel, by decide +kernel, by decide +kernel, by decide +kernel⟩
def i_BadStock : Hz.IniD := ⟨"BadStock", t_BadStock⟩
def t_BadText : Er.ErrT := iniT (topS 5) "BadText.__init__"
theorem tok_BadText : t_BadText.Ok := ⟨⟨_, rfl, rfl⟩, rfl, rfl, rfl, rfl, rfl, rfl, rfl, by decide +kernel, by decide +kernel, by decide +kernel, by decide +kernel⟩
def i_BadText : Hz.IniD := ⟨"BadText", t_BadText⟩
def t_NoAnswers : Er.ErrT := iniT (topS 7) "NoAnswers.__init__"
theorem tok_NoAnswers : t_NoAnswers.Ok := ⟨⟨_, rfl, rfl⟩, rfl, rfl, rfl, rfl, rfl, rfl, rfl, by decide +kernel, by decide +kernel, by decide +kernel, by decide +kernel⟩
def i_NoAnswers : Hz.IniD := ⟨"NoAnswers", t_NoAnswers⟩
def t_NoNumber : Er.ErrT := iniT (topS 8) "NoNumber.__init__"
theorem tok_NoNumber : t_NoNumber.Ok := ⟨⟨_, rfl, rfl⟩, rfl, rfl, rfl, rfl, rfl, rfl, rfl, by decide +kernel, by decide +kernel, by decide +kernel, by decide +kernel⟩
def i_NoNumber : Hz.IniD := ⟨"NoNumber", t_NoNumber⟩
def t_NoRelation : Er.ErrT := iniT (topS 9) "NoRelation.__init__"
theorem tok_NoRelation : t_NoRelation.Ok := ⟨⟨_, rfl, rfl⟩, rfl, rfl, rfl, rfl, rfl, rfl, rfl, by decide +kernel, by decide +kernel, by decide +kernel, by decide +kernel⟩
def i_NoRelation : Hz.IniD := ⟨"NoRelation", t_NoRelation⟩
def t_NotOne : Er.ErrT := iniT (topS 10) "NotOne.__init__"
theorem tok_NotOne : t_NotOne.Ok := ⟨⟨_, rfl, rfl⟩, rfl, rfl, rfl, rfl, rfl, rfl, rfl, by decide +kernel, by decide +kernel, by decide +kernel, by decide +kernel⟩
def i_NotOne : Hz.IniD := ⟨"NotOne", t_NotOne⟩
def t_NoUnknown : Er.ErrT := iniT (topS 12) "NoUnknown.__init__"
theorem tok_NoUnknown : t_NoUnknown.Ok := ⟨⟨_, rfl, rfl⟩, rfl, rfl, rfl, rfl, rfl, rfl, rfl, by decide +kernel, by decide +kernel, by decide +kernel, by decide +kernel⟩
def i_NoUnknown : Hz.IniD := ⟨"NoUnknown", t_NoUnknown⟩
def t_NoVersion : Er.ErrT := iniT (topS 13) "NoVersion.__init__"
theorem tok_NoVersion : t_NoVersion.Ok := ⟨⟨_, rfl, rfl⟩, rfl, rfl, rfl, rfl, rfl, rfl, rfl, by decide +kernel, by decide +kernel, by decide +kernel, by decide +kernel⟩
def i_NoVersion : Hz.IniD := ⟨"NoVersion", t_NoVersion⟩
def t_Rejected : Er.ErrT := iniT (topS 14) "Rejected.__init__"
theorem tok_Rejected : t_Rejected.Ok := ⟨⟨_, rfl, rfl⟩, rfl, rfl, rfl, rfl, rfl, rfl, rfl, by decide +kernel, by decide +kernel, by decide +kernel, by decide +kernel⟩
def i_Rejected : Hz.IniD := ⟨"Rejected", t_Rejected⟩
def t_TooHard : Er.ErrT := iniT (topS 15) "TooHard.__init__"
theorem tok_TooHard : t_TooHard.Ok := ⟨⟨_, rfl, rfl⟩, rfl, rfl, rfl, rfl, rfl, rfl, rfl, by decide +kernel, by decide +kernel, by decide +kernel, by decide +kernel⟩
def i_TooHard : Hz.IniD := ⟨"TooHard", t_TooHard⟩
def en : List Hz.IniD := [i_BadRow, i_BadStock, i_BadText, i_NoAnswers, i_NoNumber, i_NoRelation, i_NotOne, i_NoUnknown, i_NoVersion, i_Rejected, i_TooHard]
def PG : Program := PySem.Challenge.pw_sixkeepers_k00_errors_and_bounds
def ex (K : PySem.W.Frag) : Bool := Hz.allB K && ((ers.all fun x => Hz.ercB K x) && ((en.all fun d => Hz.iniB PG K d) && ((ers.all fun x => ers.all fun y => decide (PySem.W.kitOne K (.ref (He.ga K x)) (.ref (He.ga K y)) = some (x == y))) &&
  (ers.all fun x => decide (PySem.W.kitOne K (.ref (He.ga K x)) (.ref (He.ga K "KeeperError")) = some true) && decide (PySem.W.kitOne K (.ref (He.ga K x)) (.type "ValueError") = some true)))))
def d_law_deck : He.DefD := ⟨("_law_deck", none), "_law_deck", "_law_deck", defArgs s_law_deck, defBody s_law_deck, defScope s_law_deck, [], []⟩
def d_law_draw : He.DefD := ⟨("_law_draw", none), "_law_draw", "_law_draw", defArgs s_law_draw, defBody s_law_draw, defScope s_law_draw, [], []⟩
def d_law_one : He.DefD := ⟨("_law_one", none), "_law_one", "_law_one", defArgs s_law_one, defBody s_law_one, defScope s_law_one, [], []⟩
def d_law_odd : He.DefD := ⟨("_law_odd", none), "_law_odd", "_law_odd", defArgs s_law_odd, defBody s_law_odd, defScope s_law_odd, [], []⟩
def d_law_made : He.DefD := ⟨("_law_made", none), "_law_made", "_law_made", defArgs s_law_made, defBody s_law_made, defScope s_law_made, [], []⟩
def d_law_classes : He.DefD := ⟨("_law_classes", none), "_law_classes", "_law_classes", defArgs s_law_classes, defBody s_law_classes, defScope s_law_classes, [], []⟩
def d_law : He.DefD := ⟨("law", none), "law", "law", defArgs s_law, defBody s_law, defScope s_law, [], []⟩
def fn : List He.DefD := [d_law_deck, d_law_draw, d_law_one, d_law_odd, d_law_made, d_law_classes, d_law]
def fa : List He.Fa := [.glo "_law_deck", .glo "_law_draw", .glo "_law_one", .glo "_law_odd", .glo "_law_made", .glo "_law_classes", .glo "law", .free "abs", .free "len", .free "int", .free "isinstance", .free "range", .free "repr", .free "ValueError", .int "MAX_ARITY" 5, .int "MAX_ROWS" 12, .int "MAX_STOCK" 6, .int "MAX_UNKNOWNS" 40, .int "MAX_FACTS" 80, .int "MAX_SMALL" 10, .int "MAX_HARD" 14, .int "MAX_OPERATIONS" 6, .int "MAX_SEEN" 4, .int "MAX_LOTS" 10, .int "MAX_CLAUSES" 60, .int "MAX_SUMS" 400, .int "MAX_LEARNT" 8, .int "MAX_WIDTH" 3, .int "MAX_NAME" 8, .int "MAX_HISTORY" 10, .int "HISTORY" 30, .int "BATCH" 20, .glo "BadBatch", .glo "BadRow", .glo "BadStock", .glo "BadText", .glo "Busy", .glo "NoAnswers", .glo "NoNumber", .glo "NoRelation", .glo "NotOne", .glo "NothingToUndo", .glo "NoUnknown", .glo "NoVersion", .glo "Rejected", .glo "TooHard", .glo "TooManyEdits", .glo "Unfit", .glo "KeeperError", .exc "BadBatch", .exc "Busy", .exc "NothingToUndo", .exc "TooManyEdits", .exc "Unfit"]
abbrev R : PySem.W.OpenRow := PySem.W.OpenLaw.row PySem.Challenge.rw_sixkeepers_k00_errors_and_bounds
abbrev hk : PySem.W.Hook := Hz.hookZ 5 fa fn ex en
def ob (s : PySem.W.SharedT) : Hz.AlZ := Hz.obsZ 5 fa fn ex en (HandSHeadRun.getT s)
theorem ob_eq (s : PySem.W.SharedT) : ob s = hk.obs s.abs := Hz.obsZ_eq 5 fa fn ex en (HandSHeadRun.getT_eq s)
def loose : List Str := (["MAX_ARITY", "MAX_ROWS", "MAX_STOCK", "MAX_UNKNOWNS", "MAX_FACTS", "MAX_SMALL", "MAX_HARD", "MAX_OPERATIONS", "MAX_SEEN", "MAX_LOTS", "MAX_CLAUSES", "MAX_SUMS", "MAX_LEARNT", "MAX_WIDTH", "MAX_NAME", "MAX_HISTORY", "HISTORY", "BATCH"] : List Str) ++ (["_law_deck", "_law_draw", "_law_one", "_law_odd", "_law_made", "_law_classes"] : List Str) ++ (["BadBatch", "BadRow", "BadStock", "BadText", "Busy", "NoAnswers", "NoNumber", "NoRelation", "NotOne", "NothingToUndo", "NoUnknown", "NoVersion", "Rejected", "TooHard", "TooManyEdits", "Unfit", "KeeperError"] : List Str)
theorem run (w : World) : HandSHeadRun.RunEq R (PySem.W.view R.prog [43]) hk ob 20000 loose w := by
  intro os
  kernel_rfl
theorem facts {w : World} {K : PySem.W.Frag} {h : Heap} {mg : Str → Option Value} {f : Addr} (X : K.In h) (G : h.Ns mainGlobals mg) (hfa : mg ("law" : Str) = some (.ref f)) (z : Hz.SaysZ fa fn ex en K) :
    ∃ fd : FuncData, (∀ (s : Shared) (v : Value), BindsTo s fd ⟨[v], []⟩ [("_law_script", v)]) ∧ ∀ base : Heap, K.In base → base.Ns mainGlobals mg → FnG PG w K mg base 4 f fd P_law (spLaw K) := by
  have c := z.d
  obtain ⟨eA, e1⟩ := Hz.bb z.x
  obtain ⟨eC, e2⟩ := Hz.bb e1
  obtain ⟨eI, e3⟩ := Hz.bb e2
  obtain ⟨eK, eV⟩ := Hz.bb e3
  have top : (PG.main.scope.names.lookup ("super" : Str)).isSome = false := by decide +kernel
  have erc : ∀ x ∈ ers, Hz.ercB K x = true := List.all_eq_true.mp eC
  have ini : ∀ d ∈ en, Hz.iniB PG K d = true := List.all_eq_true.mp eI
  have kit : ∀ x ∈ ers, ∀ y ∈ ers, PySem.W.kitOne K (.ref (He.ga K x)) (.ref (He.ga K y)) = some (x == y) := fun x hx y hy => of_decide_eq_true (List.all_eq_true.mp (List.all_eq_true.mp eK x hx) y hy)
  have hI_KeeperError : ∀ x ∈ ers, PySem.W.kitOne K (.ref (He.ga K x)) (.ref (He.ga K "KeeperError")) = some true := fun x hx => of_decide_eq_true (Hz.bb (List.all_eq_true.mp eV x hx)).1
  have hI_ValueError : ∀ x ∈ ers, PySem.W.kitOne K (.ref (He.ga K x)) (.type "ValueError") = some true := fun x hx => of_decide_eq_true (Hz.bb (List.all_eq_true.mp eV x hx)).2
  have hM_BadBatch : mg "BadBatch" = some (.ref (He.ga K "BadBatch")) := He.glo_ok X G (c.fact 32 (f := .glo "BadBatch") rfl)
  have hM_BadRow : mg "BadRow" = some (.ref (He.ga K "BadRow")) := He.glo_ok X G (c.fact 33 (f := .glo "BadRow") rfl)
  have hM_BadStock : mg "BadStock" = some (.ref (He.ga K "BadStock")) := He.glo_ok X G (c.fact 34 (f := .glo "BadStock") rfl)
  have hM_BadText : mg "BadText" = some (.ref (He.ga K "BadText")) := He.glo_ok X G (c.fact 35 (f := .glo "BadText") rfl)
  have hM_Busy : mg "Busy" = some (.ref (He.ga K "Busy")) := He.glo_ok X G (c.fact 36 (f := .glo "Busy") rfl)
  have hM_NoAnswers : mg "NoAnswers" = some (.ref (He.ga K "NoAnswers")) := He.glo_ok X G (c.fact 37 (f := .glo "NoAnswers") rfl)
  have hM_NoNumber : mg "NoNumber" = some (.ref (He.ga K "NoNumber")) := He.glo_ok X G (c.fact 38 (f := .glo "NoNumber") rfl)
  have hM_NoRelation : mg "NoRelation" = some (.ref (He.ga K "NoRelation")) := He.glo_ok X G (c.fact 39 (f := .glo "NoRelation") rfl)
  have hM_NotOne : mg "NotOne" = some (.ref (He.ga K "NotOne")) := He.glo_ok X G (c.fact 40 (f := .glo "NotOne") rfl)
  have hM_NothingToUndo : mg "NothingToUndo" = some (.ref (He.ga K "NothingToUndo")) := He.glo_ok X G (c.fact 41 (f := .glo "NothingToUndo") rfl)
  have hM_NoUnknown : mg "NoUnknown" = some (.ref (He.ga K "NoUnknown")) := He.glo_ok X G (c.fact 42 (f := .glo "NoUnknown") rfl)
  have hM_NoVersion : mg "NoVersion" = some (.ref (He.ga K "NoVersion")) := He.glo_ok X G (c.fact 43 (f := .glo "NoVersion") rfl)
  have hM_Rejected : mg "Rejected" = some (.ref (He.ga K "Rejected")) := He.glo_ok X G (c.fact 44 (f := .glo "Rejected") rfl)
  have hM_TooHard : mg "TooHard" = some (.ref (He.ga K "TooHard")) := He.glo_ok X G (c.fact 45 (f := .glo "TooHard") rfl)
  have hM_TooManyEdits : mg "TooManyEdits" = some (.ref (He.ga K "TooManyEdits")) := He.glo_ok X G (c.fact 46 (f := .glo "TooManyEdits") rfl)
  have hM_Unfit : mg "Unfit" = some (.ref (He.ga K "Unfit")) := He.glo_ok X G (c.fact 47 (f := .glo "Unfit") rfl)
  have hM_KeeperError : mg "KeeperError" = some (.ref (He.ga K "KeeperError")) := He.glo_ok X G (c.fact 48 (f := .glo "KeeperError") rfl)
  have hI_BadBatch : ∀ x ∈ ers, PySem.W.kitOne K (.ref (He.ga K x)) (.ref (He.ga K "BadBatch")) = some (x == "BadBatch") := fun x hx => kit x hx _ (by decide)
  have hI_BadRow : ∀ x ∈ ers, PySem.W.kitOne K (.ref (He.ga K x)) (.ref (He.ga K "BadRow")) = some (x == "BadRow") := fun x hx => kit x hx _ (by decide)
  have hI_BadStock : ∀ x ∈ ers, PySem.W.kitOne K (.ref (He.ga K x)) (.ref (He.ga K "BadStock")) = some (x == "BadStock") := fun x hx => kit x hx _ (by decide)
  have hI_BadText : ∀ x ∈ ers, PySem.W.kitOne K (.ref (He.ga K x)) (.ref (He.ga K "BadText")) = some (x == "BadText") := fun x hx => kit x hx _ (by decide)
  have hI_Busy : ∀ x ∈ ers, PySem.W.kitOne K (.ref (He.ga K x)) (.ref (He.ga K "Busy")) = some (x == "Busy") := fun x hx => kit x hx _ (by decide)
  have hI_NoAnswers : ∀ x ∈ ers, PySem.W.kitOne K (.ref (He.ga K x)) (.ref (He.ga K "NoAnswers")) = some (x == "NoAnswers") := fun x hx => kit x hx _ (by decide)
  have hI_NoNumber : ∀ x ∈ ers, PySem.W.kitOne K (.ref (He.ga K x)) (.ref (He.ga K "NoNumber")) = some (x == "NoNumber") := fun x hx => kit x hx _ (by decide)
  have hI_NoRelation : ∀ x ∈ ers, PySem.W.kitOne K (.ref (He.ga K x)) (.ref (He.ga K "NoRelation")) = some (x == "NoRelation") := fun x hx => kit x hx _ (by decide)
  have hI_NotOne : ∀ x ∈ ers, PySem.W.kitOne K (.ref (He.ga K x)) (.ref (He.ga K "NotOne")) = some (x == "NotOne") := fun x hx => kit x hx _ (by decide)
  have hI_NothingToUndo : ∀ x ∈ ers, PySem.W.kitOne K (.ref (He.ga K x)) (.ref (He.ga K "NothingToUndo")) = some (x == "NothingToUndo") := fun x hx => kit x hx _ (by decide)
  have hI_NoUnknown : ∀ x ∈ ers, PySem.W.kitOne K (.ref (He.ga K x)) (.ref (He.ga K "NoUnknown")) = some (x == "NoUnknown") := fun x hx => kit x hx _ (by decide)
  have hI_NoVersion : ∀ x ∈ ers, PySem.W.kitOne K (.ref (He.ga K x)) (.ref (He.ga K "NoVersion")) = some (x == "NoVersion") := fun x hx => kit x hx _ (by decide)
  have hI_Rejected : ∀ x ∈ ers, PySem.W.kitOne K (.ref (He.ga K x)) (.ref (He.ga K "Rejected")) = some (x == "Rejected") := fun x hx => kit x hx _ (by decide)
  have hI_TooHard : ∀ x ∈ ers, PySem.W.kitOne K (.ref (He.ga K x)) (.ref (He.ga K "TooHard")) = some (x == "TooHard") := fun x hx => kit x hx _ (by decide)
  have hI_TooManyEdits : ∀ x ∈ ers, PySem.W.kitOne K (.ref (He.ga K x)) (.ref (He.ga K "TooManyEdits")) = some (x == "TooManyEdits") := fun x hx => kit x hx _ (by decide)
  have hI_Unfit : ∀ x ∈ ers, PySem.W.kitOne K (.ref (He.ga K x)) (.ref (He.ga K "Unfit")) = some (x == "Unfit") := fun x hx => kit x hx _ (by decide)
  have hE_BadRow : ErF PG K mg "BadRow" "given" := Hz.errF_of (d := i_BadRow) X G (c.fact 33 (f := .glo "BadRow") rfl) (erc _ (by decide)) eA (ini _ (by simp [en])) (z.ini 0) tok_BadRow top (by intros; kernel_rfl) (by intros; kernel_rfl)
  have hE_BadStock : ErF PG K mg "BadStock" "error" := Hz.errF_of (d := i_BadStock) X G (c.fact 34 (f := .glo "BadStock") rfl) (erc _ (by decide)) eA (ini _ (by simp [en])) (z.ini 1) tok_BadStock top (by intros; kernel_rfl) (by intros; kernel_rfl)
  have hE_BadText : ErF PG K mg "BadText" "place" := Hz.errF_of (d := i_BadText) X G (c.fact 35 (f := .glo "BadText") rfl) (erc _ (by decide)) eA (ini _ (by simp [en])) (z.ini 2) tok_BadText top (by intros; kernel_rfl) (by intros; kernel_rfl)
  have hE_NoAnswers : ErF PG K mg "NoAnswers" "reason" := Hz.errF_of (d := i_NoAnswers) X G (c.fact 37 (f := .glo "NoAnswers") rfl) (erc _ (by decide)) eA (ini _ (by simp [en])) (z.ini 3) tok_NoAnswers top (by intros; kernel_rfl) (by intros; kernel_rfl)
  have hE_NoNumber : ErF PG K mg "NoNumber" "number" := Hz.errF_of (d := i_NoNumber) X G (c.fact 38 (f := .glo "NoNumber") rfl) (erc _ (by decide)) eA (ini _ (by simp [en])) (z.ini 4) tok_NoNumber top (by intros; kernel_rfl) (by intros; kernel_rfl)
  have hE_NoRelation : ErF PG K mg "NoRelation" "given" := Hz.errF_of (d := i_NoRelation) X G (c.fact 39 (f := .glo "NoRelation") rfl) (erc _ (by decide)) eA (ini _ (by simp [en])) (z.ini 5) tok_NoRelation top (by intros; kernel_rfl) (by intros; kernel_rfl)
  have hE_NotOne : ErF PG K mg "NotOne" "given" := Hz.errF_of (d := i_NotOne) X G (c.fact 40 (f := .glo "NotOne") rfl) (erc _ (by decide)) eA (ini _ (by simp [en])) (z.ini 6) tok_NotOne top (by intros; kernel_rfl) (by intros; kernel_rfl)
  have hE_NoUnknown : ErF PG K mg "NoUnknown" "given" := Hz.errF_of (d := i_NoUnknown) X G (c.fact 42 (f := .glo "NoUnknown") rfl) (erc _ (by decide)) eA (ini _ (by simp [en])) (z.ini 7) tok_NoUnknown top (by intros; kernel_rfl) (by intros; kernel_rfl)
  have hE_NoVersion : ErF PG K mg "NoVersion" "given" := Hz.errF_of (d := i_NoVersion) X G (c.fact 43 (f := .glo "NoVersion") rfl) (erc _ (by decide)) eA (ini _ (by simp [en])) (z.ini 8) tok_NoVersion top (by intros; kernel_rfl) (by intros; kernel_rfl)
  have hE_Rejected : ErF PG K mg "Rejected" "index" := Hz.errF_of (d := i_Rejected) X G (c.fact 44 (f := .glo "Rejected") rfl) (erc _ (by decide)) eA (ini _ (by simp [en])) (z.ini 9) tok_Rejected top (by intros; kernel_rfl) (by intros; kernel_rfl)
  have hE_TooHard : ErF PG K mg "TooHard" "size" := Hz.errF_of (d := i_TooHard) X G (c.fact 45 (f := .glo "TooHard") rfl) (erc _ (by decide)) eA (ini _ (by simp [en])) (z.ini 10) tok_TooHard top (by intros; kernel_rfl) (by intros; kernel_rfl)
  have hE_BadBatch : ErN K mg "BadBatch" := Hz.errN_of X G (c.fact 32 (f := .glo "BadBatch") rfl) (erc _ (by decide)) (c.fact 49 (f := .exc "BadBatch") rfl)
  have hE_Busy : ErN K mg "Busy" := Hz.errN_of X G (c.fact 36 (f := .glo "Busy") rfl) (erc _ (by decide)) (c.fact 50 (f := .exc "Busy") rfl)
  have hE_NothingToUndo : ErN K mg "NothingToUndo" := Hz.errN_of X G (c.fact 41 (f := .glo "NothingToUndo") rfl) (erc _ (by decide)) (c.fact 51 (f := .exc "NothingToUndo") rfl)
  have hE_TooManyEdits : ErN K mg "TooManyEdits" := Hz.errN_of X G (c.fact 46 (f := .glo "TooManyEdits") rfl) (erc _ (by decide)) (c.fact 52 (f := .exc "TooManyEdits") rfl)
  have hE_Unfit : ErN K mg "Unfit" := Hz.errN_of X G (c.fact 47 (f := .glo "Unfit") rfl) (erc _ (by decide)) (c.fact 53 (f := .exc "Unfit") rfl)
  obtain ⟨fd_law_deck, F_law_deck⟩ := c.def_ 0 (d := d_law_deck) rfl
  have A_law_deck : At K mg "_law_deck" s_law_deck _ fd_law_deck P_law_deck := ⟨He.glo_ok X G (c.fact 0 (f := .glo "_law_deck") rfl), F_law_deck, F_law_deck.bindsN fun _ _ _ _ _ _ us hl => match us, hl with | [_], _ => rfl⟩
  obtain ⟨fd_law_draw, F_law_draw⟩ := c.def_ 1 (d := d_law_draw) rfl
  have A_law_draw : At K mg "_law_draw" s_law_draw _ fd_law_draw P_law_draw := ⟨He.glo_ok X G (c.fact 1 (f := .glo "_law_draw") rfl), F_law_draw, F_law_draw.bindsN fun _ _ _ _ _ _ us hl => match us, hl with | [_, _], _ => rfl⟩
  obtain ⟨fd_law_one, F_law_one⟩ := c.def_ 2 (d := d_law_one) rfl
  have A_law_one : At K mg "_law_one" s_law_one _ fd_law_one P_law_one := ⟨He.glo_ok X G (c.fact 2 (f := .glo "_law_one") rfl), F_law_one, F_law_one.bindsN fun _ _ _ _ _ _ us hl => match us, hl with | [_, _], _ => rfl⟩
  obtain ⟨fd_law_odd, F_law_odd⟩ := c.def_ 3 (d := d_law_odd) rfl
  have A_law_odd : At K mg "_law_odd" s_law_odd _ fd_law_odd P_law_odd := ⟨He.glo_ok X G (c.fact 3 (f := .glo "_law_odd") rfl), F_law_odd, F_law_odd.bindsN fun _ _ _ _ _ _ us hl => match us, hl with | [_], _ => rfl⟩
  obtain ⟨fd_law_made, F_law_made⟩ := c.def_ 4 (d := d_law_made) rfl
  have A_law_made : At K mg "_law_made" s_law_made _ fd_law_made P_law_made := ⟨He.glo_ok X G (c.fact 4 (f := .glo "_law_made") rfl), F_law_made, F_law_made.bindsN fun _ _ _ _ _ _ us hl => match us, hl with | [_], _ => rfl⟩
  obtain ⟨fd_law_classes, F_law_classes⟩ := c.def_ 5 (d := d_law_classes) rfl
  have A_law_classes : At K mg "_law_classes" s_law_classes _ fd_law_classes P_law_classes := ⟨He.glo_ok X G (c.fact 5 (f := .glo "_law_classes") rfl), F_law_classes, F_law_classes.bindsN fun _ _ _ _ _ _ us hl => match us, hl with | [_], _ => rfl⟩
  obtain ⟨fd, FL⟩ := c.def_ 6 (d := d_law) rfl
  have e := hfa.symm.trans (He.glo_ok X G (c.fact 6 (f := .glo "law") rfl))
  cases e
  have hB_abs : mg "abs" = none := He.free_ok X G (c.fact 7 (f := .free "abs") rfl)
  have hB_len : mg "len" = none := He.free_ok X G (c.fact 8 (f := .free "len") rfl)
  have hB_int : mg "int" = none := He.free_ok X G (c.fact 9 (f := .free "int") rfl)
  have hB_isinstance : mg "isinstance" = none := He.free_ok X G (c.fact 10 (f := .free "isinstance") rfl)
  have hB_range : mg "range" = none := He.free_ok X G (c.fact 11 (f := .free "range") rfl)
  have hB_repr : mg "repr" = none := He.free_ok X G (c.fact 12 (f := .free "repr") rfl)
  have hB_ValueError : mg "ValueError" = none := He.free_ok X G (c.fact 13 (f := .free "ValueError") rfl)
  have hC_MAX_ARITY : ∃ t, mg "MAX_ARITY" = some (.int 5 t) := He.int_ok X G (c.fact 14 (f := .int "MAX_ARITY" 5) rfl)
  have hC_MAX_ROWS : ∃ t, mg "MAX_ROWS" = some (.int 12 t) := He.int_ok X G (c.fact 15 (f := .int "MAX_ROWS" 12) rfl)
  have hC_MAX_STOCK : ∃ t, mg "MAX_STOCK" = some (.int 6 t) := He.int_ok X G (c.fact 16 (f := .int "MAX_STOCK" 6) rfl)
  have hC_MAX_UNKNOWNS : ∃ t, mg "MAX_UNKNOWNS" = some (.int 40 t) := He.int_ok X G (c.fact 17 (f := .int "MAX_UNKNOWNS" 40) rfl)
  have hC_MAX_FACTS : ∃ t, mg "MAX_FACTS" = some (.int 80 t) := He.int_ok X G (c.fact 18 (f := .int "MAX_FACTS" 80) rfl)
  have hC_MAX_SMALL : ∃ t, mg "MAX_SMALL" = some (.int 10 t) := He.int_ok X G (c.fact 19 (f := .int "MAX_SMALL" 10) rfl)
  have hC_MAX_HARD : ∃ t, mg "MAX_HARD" = some (.int 14 t) := He.int_ok X G (c.fact 20 (f := .int "MAX_HARD" 14) rfl)
  have hC_MAX_OPERATIONS : ∃ t, mg "MAX_OPERATIONS" = some (.int 6 t) := He.int_ok X G (c.fact 21 (f := .int "MAX_OPERATIONS" 6) rfl)
  have hC_MAX_SEEN : ∃ t, mg "MAX_SEEN" = some (.int 4 t) := He.int_ok X G (c.fact 22 (f := .int "MAX_SEEN" 4) rfl)
  have hC_MAX_LOTS : ∃ t, mg "MAX_LOTS" = some (.int 10 t) := He.int_ok X G (c.fact 23 (f := .int "MAX_LOTS" 10) rfl)
  have hC_MAX_CLAUSES : ∃ t, mg "MAX_CLAUSES" = some (.int 60 t) := He.int_ok X G (c.fact 24 (f := .int "MAX_CLAUSES" 60) rfl)
  have hC_MAX_SUMS : ∃ t, mg "MAX_SUMS" = some (.int 400 t) := He.int_ok X G (c.fact 25 (f := .int "MAX_SUMS" 400) rfl)
  have hC_MAX_LEARNT : ∃ t, mg "MAX_LEARNT" = some (.int 8 t) := He.int_ok X G (c.fact 26 (f := .int "MAX_LEARNT" 8) rfl)
  have hC_MAX_WIDTH : ∃ t, mg "MAX_WIDTH" = some (.int 3 t) := He.int_ok X G (c.fact 27 (f := .int "MAX_WIDTH" 3) rfl)
  have hC_MAX_NAME : ∃ t, mg "MAX_NAME" = some (.int 8 t) := He.int_ok X G (c.fact 28 (f := .int "MAX_NAME" 8) rfl)
  have hC_MAX_HISTORY : ∃ t, mg "MAX_HISTORY" = some (.int 10 t) := He.int_ok X G (c.fact 29 (f := .int "MAX_HISTORY" 10) rfl)
  have hC_HISTORY : ∃ t, mg "HISTORY" = some (.int 30 t) := He.int_ok X G (c.fact 30 (f := .int "HISTORY" 30) rfl)
  have hC_BATCH : ∃ t, mg "BATCH" = some (.int 20 t) := He.int_ok X G (c.fact 31 (f := .int "BATCH" 20) rfl)
  have b := FunD.bindsA (ps := ["_law_script"]) FL fun _ _ _ _ _ _ us hl => match us, hl with | [_], _ => rfl
  refine ⟨fd, fun s v => b s [v] rfl, fun base _ _ => ?_⟩
  have C_law_deck := ok_law_deck (P := PG) (w := w) (base := base) A_law_deck hB_abs hB_len
  have C_law_draw := ok_law_draw (P := PG) (w := w) (base := base) A_law_draw hB_int hB_len
  have C_law_classes := ok_law_classes (P := PG) (w := w) (base := base) A_law_classes hB_isinstance hM_BadBatch hI_BadBatch hM_BadRow hI_BadRow hM_BadStock hI_BadStock hM_BadText hI_BadText hM_Busy hI_Busy hM_NoAnswers hI_NoAnswers hM_NoNumber hI_NoNumber hM_NoRelation hI_NoRelation hM_NotOne hI_NotOne hM_NothingToUndo hI_NothingToUndo hM_NoUnknown hI_NoUnknown hM_NoVersion hI_NoVersion hM_Rejected hI_Rejected hM_TooHard hI_TooHard hM_TooManyEdits hI_TooManyEdits hM_Unfit hI_Unfit
  have C_law_one := ok_law_one (P := PG) (w := w) (base := base) A_law_one C_law_draw hB_len
  have C_law_made := ok_law_made (P := PG) (w := w) (base := base) A_law_made hE_BadBatch hE_BadRow hE_BadStock hE_BadText hE_Busy hE_NoAnswers hE_NoNumber hE_NoRelation hE_NotOne hE_NothingToUndo hE_NoUnknown hE_NoVersion hE_Rejected hE_TooHard hE_TooManyEdits hE_Unfit
  have C_law_odd := ok_law_odd (P := PG) (w := w) (base := base) A_law_odd C_law_one
  exact ok_law FL C_law_deck C_law_odd C_law_made C_law_classes hB_range hB_repr hB_isinstance hB_ValueError hC_MAX_ARITY hC_MAX_ROWS hC_MAX_STOCK hC_MAX_UNKNOWNS hC_MAX_FACTS hC_MAX_SMALL hC_MAX_HARD hC_MAX_OPERATIONS hC_MAX_SEEN hC_MAX_LOTS hC_MAX_CLAUSES hC_MAX_SUMS hC_MAX_LEARNT hC_MAX_WIDTH hC_MAX_NAME hC_MAX_HISTORY hC_HISTORY hC_BATCH hE_BadRow hE_BadStock hE_BadText hE_NoAnswers hE_NoNumber hE_NoRelation hE_NotOne hE_NoUnknown hE_NoVersion hE_Rejected hE_TooHard hM_KeeperError hI_KeeperError hI_ValueError
end K00
open PySem PySem.W PySem.Calls PyProof.Rows
theorem PySem.Challenge.cw_sixkeepers_k00_errors_and_bounds_holds : PySem.Challenge.rw_sixkeepers_k00_errors_and_bounds.Holds := by
  w_on; o_law
  refine HandSHeadRun.head_any (r := OpenLaw.row PySem.Challenge.rw_sixkeepers_k00_errors_and_bounds) (q := view (OpenLaw.row PySem.Challenge.rw_sixkeepers_k00_errors_and_bounds).prog [43]) (H := K00.hk) (ob := K00.ob) (M := 20000) (loose := K00.loose) (d := HandSHeadRun.topDef (OpenLaw.row PySem.Challenge.rw_sixkeepers_k00_errors_and_bounds).prog 43) (kwd := []) K00.ob_eq
    (by kernel_rfl) (fun s => by kernel_rfl) K00.run (by kernel_rfl) (by kernel_rfl) (by kernel_rfl) (by rfl) (by first | assumption | decide +kernel) (by decide +kernel) ⟨rfl, rfl, rfl, rfl, rfl, by decide +kernel⟩ ?hw ?hc
  case hw => w_witness2
  case hc =>
    refine DL.walkG (l := PySem.Challenge.rw_sixkeepers_k00_errors_and_bounds) (n := 63) (k := 4) (x := "_law_script") rfl (by decide) (by kernel_rfl) ⟨rfl, by decide, by decide⟩ ?F
    intro w mg fa h Y G hmg0
    obtain ⟨K, KX, c⟩ := Y
    have hmg : mg ("law" : PySem.Str) = some (.ref fa) := by
      have e : (HandSHeadRun.topDef (OpenLaw.row PySem.Challenge.rw_sixkeepers_k00_errors_and_bounds).prog 43).name = ("law" : PySem.Str) := by kernel_rfl
      rw [← e]
      exact hmg0
    obtain ⟨fd, hb, hF⟩ := K00.facts (w := w) KX G hmg c
    exact ⟨K, fd, DL.spLaw K, KX, hb, fun H a ns hl _ hS => ⟨a, ns, rfl, hS, hl, fun _ => rfl⟩, hF⟩
