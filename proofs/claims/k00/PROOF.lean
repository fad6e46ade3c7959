import PyProof.Rows.All
import Wide.All
import OpenK.AllK
import Wide.FinOn
import HandS.Exc
import KE.KExcStr
import HandS.ForExc
import HandS.ExcInit
import HandS.ExcIs
import HandS.ExcValue
import HandS.IsInst
import PyProof.ReprRoads
import HandS.ForMost
import HandS.Wide
import PyProof.ReprLen
import HandS.Walk
import PySem.Challenge.RW_growfences_k00_errors_made
set_option Elab.async false
set_option linter.all false
set_option maxRecDepth 100000
set_option maxHeartbeats 2000000
namespace PySem
namespace ErX
open PySem.W PySem.Calls PyProof.Rows PySem.HandSPX

def iA (f : Str) (p1 p2 : Pos) : Arguments := { posonlyargs := [], args := [{ arg := "self", annotation := none, pos := p1 }, { arg := f, annotation := none, pos := p2 }], vararg := none, kwonlyargs := [], kw_defaults := [], kwarg := none, defaults := [] }
def iB (f m : Str) (p0 p1 p2 p3 p4 p5 q1 q2 q3 q4 : Pos) : List Stmt := [.Expr (.Call (.Attribute (.Call (.Name "super" p0) [] [] p1) "__init__" p2) [.Constant (.str m) 0 p3] [] p4) p5, .Assign [.Attribute (.Name "self" q1) f q2] (.Name f q3) q4]
def iS (f : Str) : Scope := { kind := .function, names := [(PySem.Str.ofString "self", .local), (f, .local), (PySem.Str.ofString "__class__", .free), (PySem.Str.ofString "super", .globalImplicit)], isGenerator := false, isCoroutine := false, more := [] }
structure FOk (f : Str) : Prop where
  ls : (iS f).names.lookup ("super" : Str) = some .globalImplicit
  lc : (iS f).names.lookup ("__class__" : Str) = some .free
  lo : (iS f).names.lookup ("self" : Str) = some .local
  lf : (iS f).names.lookup f = some .local
  nc : ∀ y ∈ (iS f).names, y.2 ≠ .cell
  nd : (f == ("__debug__" : Str)) = false
  ns : (f == ("self" : Str)) = false
  bk : ∀ (qual m : Str) (doc pm : Value) (an : Option Addr) (cdv ct : Value) (cc : Addr) (p1 p2 p3 p4 p5 p6 p7 p8 q1 q2 q3 q4 : Pos) (u v : Value), bindArgs (ksFn "__init__" qual (iA f p1 p2) (iB f m p3 p4 p5 p6 p7 p8 q1 q2 q3 q4) (iS f) .none .none doc pm an cdv ct cc) ⟨[u], [(f, v)]⟩ = pure [(("self" : Str), u), (f, v)]
  bp : ∀ (qual m : Str) (doc pm : Value) (an : Option Addr) (cdv ct : Value) (cc : Addr) (p1 p2 p3 p4 p5 p6 p7 p8 q1 q2 q3 q4 : Pos) (u v : Value), bindArgs (ksFn "__init__" qual (iA f p1 p2) (iB f m p3 p4 p5 p6 p7 p8 q1 q2 q3 q4) (iS f) .none .none doc pm an cdv ct cc) ⟨[u, v], []⟩ = pure [(("self" : Str), u), (f, v)]
theorem fok_part : FOk "part" := ⟨rfl, rfl, rfl, rfl, by decide, by decide, by decide, fun _ _ _ _ _ _ _ _ _ _ _ _ _ _ _ _ _ _ _ _ _ _ => by first | rfl | with_unfolding_all rfl, fun _ _ _ _ _ _ _ _ _ _ _ _ _ _ _ _ _ _ _ _ _ _ => by first | rfl | with_unfolding_all rfl⟩
theorem fok_index : FOk "index" := ⟨rfl, rfl, rfl, rfl, by decide, by decide, by decide, fun _ _ _ _ _ _ _ _ _ _ _ _ _ _ _ _ _ _ _ _ _ _ => by first | rfl | with_unfolding_all rfl, fun _ _ _ _ _ _ _ _ _ _ _ _ _ _ _ _ _ _ _ _ _ _ => by first | rfl | with_unfolding_all rfl⟩
theorem fok_word : FOk "word" := ⟨rfl, rfl, rfl, rfl, by decide, by decide, by decide, fun _ _ _ _ _ _ _ _ _ _ _ _ _ _ _ _ _ _ _ _ _ _ => by first | rfl | with_unfolding_all rfl, fun _ _ _ _ _ _ _ _ _ _ _ _ _ _ _ _ _ _ _ _ _ _ => by first | rfl | with_unfolding_all rfl⟩

/-- what the written part says of the class at C (its base FenceError at B0) and of its __init__ at fI -/
structure ITxt (prog : Program) (K : Frag) (mg : Str → Option Value) (C fI : Addr) (f : Str) : Prop where
  ok : FOk f
  cls : ∃ nm q N bs bm sn sub ab col dd k0 k1 k2 k3 k5, K.lookup C = some (excClassObj nm q C N bs bm true sn sub ab col dd k0 k1 k2 k3 k5 "ValueError.__new__") ∧ refsVE bm = true ∧ alongIn K "__init__" bm = some (some (.builtin "ValueError.__init__"))
  sa : findIn K (.ref C) "__setattr__" = some (some (.builtin "object.__setattr__"))
  noN : findIn K (.ref C) f = some none
  iC : findIn K (.ref C) "__init__" = some (some (.ref fI))
  tC : typeIn K (.ref fI) = some (.type "function")
  sC : subIn K (.ref C) (.type "ValueError") = some true
  kC : keepIn K (.ref C) = true
  gS : mg "super" = none
  oq : nsIn K cStatics "thirdparty.any" = some none
  tp : (prog.main.scope.names.lookup ("super" : Str)).isSome = false
  fn : ∃ (oc : Value) (od : Option Addr) (qual m : Str) (doc pm : Value) (an : Option Addr) (cda cc : Addr) (ct : Value) (osl : Array (Option Value)) (p1 p2 p3 p4 p5 p6 p7 p8 q1 q2 q3 q4 : Pos)
      (ccl : Value) (cdd : Option Addr) (vs : Array Value) (ccs : Array (Option Value)) (file : Str) (tf : Tok) (cl : Value) (cld : Option Addr) (csl : Array (Option Value)),
    K.lookup fI = some ⟨oc, od, .func (ksFn "__init__" qual (iA f p1 p2) (iB f m p3 p4 p5 p6 p7 p8 q1 q2 q3 q4) (iS f) .none .none doc pm an (.ref cda) ct cc), osl⟩ ∧ codeIn K (.ref cda) qual = true ∧
    K.lookup cda = some ⟨ccl, cdd, .fields vs, ccs⟩ ∧ vs[2]? = some (.str file tf) ∧ ((prog.main.file : Str) == file) = true ∧ (p5.endLine == p7.line) = true ∧
    K.lookup cc = some ⟨cl, cld, .cell (some (.ref C)), csl⟩
/-- what __init__ leaves of a fresh exception at x -/
structure InitEnd (h h' : Heap) (f : Str) (x C dx t1 : Addr) (v : Value) : Prop where
  keep : ∀ b o, b ≠ x → h.get? b = some o → h'.get? b = some o
  obj : h'.get? x = some { cls := .ref C, dict := some dx, data := .fields #[.ref t1, .none, .none, .none, .bool false, .none] }
  dbig : h.objs.size ≤ dx
  dne : dx ≠ x
  ns : h'.Ns1 dx (fun y => if y = f then some v else none)
theorem mcall {o : Expr} {name : Str} {apos pos : Pos} {args : List Expr} {env : Env} (hp : (apos.endLine == pos.line) = true) (hf : methodCallForm (args.length + ([] : List Keyword).length) (backTo pos (starEach args env)) (backToKw pos (keywordEach [] env)) = true) :
    eval (.Call (.Attribute o name apos) args [] pos) env = (do
      let ov ← attributeBase o name env (eval o env)
      standAt apos.atName
      let (f, first) ← holding [ov] (getMethod ov name (do return (← importBound o env).getD true))
      callWith pos f first (backTo pos (starEach args env)) []) := by
  show (do let ov ← attributeBase o name env (eval o env); standAt apos.atName; methodCall o name apos pos env ov (args.length + ([] : List Keyword).length) (backTo pos (starEach args env)) (backToKw pos (keywordEach [] env))) = _
  have e : methodCallPos true o env apos pos = pure pos := by
    unfold methodCallPos
    rw [hp]
    rfl
  unfold methodCall
  rw [hf, e]
  rfl
section
variable {prog : Program} {w : World} {A : Around} {E : Value → Shared → Prop} {R : Result → Shared → Prop} {s : Shared} {K : Frag} {mg mb : Str → Option Value} {C fI : Addr} {f : Str}
theorem init_run (T : ITxt prog K mg C fI f) {args : Args} {x t0 : Addr} {v : Value} (X : K.In s.heap) (hlim : s.heap.NoLimit) (hg : s.heap.Ns mainGlobals mg) (hb : s.heap.Ns builtinsNs mb) (hbs : mb "super" = some (.type "super"))
    (hx : s.heap.get? x = some (excO C t0)) (hxC : x ≠ C) (hnx : K.lookup x = none) (hroom : A.depth < recursionLimit)
    (hbind : ∀ (qual m : Str) (doc pm : Value) (an : Option Addr) (cdv ct : Value) (cc : Addr) (p1 p2 p3 p4 p5 p6 p7 p8 q1 q2 q3 q4 : Pos), BindsTo s (ksFn "__init__" qual (iA f p1 p2) (iB f m p3 p4 p5 p6 p7 p8 q1 q2 q3 q4) (iS f) .none .none doc pm an cdv ct cc) args [("self", .ref x), (f, v)])
    (hq : ∀ h' tk dx t1, InitEnd s.heap h' f x C dx t1 v → R (.ok (.ret .none)) { s with heap := h', toks := tk }) :
    codeAny (model prog w) A (.call (.ref fI) args) R s := by
  obtain ⟨oc, od, qual, m, doc, pm, an, cda, cc, ct, osl, p1, p2, p3, p4, p5, p6, p7, p8, q1, q2, q3, q4, ccl, cdd, vs, ccs, file, tf, cl, cld, csl, ho, hcd, hcode, hvs, hfile, hln, hcell⟩ := T.fn
  obtain ⟨nm, q, N, bs, bm, sn, sub, ab, col, dd, k0, k1, k2, k3, k5, hC, hbm, hal⟩ := T.cls
  have hcl : clsIn K C = some { name := nm, bases := bs, mro := .ref C :: bm, ns := N, qualname := q, hasDict := true, slotNames := sn, subclasses := sub, abstract := ab, collection := col, hasDel := false } := by unfold clsIn; rw [hC] <;> rfl
  refine ks_codeAny_call_defAt hroom (X _ _ ho) rfl hlim (codeRec_of X hcd) rfl (hbind qual m doc pm an (.ref cda) ct cc p1 p2 p3 p4 p5 p6 p7 p8 q1 q2 q3 q4) T.ok.nc (fun y hy => ?_) (fun h₁ hns k₁ => ?_)
  · rcases List.mem_cons.mp hy with rfl | hy
    · exact T.ok.lo
    rcases List.mem_cons.mp hy with rfl | hy
    · exact T.ok.lf
    · cases hy
  have hn1 : ∀ {y : Str} {u : Value}, (List.reverse [(("self" : Str), Value.ref x), (f, v)]).lookup y = some u → True := fun _ => trivial
  have X₁ : K.In h₁ := X.keeps k₁
  have hx₁ := k₁ _ _ hx
  have hmself : (fun y => (List.reverse [(("self" : Str), Value.ref x), (f, v)]).lookup y) ("self" : Str) = some (.ref x) := by
    show List.lookup ("self" : Str) [(f, v), (("self" : Str), Value.ref x)] = _
    have e : (("self" : Str) == f) = false := by
      have := T.ok.ns
      rw [beq_eq_false_iff_ne] at this ⊢
      exact fun z => this z.symm
    simp [List.lookup, e]
  have hmf : (fun y => (List.reverse [(("self" : Str), Value.ref x), (f, v)]).lookup y) f = some v := by
    show List.lookup f [(f, v), (("self" : Str), Value.ref x)] = _
    simp [List.lookup]
  show _root_.PySem.wpAt (model prog w) _ (.func (iB f m p3 p4 p5 p6 p7 p8 q1 q2 q3 q4) (ksEnv qual (iS f) s.heap.objs.size fI (.ref cda) cc)) (execs (iB f m p3 p4 p5 p6 p7 p8 q1 q2 q3 q4) (ksEnv qual (iS f) s.heap.objs.size fI (.ref cda) cc)) _ _ _
  refine ks_wpAt_execs_cons (ks_wpAt_Expr_any (ks_wpAt_MethodCall (ks_wpAt_super_base (env := ksEnv qual (iS f) s.heap.objs.size fI (.ref cda) cc) T.ok.ls T.ok.lc (by decide) rfl (X₁ _ _ ho) rfl rfl rfl (X₁ _ _ hcode) rfl hvs hfile T.tp ?_) (mcall hln rfl)))
  refine ks_loadName_global rfl T.ok.ls (loadGlobal_builtin (env := ksEnv qual (iS f) s.heap.objs.size fI (.ref cda) cc) (hg.keeps k₁) T.gS (hb.keeps k₁) hbs ⟨rfl, ?_⟩)
  refine wpAny_loadName_free rfl T.ok.lc rfl ⟨_, X₁ _ _ hcell, rfl⟩ ?_
  refine wpAny_loadName_local rfl T.ok.lo hns hmself ?_
  refine ks_wpAny_isType_cls (X₁ _ _ hC) rfl ⟨rfl, ?_⟩
  have hsub : Looks (model prog w) h₁ (isSubtype (.ref C) (.ref C)) true := looks_mroIn X₁ (by
    unfold mroIn
    rw [hcl, Option.bind_some]
    show (if (List.isEmpty (Value.ref C :: bm)) = true then none else some ((Value.ref C :: bm).contains (.ref C))) = some true
    rw [if_neg (by simp)]
    simp)
  refine ks_wpAny_call_super (X₁ _ _ hC) rfl hx₁ rfl (fun c e => nomatch e) hsub (fun h₂ e₂ k₂ => ?_)
  have X₂ : K.In h₂ := X₁.keeps k₂
  have hx₂ := k₂ _ _ hx₁
  have I₂ : InstAt h₂ x (excO C t0) C none := ⟨hx₂, rfl, rfl, trivial⟩
  have hI : Looks (model prog w) h₂ (isInstance (.ref x) (.type "ValueError")) true := I₂.type.andThen (looks_subIn X₂ T.sC)
  refine kxs_getMethod kxs_ValueError e₂ (looks_opaque X₂ T.oq) (l₀ := .ref C :: bm) (l := bm) ?_ (by simp) X₂ hal hI hxC (by decide) ?_
  · exact fun A Q E s k q => wpAny_bind ((looks_clsIn X₂ hcl) A _ E s k (wpAny_pure q))
  have X₃ : K.In (h₂.push (kxs_mw "ValueError.__init__" x)) := X₂.keeps fun b o e => Heap.get?_push_of_some _ e
  have hx₃ : (h₂.push (kxs_mw "ValueError.__init__" x)).get? x = some (excO C t0) := Heap.get?_push_of_some _ hx₂
  have hu₃ : (h₂.push (kxs_mw "ValueError.__init__" x)).get? h₂.objs.size = some (kxs_mw "ValueError.__init__" x) := Heap.get?_push_at rfl rfl
  refine kxs_callWith (i := "ValueError.__init__") (x := x) rfl (evalArgs_plain ?_)
  show wpAny _ _ (spliced ((false, eval (.Constant (.str m) 0 p6) (ksEnv qual (iS f) s.heap.objs.size fI (.ref cda) cc)) :: backTo p7 (starEach [] (ksEnv qual (iS f) s.heap.objs.size fI (.ref cda) cc)))) _ _ _
  refine Calls.spliced_cons (Calls.Constant_str (Calls.spliced_nil ⟨hu₃, ?_⟩))
  refine wpAny_call (codeAny_of_tree ?_)
  show wpAny _ _ (callAny (.ref h₂.objs.size) ⟨[.str m _], []⟩) _ _ _
  simp only [callAny]
  refine wpAny_bind (wpAny_load hu₃ ?_)
  simp only [kxs_mw, show (Value.type "method-wrapper" == Value.type "method" || Value.type "method-wrapper" == Value.type "builtin_function_or_method" || Value.type "method-wrapper" == Value.type "method-wrapper") = true by decide, if_true]
  refine KFB.if_so (by decide) ?_
  refine wpAny_bind (check_bound_init F.excBase_ValueError.toExcCallFacts (X₃ _ _ hC) hx₃ rfl ?_)
  refine wpAny_bind (wpAny_pure (wpAny_pure ?_))
  refine ⟨plainId_quiet F.excBase_ValueError.init.plain _, codeAny_builtin F.excBase_ValueError.initEntry ?_⟩
  refine exc_init_tree (cls := .ref C) (t0 := t0) (dv := none) (c2 := .none) (c3 := .none) (b4 := .bool false) hx₃ (by show 1 ≤ sizeLine; rw [sizeLine_eq]; decide) fun h₄ k₄ hx₄ _ => ?_
  have keep4 : ∀ b o, b ≠ x → s.heap.get? b = some o → h₄.get? b = some o := fun b o hb e => k₄ b o hb (Heap.get?_push_of_some _ (k₂ _ _ (k₁ _ _ e)))
  have X₄ : K.In h₄ := fun a o e => keep4 a o (fun z => by rw [z, hnx] at e; cases e) (X a o e)
  have hns₄ : h₄.Ns s.heap.objs.size (fun y => (List.reverse [(("self" : Str), Value.ref x), (f, v)]).lookup y) := by
    obtain ⟨oL, es, ep, hL, r⟩ := hns
    have hLx : s.heap.objs.size ≠ x := Nat.ne_of_gt (Heap.lt_size hx)
    exact ⟨oL, es, ep, k₄ _ _ hLx (Heap.get?_push_of_some _ (k₂ _ _ hL)), r⟩
  -- self.f = f
  refine wpAt_of_wpAny ?_
  show wpAny _ _ (execs [.Assign [.Attribute (.Name "self" q1) f q2] (.Name f q3) q4] (ksEnv qual (iS f) s.heap.objs.size fI (.ref cda) cc)) _ _ _
  refine wpAny_execs_cons (plainObj_wpAny_Assign_Attribute ?_)
  refine wpAny_Name (wpAny_loadName_local rfl T.ok.lf hns₄ hmf ?_) T.ok.nd
  refine wpAny_Name (wpAny_loadName_local rfl T.ok.lo hns₄ hmself ?_) (by decide)
  refine set_plain X₄ (ox := excO C (h₂.push (kxs_mw "ValueError.__init__" x)).objs.size) (od := none) ⟨hx₄, rfl, rfl, trivial⟩ T.sa ?_
  refine exc_osa X₄ hx₄ hcl (show refsVE (.ref C :: bm) = true from hbm) rfl T.noN (fun h₅ tk₅ dx k₅ dn dne hx₅ hn₅ => ?_)
  show wpAny _ _ (execs _ _) _ _ _
  have z : s.heap.objs.size < h₄.objs.size := hns₄.lt
  exact wpAny_execs_nil (hq h₅ tk₅ dx _ ⟨fun b o hb e => k₅ b o hb (keep4 b o hb e), hx₅, Nat.le_of_lt (Nat.lt_of_lt_of_le z dn), dne, hn₅⟩)
end
end ErX
end PySem

set_option maxRecDepth 100000
set_option maxHeartbeats 2000000
namespace PySem
namespace ErX
open PySem.W PySem.Calls PyProof.Rows PySem.HandSPX
section
variable {M : Model} {A : Around} {E : Value → Shared → Prop} {h : Heap} {g : Array GenState} {d : Drawn} {t : Nat} {os : OsState}
variable {nm q : Str} {C N : Addr} {bs bm bmB : List Value} {hdct : Bool} {sn : List Str} {sub : List Value} {ab : Bool} {col : Option Bool} {dd : Option Addr} {k0 k1 k2 k3 k5 : Option Value} {B newId initId : String}
theorem check_type_call_kw {x : Str} {v : Value} {Q : Unit → Shared → Prop} (hC : h.get? C = some (excClassObj nm q C N bs bm hdct sn sub ab col dd k0 k1 k2 k3 k5 newId))
    (hq : Q () ⟨h, g, d, t, os⟩) : wpAny M A (checkBuiltinCall "type.__call__" ⟨[.ref C], [(x, v)]⟩) Q E ⟨h, g, d, t, os⟩ := by
  have f3 := tc_sub
  have hT : (⟨h, g, d, t, os⟩ : Shared).TypeIs (.ref C) "type" := ⟨_, hC, rfl⟩
  simp only [checkBuiltinCall, tc_kind, tc_split]
  repeat (any_goals (first | assumption | with_reducible refine wpAny_loadPart_at hC ?_ | with_reducible refine wpAny_onRaise ?_ | with_reducible refine wpAny_map ?_ | wp_step))
theorem check_new_kw (F : ExcBaseFacts B newId initId bmB) (hT : ∀ X : String, bm.contains (.type X) = bmB.contains (.type X)) {x : Str} {v : Value} {Q : Unit → Shared → Prop}
    (hC : h.get? C = some (excClassObj nm q C N bs bm hdct sn sub ab col dd k0 k1 k2 k3 k5 newId)) (hq : Q () ⟨h, g, d, t, os⟩) : wpAny M A (checkBuiltinCall newId ⟨[.ref C], [(x, v)]⟩) Q E ⟨h, g, d, t, os⟩ := by
  have hcont : (Value.ref C :: bm).contains (.type B) = true := by rw [List.contains_cons, hT, F.hasB, Bool.or_true]
  have hstar := F.noStar
  simp only [checkBuiltinCall, F.newKind, F.newSplit, F.newRow]
  repeat (first | refine wpAny_loadPart_at hC ?_ | (refine wpAny_isSubtype_exc hC ?_; rw [hcont]) | refine wpAny_staticBase_exc hC ?_ | refine wpAny_madeBy_exc hC ?_ | simp only [bne_self_eq_false, Bool.false_eq_true, if_false] | wp_step)
  exact hq
end
section
variable {prog : Program} {w : World} {A : Around} {E : Value → Shared → Prop} {R : Result → Shared → Prop} {h : Heap} {g : Array GenState} {d : Drawn} {t : Nat} {os : OsState}
variable {nm q : Str} {C N : Addr} {bs bm bmB : List Value} {hdct : Bool} {sn : List Str} {sub : List Value} {ab : Bool} {col : Option Bool} {dd : Option Addr} {k0 k1 k2 k3 k5 : Option Value} {B newId initId : String}
theorem new_kw (F : ExcBaseFacts B newId initId bmB) (hT : ∀ X : String, bm.contains (.type X) = bmB.contains (.type X)) {x : Str} {v : Value}
    (hC : h.get? C = some (excClassObj nm q C N bs bm hdct sn sub ab col dd k0 k1 k2 k3 k5 newId))
    (hq : R (.ok (.ret (.ref (h.objs.size + 1)))) ⟨(h.push { cls := .type "tuple", data := .seq ([] : List Value).toArray }).push
      { cls := .ref C, data := .fields #[.ref h.objs.size, .none, .none, .none, .bool false, .none] }, g, d, t, os⟩) :
    codeAny (model prog w) A (.builtin newId ⟨[.ref C], [(x, v)]⟩) R ⟨h, g, d, t, os⟩ := by
  have hrest : ([] : List Value).length ≤ sizeLine := Nat.zero_le _
  have hends := F.ends
  have hcB : (Value.ref C :: bm).contains (.type B) = true := by rw [List.contains_cons, hT, F.hasB, Bool.or_true]
  have hcA : (Value.ref C :: bm).contains (.type "AttributeError") = false := by rw [List.contains_cons, hT, F.noAttr]; rfl
  have hcN : (Value.ref C :: bm).contains (.type "NameError") = false := by rw [List.contains_cons, hT, F.noName]; rfl
  refine codeAny_builtinAt F.entry ?_
  unfold Builtin.«BaseException.__new__»
  refine wpAt_bind ?_
  show wpAt _ _ _ (stack >>= _) _ _ _
  refine wpAt_bind (wpAt_stack fun p below => wpAt_of_wpAny ?_)
  wp_walk
  refine wpAt_of_wpAny ?_
  rw [F.owner]
  repeat (first | with_reducible refine wpAny_madeHere_exc F.canon hC ?_ | with_reducible refine wpAny_loadPart_at hC ?_ | (with_reducible refine wpAny_isSubtype_exc hC ?_; first | rw [hcB] | rw [hcA] | rw [hcN]) | wp_step)
  show R _ _
  rw [Heap.size_push]
  exact hq

theorem type_call_kw (F : ExcBaseFacts B newId initId bmB) (hT : ∀ X : String, bm.contains (.type X) = bmB.contains (.type X)) {x : Str} {v : Value} {fI : Addr} {Q : Fin → Shared → Prop}
    (hC : h.get? C = some (excClassObj nm q C N bs bm hdct sn sub ab col dd k0 k1 k2 k3 k5 newId))
    (hi : W.Looks (model prog w) h (typeLookup (.ref C) "__init__") (some (.ref fI))) (hb : ∀ self, W.Looks (model prog w) h (bindSpecial (.ref fI) self) (.ref fI, [self]))
    (hq : codeAny (model prog w) A (.call (.ref fI) ⟨[.ref (h.objs.size + 1)], [(x, v)]⟩)
      (fun r s' => match r with | .ok (.ret v) => v = .none ∧ Q (.done (.ret (.ref (h.objs.size + 1)))) s' | .ok _ => False | .error e => E e s')
      ⟨(h.push (W.kdv_tup [])).push (excO C h.objs.size), g, d, t, os⟩) :
    wpAny (model prog w) A (Builtin.«type.__call__» ⟨[.ref C], [(x, v)]⟩) Q E ⟨h, g, d, t, os⟩ := by
  repeat (first | with_reducible refine wpAny_loadPart_at hC ?_ | with_reducible refine wpAny_madeBy_exc hC ?_ | wp_step)
  refine codeAny_call_builtin_code (Code.quiet_builtin _ F.quiet) (check_new_kw F hT hC ?_)
  refine new_kw F hT hC ?_
  show wpAny _ _ _ _ _ _
  have k : ∀ b o, h.get? b = some o → ((h.push (W.kdv_tup [])).push (excO C h.objs.size)).get? b = some o := fun b o e => Heap.get?_push_of_some _ (Heap.get?_push_of_some _ e)
  have hC₁ := k _ _ hC
  have hget : ((h.push (W.kdv_tup [])).push (excO C h.objs.size)).get? (h.objs.size + 1) = some (excO C h.objs.size) := by heap_get
  have hcC : (Value.ref C :: bm).contains (.ref C) = true := by simp
  have i1 := hi.keeps k
  have b1 := (hb (.ref (h.objs.size + 1))).keeps k
  unfold isInstance
  repeat (first | with_reducible refine wpAny_loadPart_at hget ?_ | (with_reducible refine wpAny_isSubtype_exc hC₁ ?_; rw [hcC]) | wp_step)
  show wpAny _ _ (typeLookup (.ref C) _) _ _ _
  refine i1.at ?_
  refine wpAny_holding (wpAny_bind (b1.at ?_))
  refine wpAny_bind (wpAny_call (codeAny_mono hq fun r s' z => ?_))
  rcases r with e | (v | _ | _ | _) <;> first | exact z | exact z.elim | skip
  obtain ⟨rfl, z⟩ := z
  first
    | exact wpAny_pure (wpAny_pure z)
    | (wp_walk; exact z)

theorem call_kw (F : ExcBaseFacts B newId initId bmB) (hT : ∀ X : String, bm.contains (.type X) = bmB.contains (.type X)) {x : Str} {v : Value} {fI : Addr}
    (hC : h.get? C = some (excClassObj nm q C N bs bm hdct sn sub ab col dd k0 k1 k2 k3 k5 newId))
    (hi : W.Looks (model prog w) h (typeLookup (.ref C) "__init__") (some (.ref fI))) (hb : ∀ self, W.Looks (model prog w) h (bindSpecial (.ref fI) self) (.ref fI, [self]))
    (hq : codeAny (model prog w) (A.under (.builtin "type.__call__" ⟨[.ref C], [(x, v)]⟩)) (.call (.ref fI) ⟨[.ref (h.objs.size + 1)], [(x, v)]⟩) (W.InitBack (h.objs.size + 1) R)
      ⟨(h.push (W.kdv_tup [])).push (excO C h.objs.size), g, d, t, os⟩) :
    codeAny (model prog w) A (.call (.ref C) ⟨[], [(x, v)]⟩) R ⟨h, g, d, t, os⟩ := by
  have f1 := tc_lookup
  have f2 := tc_bind (.ref C)
  have hTy : (⟨h, g, d, t, os⟩ : Shared).TypeIs (.ref C) "type" := ⟨_, hC, rfl⟩
  refine codeAny_of_tree ?_
  show wpAny _ _ (callAny (.ref C) _) _ _ _
  repeat (any_goals (first | assumption | with_reducible refine wpAny_loadPart_at hC ?_ | wp_step))
  refine ⟨rfl, ?_⟩
  refine codeAny_call_builtin_at (Code.quiet_builtin _ (by decide +kernel)) entry_typeCall (check_type_call_kw hC (type_call_kw F hT hC hi hb ?_))
  refine codeAny_mono hq fun r s' z => ?_
  rcases r with e | (v | _ | _ | _) <;> exact z
end
/-- a made exception with its field -/
structure OwnMade (h h' : Heap) (f : Str) (e C d t1 : Addr) (v : Value) : Prop where
  keep : ∀ b o, h.get? b = some o → h'.get? b = some o
  new : h.objs.size ≤ e
  obj : h'.get? e = some { cls := .ref C, dict := some d, data := .fields #[.ref t1, .none, .none, .none, .bool false, .none] }
  dbig : h.objs.size ≤ d
  dne : d ≠ e
  ns : h'.Ns1 d (fun y => if y = f then some v else none)
section
variable {prog : Program} {w : World} {A : Around} {E : Value → Shared → Prop} {R : Result → Shared → Prop} {s : Shared} {K : Frag} {mg mb : Str → Option Value} {C fI : Addr} {f : Str}
theorem made_any (T : ITxt prog K mg C fI f) {v : Value} (kwd : Bool) (X : K.In s.heap) (hlim : s.heap.NoLimit) (hg : s.heap.Ns mainGlobals mg) (hb : s.heap.Ns builtinsNs mb) (hbs : mb "super" = some (.type "super")) (hroom : A.depth + 1 < recursionLimit)
    (hq : ∀ h' tk e d t1, OwnMade s.heap h' f e C d t1 v → R (.ok (.ret (.ref e))) { s with heap := h', toks := tk }) :
    codeAny (model prog w) A (.call (.ref C) (if kwd then ⟨[], [(f, v)]⟩ else ⟨[v], []⟩)) R s := by
  obtain ⟨nm, q, N, bs, bm, sn, sub, ab, col, dd, k0, k1, k2, k3, k5, hC, hbm, hal⟩ := T.cls
  obtain ⟨hp, g, dr, tk, os⟩ := s
  have main : ∀ (rest : List Value) (args : Value → Args), (∀ (x : Addr) (s' : Shared) (qual m : Str) (doc pm : Value) (an : Option Addr) (cdv ct : Value) (cc : Addr) (p1 p2 p3 p4 p5 p6 p7 p8 q1 q2 q3 q4 : Pos), BindsTo s' (ksFn "__init__" qual (iA f p1 p2) (iB f m p3 p4 p5 p6 p7 p8 q1 q2 q3 q4) (iS f) .none .none doc pm an cdv ct cc) (args (.ref x)) [("self", .ref x), (f, v)]) →
      ∀ A' : Around, A'.depth < recursionLimit →
      codeAny (model prog w) A' (.call (.ref fI) (args (.ref (hp.objs.size + 1)))) (W.InitBack (hp.objs.size + 1) R) ⟨(hp.push (W.kdv_tup rest)).push (excO C hp.objs.size), g, dr, tk, os⟩ := by
    intro rest args hbind A' hr
    have k : ∀ b o, hp.get? b = some o → ((hp.push (kdv_tup rest)).push (excO C hp.objs.size)).get? b = some o := fun b o e => Heap.get?_push_of_some _ (Heap.get?_push_of_some _ e)
    have hget : ((hp.push (kdv_tup rest)).push (excO C hp.objs.size)).get? (hp.objs.size + 1) = some (excO C hp.objs.size) := by heap_get
    have hnx : K.lookup (hp.objs.size + 1) = none := by
      cases e : K.lookup (hp.objs.size + 1) with
      | none => rfl
      | some o =>
        have z : hp.get? (hp.objs.size + 1) = some o := X _ _ e
        exact absurd (Nat.lt_of_succ_lt (Heap.lt_size z)) (Nat.lt_irrefl _)
    have hxC : hp.objs.size + 1 ≠ C := fun e => by
      rw [e, hC] at hnx
      cases hnx
    refine init_run (s := ⟨(hp.push (kdv_tup rest)).push (excO C hp.objs.size), g, dr, tk, os⟩) T (X.keeps k) (hlim.keeps k) (hg.keeps k) (hb.keeps k) hbs hget hxC hnx hr (hbind _ _) fun h' tk' dx t1 M => ?_
    have old : ∀ b o, hp.get? b = some o → h'.get? b = some o := fun b o e => M.keep b o (Nat.ne_of_lt (Nat.lt_succ_of_lt (Heap.lt_size e))) (k b o e)
    have z : hp.objs.size + 1 + 1 ≤ dx := by
      have q := M.dbig
      rw [Heap.size_push, Heap.size_push] at q
      exact q
    exact ⟨rfl, hq h' tk' (hp.objs.size + 1) dx t1 ⟨old, Nat.le_succ _, M.obj, Nat.le_trans (Nat.le_trans (Nat.le_succ _) (Nat.le_succ _)) z, M.dne, M.ns⟩⟩
  cases kwd with
  | false =>
    refine call_own F.excBase_ValueError (fun X => refsVE_contains X bm hbm) (X _ _ hC) (looks_findIn X T.iC) (fun self => bind_fn X self T.tC) (by show 1 ≤ sizeLine; rw [sizeLine_eq]; decide) ?_
    exact main [v] (fun u => ⟨[u, v], []⟩) (fun x s' qual m doc pm an cdv ct cc p1 p2 p3 p4 p5 p6 p7 p8 q1 q2 q3 q4 => BindsTo.of_eq (T.ok.bp qual m doc pm an cdv ct cc p1 p2 p3 p4 p5 p6 p7 p8 q1 q2 q3 q4 _ _)) _ (by show A.depth + 1 < recursionLimit; exact hroom)
  | true =>
    refine call_kw F.excBase_ValueError (fun X => refsVE_contains X bm hbm) (X _ _ hC) (looks_findIn X T.iC) (fun self => bind_fn X self T.tC) ?_
    exact main [] (fun u => ⟨[u], [(f, v)]⟩) (fun x s' qual m doc pm an cdv ct cc p1 p2 p3 p4 p5 p6 p7 p8 q1 q2 q3 q4 => BindsTo.of_eq (T.ok.bk qual m doc pm an cdv ct cc p1 p2 p3 p4 p5 p6 p7 p8 q1 q2 q3 q4 _ _)) _ (by show A.depth + 1 < recursionLimit; exact hroom)
end
end ErX
end PySem

set_option maxRecDepth 100000
set_option maxHeartbeats 2000000
/-! a def's promise while no repr is under way (guards: none) -/
namespace L2
open PySem PySem.Spec PyProof.Rows
/-- as FnOk, where no guarded built-in is under way -/
structure FnG (P : Program) (w : World) (K : PySem.W.Frag) (mg : Str → Option Value) (base : Heap) (CX : CXT) (k : Nat) (f : Addr) (fd : FuncData) (ps : List Str) (sp : Sp) : Prop where
  len : ∀ vs H Q E, sp vs H Q E → vs.length = ps.length
  go : ∀ (A : Around) (outer : List Env) (s : Shared) (H : Hp) (args : Args) (us : List Value) (vs : List V) (Q : VK) (E : XK), A.guards = some [] → Room k A → Env0 P w K mg base A outer s H → BindsTo s fd args (ps.zip us) → Vals vs us → sp vs H Q E →
    codeAny (model P w) A (.call (.ref f) args) (CR CX outer P w H s Q E) s
section
variable {P : Program} {w : World} {K : PySem.W.Frag} {mg : Str → Option Value} {base : Heap} {CX : CXT} {k : Nat} {f : Addr} {fd : FuncData} {ps : List Str} {sp : Sp}
theorem FnOk.g (F : FnOk P w K mg base CX k f fd ps sp) : FnG P w K mg base CX k f fd ps sp := ⟨F.len, fun A outer s H args us vs Q E _ => F.run A outer s H args us vs Q E⟩
theorem FnG.mono {j : Nat} (F : FnG P w K mg base CX j f fd ps sp) (h : j ≤ k) : FnG P w K mg base CX k f fd ps sp := ⟨F.len, fun A outer s H args us vs Q E g hr => F.go A outer s H args us vs Q E g (hr.mono h)⟩
/-- from the body, met with the known guards -/
theorem Fun.okG {x qual : Str} {st : Stmt} {N : List Str} (F : Fun K x qual st f fd) (S : FnScope N ps (defScope st)) (len : ∀ vs H Q E, sp vs H Q E → vs.length = ps.length)
    (hb : ∀ (cdv : Value) (A : Around) (outer : List Env) (s : Shared) (H : Hp) (vs : List V) (Q : VK) (E : XK), (A.deeper (envOfC qual (defScope st) s.heap.objs.size f cdv)).guards = some [] → Room k (A.deeper (envOfC qual (defScope st) s.heap.objs.size f cdv)) → sp vs H Q E →
      ∃ t, PSs (cxOf CX0 P w K mg base N qual (defScope st) f cdv A outer s H E).nox (defBody st) t ∧ t { nx := fun _ H' => Q .non H', rt := Q } (start N vs) H) : FnG P w K mg base CX0 (k + 1) f fd ps sp := by
  obtain ⟨oc, od, kV, doc, pm, an, cdv, ct, osl, rfl, lk, hcd⟩ := F.ex
  refine ⟨len, fun A outer s H args us vs Q E hgd hr e0 hbi rel hsp => ?_⟩
  have sz := len _ _ _ _ hsp
  have kp : ∀ b o, base.get? b = some o → s.heap.get? b = some o := fun b o e => (e0.bs b o e).1
  have KX : K.In s.heap := e0.mod.kin.keeps kp
  refine codeAny_call_function hr.depth (KX _ _ lk) rfl S.co S.gen rfl (PySem.W.codeRec_of KX hcd) (hbi _ _ _ _ ?_)
  refine wpAny_newFunctionEnv_cells S.kind (fun y hy => ?_) fun env he s1 x => ?_
  · obtain ⟨n, v⟩ := y
    rcases S.par n (List.of_mem_zip hy).1 with q | q
    · exact .inl q
    · exact .inr ⟨q, PySem.W.cellsFrom_some _ _ _ (.inl q)⟩
  subst he
  refine ⟨(e0.mod.nolimit.keeps kp).keeps x.toInCall.keep, codeAny_func ?_⟩
  obtain ⟨t, ht, hq⟩ := hb cdv A outer s H vs Q E hgd (hr.deeper _) hsp
  have I0 : Inv (cxOf CX0 P w K mg base N qual (defScope st) f cdv A outer s H E) [] (start N vs) H s1 := inv_start S hr.hd e0 sz rel x
  refine wpAny_mono (ht.nox.run [] s1 (start N vs) H _ I0 hq) (fun fl s' z => ?_) fun e s' z => z
  match fl, z with
  | .ret u, ⟨v, σ', H', J, rv, q⟩ => exact ⟨v, H', J.os, J.bare, J.base, J.hok, rv, q⟩
  | .next, ⟨σ', H', J, q⟩ => exact ⟨.non, H', J.os, J.bare, J.base, J.hok, rfl, q⟩
  | .brk, ⟨_, _, _, q⟩ => exact q.elim
  | .cont, ⟨_, _, _, q⟩ => exact q.elim
end
section
variable {X : Cx} {CX : CXT} {k : Nat} {f : Addr} {fd : FuncData} {ps : List Str} {sp : Sp} {ds : List Value} {dvs : List V} {E : XK} {x : Str} {p pos : Pos} {e : Expr} {es : List Expr} {t : TA}
theorem run_fnG {pins : List (Addr × Obj)} {σ : St} {H : Hp} {s : Shared} {Q : VK} {us : List Value} {vs : List V} (F : FnG X.prog X.w X.K X.mg X.base CX k f fd ps sp) (hgd : X.A.guards = some []) (hr : Room k X.A) (hb : Binds X.K fd ps ds) (hd : Vals dvs ds) (hx : Passes CX X E)
    (I : Inv X pins σ H s) (r : Vals vs us) (h : sp (vs ++ dvs) H Q E) : wpAny (model X.prog X.w) X.A (call (.ref f) us) (EP X pins σ Q) X.xe s := by
  have rr : Vals (vs ++ dvs) (us ++ ds) := r.append hd
  have hl : (us ++ ds).length = ps.length := rr.length.symm.trans (F.len _ _ _ _ h)
  refine wpAny_call (codeAny_mono (F.go X.A X.stack s H ⟨us, []⟩ (us ++ ds) (vs ++ dvs) Q E hgd hr I.env0 (hb s us I.kIn hl) rr h) fun r s' z => ?_)
  match r, z with
  | .error e, z => exact hx pins σ H s e s' I z
  | .ok (.ret u), z => exact I.after z
  | .ok .next, z => exact z.elim
  | .ok .brk, z => exact z.elim
  | .ok .cont, z => exact z.elim
theorem pe_callG (F : FnG X.prog X.w X.K X.mg X.base CX k f fd ps sp) (hgd : X.A.guards = some []) (hr : Room k X.A) (hg : Gl X x) (hm : X.mg x = some (.ref f)) (hk : PySem.W.keepIn X.K (.ref f) = true) (hb : Binds X.K fd ps ds) (hd : Vals dvs ds) (hx : Passes CX X E)
    (ha : PA X (e :: es) t) (hdb : (x == ("__debug__" : Str)) = false := by decide) (he : starEach (e :: es) X.env = (false, eval e X.env) :: starEach es X.env := by rfl) (hpl : (backTo pos (starEach es X.env)).any (·.1) = false := by rfl) :
    PE X (.Call (.Name x p) (e :: es) [] pos) (tCall sp dvs E t) :=
  ⟨fun pins s σ H Q I h => wpAny_Call_Name_kw (ld_glob I hg hm (PySem.W.callWith_K (h₀ := X.base) I.ok.mod.kin hk (thn (ha.run pos pins s σ H _ I h) fun _ _ ⟨_, _, I1, r, q⟩ => ⟨I1.kIn, run_fnG F hgd hr hb hd hx I1 r q⟩) he hpl) hdb)⟩
end
/-- nothing but the script is tracked, and it is never written -/
theorem law_callG {P : Program} {w : World} {K : PySem.W.Frag} {mg mb : Str → Option Value} {k : Nat} {fa a : Addr} {fd : FuncData} {x : Str} {sp : Sp} {s₁ : Shared} {vs : List Value} {ns : List Int}
    (KX : K.In s₁.heap) (hns : s₁.heap.Ns mainGlobals mg) (hb : s₁.heap.Ns builtinsNs mb) (hbb : ∀ x : Str, x ≠ "__name__" → mb x = bootBuiltins x) (hlim : s₁.heap.NoLimit) (hg : s₁.gens = #[])
    (ha : s₁.heap.get? a = some { cls := .type "list", data := .seq vs.toArray }) (hi : IntsAre vs ns) (hl : ns.length ≤ sizeLine) (hr : Room k callerA)
    (F : ∀ base : Heap, K.In base → base.Ns mainGlobals mg → FnG P w K mg base CX0 k fa fd [x] sp) (hbind : ∀ (s : Shared) (u : Value), BindsTo s fd ⟨[u], []⟩ [(x, u)])
    (hsp : ∀ H : Hp, Only H → SqL K H a (ns.map V.int) → sp [.ref a] H (fun v _ => v = .bl true) fun _ _ _ => False) :
    codeAny (model P w) callerA (.call (.ref fa) ⟨[.ref a], []⟩) (fun r s' => r = .ok (.ret (.bool true)) ∧ OldK s₁.heap s'.heap ∧ s'.os = s₁.os ∧ AllBare s'.gens) s₁ := by
  have rv := vals_ints hi
  have run : ∀ H : Hp, Only H → (∀ b, H b ≠ none → b = a ∧ K.lookup a = none) → SqL K H a (ns.map V.int) → HOk P w H s₁.heap →
      codeAny (model P w) callerA (.call (.ref fa) ⟨[.ref a], []⟩) (fun r s' => r = .ok (.ret (.bool true)) ∧ OldK s₁.heap s'.heap ∧ s'.os = s₁.os ∧ AllBare s'.gens) s₁ := by
    intro H hO hA hS hok
    have free : ∀ {b : Addr}, b ≠ a → H b = none := fun {b} hb => Classical.byContradiction fun z => hb (hA b z).1
    have dictFree : ∀ {b : Addr} {o : Obj} {es : Array DictEntry} {ep : Nat}, s₁.heap.get? b = some o → o.data = .dict es ep → H b = none := fun {b o es ep} e1 e2 => free fun z => by
      rw [z] at e1
      rw [ha] at e1
      cases e1
      cases e2
    have down : ∀ {b : Addr} {m : Str → Option Value}, s₁.heap.Ns b m → (hidT s₁.heap H).Ns b m := fun {b m} n => by
      obtain ⟨o, es, ep, e1, e2, r⟩ := n
      exact ⟨o, es, ep, hidT_get e1 (dictFree e1 e2), e2, r⟩
    have kin : K.In (hidT s₁.heap H) := fun b o e => hidT_get (KX b o e) (Classical.byContradiction fun z => by
      have y := hA b z
      rw [y.1, y.2] at e
      cases e)
    have e0 : Env0 P w K mg (hidT s₁.heap H) callerA [] s₁ H := ⟨rfl, ⟨kin, down hns, ⟨mb, down hb, hbb⟩, by
      obtain ⟨mc, h1, h2⟩ := hlim
      exact ⟨mc, down h1, h2⟩⟩, fun _ _ e => of_hidT e, Nat.le_of_eq (hidT_size _ _), trivial, fun b hb => absurd (show b ∈ ([] : List Addr) from hb) (by simp), hok, .of_eq hg⟩
    refine codeAny_mono ((F _ kin (down hns)).go callerA [] s₁ H ⟨[.ref a], []⟩ [.ref a] [.ref a] _ _ rfl hr e0 (hbind s₁ (.ref a)) (.cons rfl .nil) (hsp H hO hS)) fun r s' z => ?_
    match r, z with
    | .error e, z => exact z.elim
    | .ok .next, z => exact z.elim
    | .ok .brk, z => exact z.elim
    | .ok .cont, z => exact z.elim
    | .ok (.ret u), ⟨v, H', os, bare, un, hok', rel, hv⟩ =>
      have hv' : v = .bl true := hv
      subst hv'
      obtain rfl : u = Value.bool true := rel
      refine ⟨rfl, OldK.of_keep fun b o e => ?_, os, bare⟩
      rcases hO b with n | ⟨ob, xs, n⟩
      · exact un.keep b o e n (by simp [frs]) (by simp)
      · have y1 := (hok b _ n).1
        have y2 := (hok' b _ (un.frzs b ob _ n)).1
        rw [e] at y1
        cases y1
        exact y2
  have zl : (ns.map V.int).length ≤ sizeLine := by rw [List.length_map]; exact hl
  by_cases hk : K.lookup a = none
  · refine run (fun b => if b = a then some (.frz { cls := .type "list", data := .seq vs.toArray } (.lst (ns.map V.int))) else none) (fun b => ?_) (fun b z => ?_) (.inl (.inr ⟨_, if_pos rfl⟩)) fun b u z => ?_
    · by_cases e : b = a
      · exact .inr ⟨_, _, if_pos e⟩
      · exact .inl (if_neg e)
    · by_cases e : b = a
      · exact ⟨e, hk⟩
      · exact absurd (if_neg e) z
    · by_cases e : b = a
      · subst e
        cases (if_pos rfl).symm.trans z
        exact ⟨ha, zl, vs, _, rv, ha⟩
      · cases (if_neg e).symm.trans z
  · cases q : K.lookup a with
    | none => exact absurd q hk
    | some o =>
      have e := (KX a o q).symm.trans ha
      cases e
      exact run (fun _ => none) (fun _ => .inl rfl) (fun b z => absurd rfl z) (.inr ⟨_, vs.toArray, _, q, rfl, rfl, rfl, by rw [List.size_toArray, hi.length]; exact hl, by simpa using rv⟩) fun b u z => nomatch z
theorem walk_ofG {l : PySem.W.OpenLaw} {n k : Nat} {q : Program} {loose : List Str} {XP : (Str → Option Value) → Heap → Prop} {YP : World → Heap → Prop} {d : DefRec} {K : Params → PySem.W.Frag} {sp : World → Sp} {x : Str}
    (hn : l.most = some n) (hn2 : n ≤ sizeLine) (hdf : d.params.defaults = []) (hr : Room k callerA) (hY : ∀ (w : World) (h : Heap), YP w h → (K w.params).In h)
    (F : ∀ (w : World) (mg : Str → Option Value) (fa : Addr) (h : Heap), (K w.params).In h → h.Ns mainGlobals mg → mg d.name = some (.ref fa) → ∃ fd : FuncData, (∀ (s : Shared) (u : Value), BindsTo s fd ⟨[u], []⟩ [(x, u)]) ∧
        ∀ base : Heap, (K w.params).In base → base.Ns mainGlobals mg → FnG l.prog w (K w.params) mg base CX0 k fa fd [x] (sp w))
    (hsp : ∀ (w : World) (H : Hp) (a : Addr) (ns : List Int), ns.length ≤ n → Only H → SqL (K w.params) H a (ns.map V.int) → sp w [.ref a] H (fun v _ => v = .bl true) fun _ _ _ => False) :
    PySem.W.WalkO q loose XP YP l.row.toRowW d [] (fun f vs => PySem.call f vs) :=
  Att.attach_call hn hdf fun w s₀ s₁ mg mb fa o pm cd doc a vs ns G Y ho hd hcd hmg hobj hints hlen hg => by
    obtain ⟨fd, hb, hF⟩ := F w mg fa _ (hY w _ Y) G.T.g hmg
    exact law_callG (hY w _ Y) G.T.g G.T.b G.T.builtins G.T.nolimit hg hobj hints (Nat.le_trans hlen hn2) hr hF hb fun H hO hS => hsp w H a ns hlen hO hS
end L2

set_option maxRecDepth 100000
set_option maxHeartbeats 600000
/-! own exceptions as values: made (by position, by name), their field, isinstance -/
namespace L2
open PySem PySem.Spec PyProof.Rows
/-- an exception with a field, new at a, its dict at d -/
def NewI (C : Addr) (f : Str) (v : V) (H1 : Hp) (Q : VK) : Prop := ∀ a d, H1 a = none → H1 d = none → d ≠ a → Q (.ref a) (upd (upd H1 d (exd d [(f, v)])) a (exo a C (some d)))
theorem relO_one {v : V} {u : Value} (r : RelV v u) (f g : Str) : RelO (List.lookup g [(f, v)]) (if g = f then some u else none) := by
  rw [lookup_put]
  by_cases h : g = f
  · rw [if_pos h, if_pos h]
    exact r
  · rw [if_neg h, if_neg h]
    trivial
section
variable {X : Cx} {pins : List (Addr × Obj)} {σ : St} {H : Hp} {s : Shared}
theorem Inv.laidI {h' : Heap} {f : Str} {a C d t1 : Addr} {v : V} {u : Value} {t' : Nat} (I : Inv X pins σ H s) (r : RelV v u) (M : PySem.ErX.OwnMade s.heap h' f a C d t1 u) :
    H a = none ∧ H d = none ∧ Inv X pins σ (upd (upd H d (exd d [(f, v)])) a (exo a C (some d))) { s with heap := h', toks := t' } := by
  have na : H a = none := I.hok.fresh M.new
  have nd : H d = none := I.hok.fresh M.dbig
  obtain ⟨G, g1, g2⟩ := restrict h' fun b => decide (b ≠ a)
  have gk : ∀ b, b ≠ a → G.get? b = h'.get? b := fun b hb => g1 b (decide_eq_true hb)
  have ga : G.get? a = none := g2 a (by simp)
  have old : ∀ b o, s.heap.get? b = some o → G.get? b = some o := fun b o q => (gk b (Nat.ne_of_lt (Nat.lt_of_lt_of_le (Heap.lt_size q) M.new))).trans (M.keep b o q)
  have up : ∀ b o, G.get? b = some o → h'.get? b = some o := fun b o q => by
    by_cases hb : b = a
    · rw [hb, ga] at q
      cases q
    · rw [← gk b hb]
      exact q
  have J : Inv X pins σ (upd H d (exd d [(f, v)])) { s with heap := G, toks := t' } := I.laid (t' := t') old M.dbig (exd_ok (M.ns.at fun o q => (gk d M.dne).trans q) fun g => relO_one r f g)
  refine ⟨na, nd, ?_⟩
  exact J.laidN (t' := t') up ga (by rw [upd_ne (Ne.symm M.dne)]; exact na) (exo_ok M.obj)
end
section
variable {X : Cx} {C fI : Addr} {f x : Str} {e : Expr} {te : TE} {p pos : Pos} {k : Nat}
/-- what a call of such a class comes to -/
theorem run_mkI (T : PySem.ErX.ITxt X.prog X.K X.mg C fI f) (hr : Room (k + 1) X.A) {pins : List (Addr × Obj)} {σ : St} {H : Hp} {s : Shared} {Q : VK} {v : V} {u : Value} (I : Inv X pins σ H s) (rv : RelV v u) (kwd : Bool) (h : NewI C f v H Q) :
    codeAny (model X.prog X.w) X.A (.call (.ref C) (if kwd then ⟨[], [(f, u)]⟩ else ⟨[u], []⟩)) (wants (EP X pins σ Q) X.xe) s := by
  obtain ⟨mb, hb, hbb⟩ := I.mod.blt
  refine PySem.ErX.made_any T kwd I.kIn I.nolimit (I.mod.glob.keeps I.bk) (hb.keeps I.bk) ((hbb "super" (by decide)).trans (by decide +kernel)) (by have := hr.dp; omega) fun h' tk' a d t1 M => ?_
  obtain ⟨na, nd, J⟩ := I.laidI (t' := tk') rv M
  exact ⟨.ref a, _, J, rfl, h a d na nd M.dne⟩
def tMkI (C : Addr) (f : Str) (te : TE) : TE := fun σ H Q => te σ H fun v H1 => NewI C f v H1 Q
theorem pe_mkI (T : PySem.ErX.ITxt X.prog X.K X.mg C fI f) (hr : Room (k + 1) X.A) (gC : X.mg x = some (.ref C)) (hg : Gl X x) (he : PE X e te) (hdb : (x == ("__debug__" : Str)) = false := by decide) (hs : starEach [e] X.env = (false, eval e X.env) :: starEach [] X.env := by rfl) :
    PE X (.Call (.Name x p) [e] [] pos) (tMkI C f te) := by
  refine ⟨fun pins s σ H Q I h => ?_⟩
  refine wpAny_Call_Name_kw (ld_glob I hg gC ?_ hdb)
  refine PySem.W.callWith_K (h₀ := X.base) I.ok.mod.kin T.kC ?_ hs (by rfl)
  rw [hs]
  show wpAny _ _ (spliced ((false, eval e X.env) :: backTo pos (starEach [] X.env))) _ _ s
  refine Calls.spliced_cons (thn (he.run pins s σ H _ I h) fun u s1 ⟨v, H1, I1, r1, q1⟩ => ?_)
  exact Calls.spliced_nil ⟨I1.kIn, wpAny_call (run_mkI T hr I1 r1 false q1)⟩
theorem pe_mkIk {kp : Pos} (T : PySem.ErX.ITxt X.prog X.K X.mg C fI f) (hr : Room (k + 1) X.A) (gC : X.mg x = some (.ref C)) (hg : Gl X x) (he : PE X e te) (hdb : (x == ("__debug__" : Str)) = false := by decide) :
    PE X (.Call (.Name x p) [] [⟨some f, e, kp⟩] pos) (tMkI C f te) := by
  refine ⟨fun pins s σ H Q I h => ?_⟩
  refine wpAny_Call_Name_kw (ld_glob I hg gC ?_ hdb)
  have hall : (backToKw pos (keywordEach [⟨some f, e, kp⟩] X.env)).all (·.1.isSome) = true := by rfl
  refine PySem.W.callWith_KW0 (h₀ := X.base) (env := X.env) (kws := [⟨some f, e, kp⟩]) (pos := pos) I.ok.mod.kin T.kC hall ?_
  have hk : PK X [⟨some f, e, kp⟩] (tCons te tNil) := pk_cons he pk_nil
  refine thn (hk.run pos pins s σ H (fun vs H1 => match vs with | [v] => NewI C f v H1 Q | _ => False) I h) fun us s1 ⟨vs, H1, I1, r1, q1⟩ => ?_
  refine ⟨I1.kIn, ?_⟩
  rcases vs with _ | ⟨v, _ | ⟨w, r⟩⟩
  · exact q1.elim
  · obtain ⟨u, rfl, r0⟩ := vals1 r1
    have z := run_mkI T hr I1 r0 true q1
    rw [if_pos rfl] at z
    show wpAny _ _ (call (.ref C) [] [(f, u)]) _ _ _
    exact wpAny_call z
  · exact q1.elim
/-! ### the field -/
/-- what the class says, so that a field of its instances is read -/
structure GetI (K : PySem.W.Frag) (C : Addr) (f : Str) : Prop where
  ga : PySem.W.findIn K (.ref C) "__getattribute__" = some (some (.builtin "BaseException.__getattribute__"))
  gg : PySem.W.findIn K (.ref C) "__getattr__" = some none
  ex : PySem.W.subIn K (.ref C) (.type "BaseException") = some true
  hd : PySem.W.hasDictIn K C = true
  no : PySem.W.findIn K (.ref C) f = some none
def tGetI (K : PySem.W.Frag) (f : Str) (te : TE) : TE := fun σ H Q => te σ H fun x H1 => ∃ (a C d : Addr) (v : V), x = .ref a ∧ GetI K C f ∧ H1 a = some (exo a C (some d)) ∧ H1 d = some (exd d [(f, v)]) ∧ Q v H1
theorem pe_getI (he : PE X e te) (hb : attributeBase e f X.env (eval e X.env) = eval e X.env := by rfl) : PE X (.Attribute e f pos) (tGetI X.K f te) := by
  refine ⟨fun pins s σ H Q I h => attr_of hb (thn (he.run pins s σ H _ I h) fun u s1 ⟨x, H1, I1, rx, a, C, d, v, ex, T, ea, ed, q⟩ => ?_)⟩
  subst ex
  obtain rfl : u = Value.ref a := rx
  obtain ⟨t1, ho⟩ := exo_at I1.hok ea
  obtain ⟨mA, hns, rel⟩ := exd_at I1.hok ed
  obtain ⟨od, hod, hl⟩ := lookIn_ns hns
  obtain ⟨w, hw, rw'⟩ := RelO.some_of (v := v) (o := mA f) (by
    have z := rel f
    rw [lookup_put, if_pos rfl] at z
    exact z)
  have J : PySem.W.InstAt s1.heap a { cls := .ref C, dict := some d, data := .fields #[.ref t1, .none, .none, .none, .bool false, .none] } C (some od) := ⟨ho, rfl, rfl, hod⟩
  exact PySem.HandSPX.exc_get I1.kIn J T.ga T.gg T.ex (PySem.W.findObj_own T.hd T.no rfl (by rw [hl, hw])) (handed_of rw') ⟨v, H1, I1.tok _, rw', q⟩
/-- with the written part named: within a comprehension -/
theorem pe_getIK {K : PySem.W.Frag} (he : PE X e te) (hK : X.K = K := by rfl) (hb : attributeBase e f X.env (eval e X.env) = eval e X.env := by rfl) : PE X (.Attribute e f pos) (tGetI K f te) := by
  subst hK
  exact pe_getI he hb
end
end L2

set_option maxRecDepth 100000
set_option maxHeartbeats 2000000
/-! isinstance of an own exception that is held as a value -/
namespace PySem.ErX
open PySem PySem.W PySem.Spec PySem.Calls PyProof.Rows
section
variable {prog : Program} {w : World} {A : Around} {E : Value → Shared → Prop} {s : Shared} {K : Frag} {x D : Addr} {ox : Obj} {od : Option Obj}
theorem find_cls {C : Addr} {name : Str} {a g : Value} (hc : (clsIn K C).isSome = true) (ha : findIn K (.ref C) name = some (some a)) (hg : specialIn K a "__get__" = some (some g)) (ht : takesIn K a = some true) : findObj K C od name = some (.bind g a) := by
  obtain ⟨cd, hc⟩ := Option.isSome_iff_exists.mp hc
  unfold findObj
  rw [hc, Option.bind_some, ha, Option.bind_some]
  simp [hg, ht]
/-- x.__class__ as isinstance asks it, whatever dict the exception has -/
theorem cls_of_exc {Q : Option Value → Shared → Prop} (hga : findIn K (.ref D) "__getattribute__" = some (some (.builtin "BaseException.__getattribute__"))) (hgt : findIn K (.ref D) "__getattr__" = some none) (hB : subIn K (.ref D) (.type "BaseException") = some true)
    (hf : findObj K D od "__class__" = some (.bind (.builtin "getset_descriptor.__get__") (.builtin "object.__class__"))) (hm : mroIn K D (.type "object") = some true)
    (X : K.In s.heap) (I : InstAt s.heap x ox D od) (h : Q (some (.ref D)) { s with toks := s.toks + 1 }) : wpAny (model prog w) A (getAttr? (.ref x) "__class__") Q E s := by
  obtain ⟨hp, g, d, t, os⟩ := s
  have la := I.type (M := model prog w)
  have lb := looks_findIn (M := model prog w) X hga
  have lc := looks_findIn (M := model prog w) X hgt
  have ld := looks_find (M := model prog w) X I hf
  have isB : Looks (model prog w) hp (isInstance (.ref x) (.type "BaseException")) true := la.andThen (looks_subIn X hB)
  have no : (Value.builtin "BaseException.__getattribute__" == Value.builtin "object.__getattribute__") = false := by decide +kernel
  unfold getAttr? getAttrBy? getAttrBy
  refine wpAny_bind (wpAny_mkText (wpAny_bind (wpAny_attempt (wpAny_holding (wpAny_bind (la.at (wpAny_bind (lb.at ?_))))))))
  show wpAny _ _ (if (true && Value.builtin "BaseException.__getattribute__" == Value.builtin "object.__getattribute__") = true then _ else _) _ _ _
  rw [no, if_neg (show ¬ (true && false) = true from Bool.false_ne_true)]
  unfold getAttrByItsOwn hookBefore
  refine wpAny_bind ?_
  have onh : onTheHeap (Value.ref D) = true := rfl
  have noh : (false && onTheHeap (Value.builtin "BaseException.__getattribute__")) = false := rfl
  rw [if_pos onh]
  refine lc.at (wpAny_bind (wpAny_attempt (wpAny_holding ?_)))
  unfold callGetattribute
  rw [noh, if_neg Bool.false_ne_true]
  unfold boundAndCalled
  rw [PySem.F.excAttr_ValueError.ga.bind (.ref x)]
  refine wpAny_bind (wpAny_pure ?_)
  show wpAny _ _ (call (.builtin "BaseException.__getattribute__") [.ref x, .str "__class__" t]) _ _ _
  refine wpAny_call (codeAny_call_builtin PySem.F.excAttr_ValueError.ga.plain PySem.F.entry_bexc_ga ?_)
  refine @check_slot (model prog w) _ _ ⟨hp, g, d, t + 1, os⟩ "BaseException.__getattribute__" "BaseException" "__getattribute__" (.ref x) [.str "__class__" t] [] _ (by decide +kernel) (by decide +kernel) isB (PySem.F.args_bexc_ga (.ref x) (.str "__class__" t)) ?_
  unfold Builtin.«object.__getattribute__»
  refine wpAny_bind (wpAny_of_eq (a := ((Value.ref x : Value), [Value.str "__class__" t])) (by first | rfl | (simp only [slotArgs]; rfl)) ?_)
  refine wpAny_bind (wpAny_pure (wpAny_bind (la.at (wpAny_bind (ld.at ?_)))))
  show wpAny _ _ (holding [Value.builtin "object.__class__"] (call (.builtin "getset_descriptor.__get__") [.builtin "object.__class__", .ref x, .ref D]) >>= ret) _ _ _
  refine wpAny_bind (wpAny_holding (wpAny_call (class_get (s := ⟨hp, g, d, t + 1, os⟩) (ox := ox) (od := od) X I hm ?_)))
  refine wpAny_pure ?_
  show wpAny _ _ (handedOut (.ref D)) _ _ _
  rw [handedOut_of (v := .ref D) rfl]
  first
    | exact wpAny_pure (wpAny_pure h)
    | exact wpAny_pure h
    | exact wpAny_pure (wpAny_bind (wpAny_pure (wpAny_pure h)))
theorem kitx_any (hga : findIn K (.ref D) "__getattribute__" = some (some (.builtin "BaseException.__getattribute__"))) (hgt : findIn K (.ref D) "__getattr__" = some none) (hB : subIn K (.ref D) (.type "BaseException") = some true) (hd : hasDictIn K D = true) (ha : findIn K (.ref D) "__class__" = some (some (.builtin "object.__class__")))
    (hn : specialIn K (.builtin "object.__class__") "__get__" = some (some (.builtin "getset_descriptor.__get__"))) (ht : takesIn K (.builtin "object.__class__") = some true) (hm : mroIn K D (.type "object") = some true) :
    KitX K (.ref x) (.ref D) (fun h => ∃ (ox : Obj) (od : Option Obj), InstAt h x ox D od) := by
  obtain ⟨cd, hc, _⟩ := any_some hd
  obtain ⟨oc, odd, sl, ho⟩ : ∃ oc odd sl, K.lookup D = some ⟨oc, odd, .cls cd, sl⟩ := by
    unfold clsIn at hc
    split at hc
    · rename_i c d cd' sl' ho
      cases hc
      exact ⟨c, d, sl', ho⟩
    · cases hc
  refine ⟨fun M h X ⟨ox, od, I⟩ => I.type, fun M h X _ A Q E s k q => ?_, fun h tp dd its n sl' X z => ?_, fun {prog w A E Q s} X ⟨ox, od, I⟩ k => ?_⟩
  · unfold isType loadHead
    exact wpAny_bind (wpAny_loadPart (k _ _ (X _ _ ho)) (wpAny_pure q))
  · refine beq_eq_false_iff_ne.mpr fun e => ?_
    obtain rfl := Value.ref.inj e
    cases (X _ _ ho).symm.trans z
  · exact cls_of_exc hga hgt hB (find_cls (by rw [hc]; rfl) ha hn ht) hm X I k
end
end PySem.ErX

namespace L2
open PySem PySem.Spec PyProof.Rows
/-- at a: an own exception of the class at D, with a field or without -/
def ExcAt (H : Hp) (a D : Addr) : Prop := H a = some (ExO (.ref D) a) ∨ ∃ d fs, H a = some (exo a D (some d)) ∧ H d = some (exd d fs)
theorem ExcAt.same {H H' : Hp} {a D : Addr} (h : ExcAt H a D) (s : Same H H') : ExcAt H' a D := by
  rcases h with h | ⟨d, fs, h1, h2⟩
  · exact .inl (s _ _ h)
  · exact .inr ⟨d, fs, s _ _ h1, s _ _ h2⟩
def rIsX (K : PySem.W.Frag) : List V → Hp → VK → Prop := fun xs H Q => ∃ (a D : Addr) (c : V) (u : Value) (b : Bool), xs = [.ref a, c] ∧ ClsV c u ∧ ExcC K D ∧ ExcAt H a D ∧ PySem.W.kitOne K (.ref D) u = some b ∧ Q (.bl b) H
theorem call_isX {X : Cx} : CallR X (.builtin "isinstance") (rIsX X.K) := by
  intro pins s σ H xs us Q I r h
  obtain ⟨a, D, c, u, b, rfl, kc, T, hA, e, q⟩ := h
  obtain ⟨u1, u2, rfl, r1, r2⟩ := vals2 r
  obtain rfl := kc.eq r2
  obtain rfl : u1 = Value.ref a := r1
  have J : ∃ (ox : Obj) (od : Option Obj), PySem.W.InstAt s.heap a ox D od := by
    rcases hA with h | ⟨d, fs, h1, h2⟩
    · obtain ⟨⟨oe, vs, ho, ⟨z1, z2⟩, hd, _⟩, _, _⟩ := I.hok a _ h
      obtain ⟨oc, od, odt, osl⟩ := oe
      dsimp only at z1 z2 hd
      subst z1 z2 hd
      exact ⟨_, none, ho, rfl, rfl, trivial⟩
    · obtain ⟨t1, ho⟩ := exo_at I.hok h1
      obtain ⟨mA, hns, rel⟩ := exd_at I.hok h2
      obtain ⟨od, hod, hl⟩ := lookIn_ns hns
      exact ⟨_, some od, ho, rfl, rfl, hod⟩
  exact PySem.W.kia_one (PySem.ErX.kitx_any T.hg T.hk T.hs T.hd T.ha T.hn T.ht T.hm) I.kIn J e (fun z => nomatch z) fun tk => ⟨.bl b, H, I.tok tk, rfl, q⟩
end L2

set_option maxRecDepth 100000
set_option maxHeartbeats 2000000
/-! repr of data: a fixed text of the data, while no repr is under way -/
namespace L2
open PySem PySem.Spec PyProof.Rows
def rReprD (K : PySem.W.Frag) : List V → Hp → VK → Prop := fun xs H Q => ∃ (a : Addr) (d : PyData), xs = [.ref a] ∧ Dp K H (.ref a) d ∧ d.showable = true ∧ d.hasDict = false ∧ d.shown.length ≤ sizeLine ∧ d.depth ≤ 20 ∧ Q (.str d.shown) H
theorem call_reprD {X : Cx} {k : Nat} (hgd : X.A.guards = some []) (hr : Room k X.A) : CallR X (.builtin "repr") (rReprD X.K) := by
  intro pins s σ H xs us Q I r h
  obtain ⟨a, d, rfl, hd, h1, h2, h3, h4, q⟩ := h
  obtain ⟨u, rfl, ru⟩ := vals1 r
  obtain rfl : u = Value.ref a := ru
  obtain ⟨as, rd⟩ := Dp.reads I d (.ref a) (.ref a) hd rfl
  have hu := hr.un
  exact PySem.repr_of_reads' rd h1 (fun z => by rw [h2] at z; cases z) hgd (by omega) (fun _ _ e => e) (fun h' u tk k => ⟨.str _, H, I.kept k, ⟨_, rfl⟩, q⟩) h3
end L2

set_option maxRecDepth 100000
set_option maxHeartbeats 1000000
set_option exponentiation.threshold 20000
namespace L2
open PySem PySem.Spec PyProof.Rows
/-! ** of greater ints -/
def CPowW (i j : Int) : Prop := 0 ≤ j ∧ ((i.natAbs.log2 + 1 : Nat) : Int) * j ≤ 2 ^ 27
theorem op_powW {X : Cx} : OpR X (binaryOp .Pow) (rI CPowW fun i j => .int (i ^ j.toNat)) := opI fun i j _ _ _ _ _ hc q => by
  refine PyProof.Rows.pow_int hc.1 (Int.le_trans ?_ hc.2) q
  refine Int.mul_le_mul_of_nonneg_right ?_ hc.1
  unfold Builtin.Int.intBits
  split <;> omega
theorem pow_ok {i j : Int} {b : Nat} (hj : 0 ≤ j) (hj2 : j ≤ 3) (hb : i.natAbs < 2 ^ b) (h0 : 0 < b) (h1 : b ≤ 1000) : CPowW i j := by
  have h := PySem.Flt.log2_lt_of h0 hb
  refine ⟨hj, ?_⟩
  have : ((i.natAbs.log2 + 1 : Nat) : Int) ≤ 1000 := by omega
  have h3 : ((i.natAbs.log2 + 1 : Nat) : Int) * j ≤ 1000 * 3 := Int.mul_le_mul this hj2 hj (by decide)
  exact Int.le_trans h3 (by decide)
/-! heaps -/
theorem same_new {H : Hp} {p : Addr} {o : HO} (h : H p = none) : Same H (upd H p o) := fun b x e => by
  rw [upd_ne (ne_of_none e h)]
  exact e
theorem cut_to (xs : List V) (n : Nat) : cutV xs none (some (n : Int)) = xs.take n := by
  unfold cutV
  rw [HT.sIx_none, show HT.sIx xs.length xs.length (some (n : Int)) = min n xs.length from HT.sIx_nat xs.length xs.length n, List.drop_zero, Nat.sub_zero, ← List.take_take, List.take_length]
end L2
namespace K0
open PySem PySem.Spec PyProof.Rows L2
def topS (i : Nat) : Stmt := PySem.Challenge.pw_growfences_k00_errors_made.main.body.getD i (.Pass ⟨0, 0, 0, 0⟩)
abbrev sStock : Stmt := topS 20
abbrev sDraw : Stmt := topS 21
theorem scStock : FnScope ["_law_script", "_law_digits", "_law_mixed", "_law_cell", "_law_grown"] ["_law_script"] (defScope sStock) := ⟨rfl, rfl, rfl, by decide +kernel, rfl, by decide +kernel, by decide +kernel⟩
theorem scDraw : FnScope ["_law_stock_here", "_law_wide", "_law_found", "_law_grown"] ["_law_stock_here", "_law_wide"] (defScope sDraw) := ⟨rfl, rfl, rfl, by decide +kernel, rfl, by decide +kernel, by decide +kernel⟩
abbrev M127 : Int := 170141183460469231731687303715884105727
section
variable {P : Program} {w : World} {K : PySem.W.Frag} {mg : Str → Option Value} {base : Heap}
/-- a stock: [digits, mixed, turns] -/
def Stk (d m c : Int) (n : Nat) : Prop := 0 ≤ d ∧ d < 2 ^ n ∧ 0 ≤ m ∧ m < M127 ∧ 0 ≤ c
def spStock (K : PySem.W.Frag) : Sp := fun vs H Q _ => ∃ (a : Addr) (ns : List Int), vs = [.ref a] ∧ SqL K H a (ns.map V.int) ∧ ns.length ≤ 63 ∧ ∀ H' p d m, Same H H' → H p = none → H' p = some (.lst [.int d, .int m, .int 0]) → 0 ≤ d → d < 2 ^ 12600 → 0 ≤ m → m < M127 → Q (.ref p) H'
theorem ok_stock {f : Addr} {fd : FuncData} {k : Nat} (F : Fun K "_law_stock" "_law_stock" sStock f fd) (mi : mg "int" = none) (ma : mg "abs" = none) : FnOk P w K mg base CX0 (k + 1) f fd ["_law_script"] (spStock K) := by
  refine F.ok scStock (fun vs H Q E h => ?_) (fun cdv A outer s H vs Q E hr h => ?_)
  · obtain ⟨a, ns, rfl, _⟩ := h
    rfl
  · obtain ⟨a, ns, rfl, hS, hlen, q⟩ := h
    refine ⟨_, pss_cons (ps_asg (pe_tup (pa_cons pe_int (pa_cons pe_int pa_nil))) (pg_tup rfl (pgs_cons (pg_name (i := 1) scStock.nd rfl (.inl rfl)) (pgs_cons (pg_name (i := 2) scStock.nd rfl (.inl rfl)) pgs_nil))))
      (pss_cons (ps_for PassesOwn.never rfl (pi_list (pe_slice sl_list (pv 0) po_none (po_some pe_int))) (pg_name (i := 3) scStock.nd rfl (.inl rfl))
        (pss_cons (ps_if (pt_cmpR op_ge (pe_callB call_abs (by rfl) ma (by decide +kernel) (pa_cons (pv 3) pa_nil)) (pe_op op_pow pe_int pe_int) (nomark _))
            (pss_one (ps_set (i := 1) scStock.nd rfl (.inl rfl) (pe_op op_add (pe_op op_mulW (pv 1) (pe_op op_pow pe_int pe_int))
              (pe_op op_mod (pe_callTy call_int1 (by rfl) mi (by decide +kernel) (pa_cons (pe_callB call_abs (by rfl) ma (by decide +kernel) (pa_cons (pv 3) pa_nil)) pa_nil)) (pe_op op_pow pe_int pe_int))))) pss_nil)
        (pss_cons (ps_set (i := 4) scStock.nd rfl (.inl rfl) (pe_op op_add (pe_op op_add (pe_op op_mul (pv 2) pe_int) (pe_op op_mod (pe_callTy call_int1 (by rfl) mi (by decide +kernel) (pa_cons (pv 3) pa_nil)) pe_int)) pe_int))
        (pss_one (ps_set (i := 2) scStock.nd rfl (.inl rfl) (pe_op op_mod (pe_callTy call_int1 (by rfl) mi (by decide +kernel) (pa_cons (pv 4) pa_nil)) pe_int))))))
      (pss_one (ps_ret (pe_lst (pa_cons (pv 1) (pa_cons (pv 2) (pa_cons pe_int pa_nil))))))), ?_⟩
    refine ⟨by show 2 ≤ sizeLine; decide, fun t nt => ?_⟩
    have s0 : Same H (upd H t (.tup [.int 0, .int 27644437])) := same_new nt
    refine ⟨t, _, rfl, .inl (.inl upd_same), rfl, .int 0, [.int 27644437], rfl, .int 27644437, [], rfl, rfl, ?_⟩
    refine ⟨.ref a, rfl, 63, rfl, a, ns.map V.int, rfl, s0.seq hS, fun c nc => ?_⟩
    have s1 := s0.trans (same_new (o := .lst (cutV (ns.map V.int) none (some 63))) nc)
    have ec : cutV (ns.map V.int) none (some 63) = ns.map V.int := by
      rw [show (63 : Int) = ((63 : Nat) : Int) from rfl, cut_to, List.take_of_length_le (by rw [List.length_map]; exact hlen)]
    rw [ec] at s1 ⊢
    refine ⟨c, rfl, ⟨_, .inl (.inl upd_same)⟩, ?_⟩
    refine for_list (xs := ns.map V.int) (fun i σ H3 => ∃ d m y3 y4, σ = [some (.ref a), some (.int d), some (.int m), y3, y4] ∧ H3 = upd (upd H t (.tup [.int 0, .int 27644437])) c (.lst (ns.map V.int)) ∧ 0 ≤ d ∧ d < 2 ^ (200 * i) ∧ 0 ≤ m ∧ m < M127) ?_ ?_ ?_ ?_
    · exact ⟨0, 27644437, none, none, rfl, rfl, by decide, by decide, by decide, by decide⟩
    · rintro i σ H3 _ ⟨d, m, y3, y4, rfl, rfl, _⟩
      exact .inl (.inl upd_same)
    · rintro i x σ H3 hx ⟨d, m, y3, y4, rfl, rfl, d0, d1, m0, m1⟩
      obtain ⟨n, rfl⟩ : ∃ n, x = .int n := by
        rw [List.getElem?_map] at hx
        cases h : ns[i]? with
        | none => rw [h] at hx; cases hx
        | some n => rw [h] at hx; exact ⟨n, (Option.some.inj hx).symm⟩
      have dn : d.natAbs < 2 ^ (200 * i + 1) := by
        have e : ((2 ^ (200 * i) : Nat) : Int) = 2 ^ (200 * i) := by simp
        have e2 : 2 ^ (200 * i) ≤ 2 ^ (200 * i + 1) := Nat.pow_le_pow_right (by decide) (by omega)
        omega
      have hi : i < 63 := by
        have := (List.getElem?_eq_some_iff.mp hx).1
        rw [List.length_map] at this
        omega
      refine ⟨.int n, rfl, n, rfl, 10, 18, rfl, rfl, ⟨by decide, by decide, by decide⟩, _, _, rfl, rfl, _, rfl, ite2 (fun e => ?_) (fun e => ?_)⟩
      · refine ⟨_, rfl, 10, 60, rfl, rfl, ⟨by decide, by decide, by decide⟩, _, _, rfl, rfl, wide_mul dn (show ((10 : Int) ^ (60 : Int).toNat).natAbs < 2 ^ 200 by decide) (by omega) (by decide) (by omega), _, rfl, _, rfl, .inl ⟨_, rfl, 10, 60, rfl, rfl, ⟨by decide, by decide, by decide⟩, _, _, rfl, rfl, by show (0 : Int) < 10 ^ 60; decide, _, _, rfl, rfl, ?_⟩⟩
        have D0 : 0 ≤ d * (10 : Int) ^ (60 : Int).toNat + (if n < 0 then -n else n) % (10 : Int) ^ (60 : Int).toNat := Int.add_nonneg (Int.mul_nonneg d0 (by decide)) (Int.emod_nonneg _ (by decide))
        have D1 : d * (10 : Int) ^ (60 : Int).toNat + (if n < 0 then -n else n) % (10 : Int) ^ (60 : Int).toNat < 2 ^ (200 * (i + 1)) := by
          have r1 : (if n < 0 then -n else n) % (10 : Int) ^ (60 : Int).toNat < 10 ^ (60 : Int).toNat := Int.emod_lt_of_pos _ (by decide)
          have r2 : (d + 1) * (10 : Int) ^ (60 : Int).toNat ≤ 2 ^ (200 * i) * 2 ^ 200 := Int.mul_le_mul d1 (by decide) (by decide) (Int.pow_nonneg (by decide))
          have r3 : (2 : Int) ^ (200 * (i + 1)) = 2 ^ (200 * i) * 2 ^ 200 := by rw [Nat.mul_add, Int.pow_add]
          rw [Int.add_mul, Int.one_mul] at r2
          omega
        refine ⟨_, rfl, _, _, rfl, rfl, .inr ⟨by decide, by decide⟩, _, rfl, .inl ⟨_, rfl, _, _, rfl, rfl, by show (0 : Int) < 2305843009213693951; decide, _, _, rfl, rfl, _, _, rfl, rfl, ?_⟩⟩
        refine ⟨_, rfl, .inl ⟨_, rfl, _, _, rfl, rfl, by show (0 : Int) < M127; decide, ?_⟩⟩
        exact ⟨_, _, _, _, rfl, rfl, D0, D1, Int.emod_nonneg _ (by decide), Int.emod_lt_of_pos _ (by decide)⟩
      · have D0 := d0
        have D1 : d < 2 ^ (200 * (i + 1)) := Int.lt_of_lt_of_le d1 (by
          have e : (2 : Nat) ^ (200 * i) ≤ 2 ^ (200 * (i + 1)) := Nat.pow_le_pow_right (by decide) (by omega)
          exact_mod_cast e)
        refine ⟨_, rfl, _, _, rfl, rfl, .inr ⟨by decide, by decide⟩, _, rfl, .inl ⟨_, rfl, _, _, rfl, rfl, by show (0 : Int) < 2305843009213693951; decide, _, _, rfl, rfl, _, _, rfl, rfl, ?_⟩⟩
        refine ⟨_, rfl, .inl ⟨_, rfl, _, _, rfl, rfl, by show (0 : Int) < M127; decide, ?_⟩⟩
        exact ⟨_, _, _, _, rfl, rfl, D0, D1, Int.emod_nonneg _ (by decide), Int.emod_lt_of_pos _ (by decide)⟩
    · rintro σ H3 ⟨d, m, y3, y4, rfl, rfl, d0, d1, m0, m1⟩
      refine ⟨_, rfl, _, rfl, by show 3 ≤ sizeLine; decide, fun p np => ?_⟩
      have s2 := s1.trans (same_new (o := .lst [.int d, .int m, .int 0]) np)
      refine q _ p d m s2 (s1.free np) upd_same d0 (Int.lt_of_lt_of_le d1 ?_) m0 m1
      have e : (2 : Nat) ^ (200 * (ns.map V.int).length) ≤ 2 ^ 12600 := Nat.pow_le_pow_right (by decide) (by rw [List.length_map]; omega)
      exact_mod_cast e
def spDraw : Sp := fun vs H Q _ => ∃ (p : Addr) (wd d m c : Int), vs = [.ref p, .int wd] ∧ 0 < wd ∧ wd ≤ 1000 ∧ H p = some (.lst [.int d, .int m, .int c]) ∧ 0 ≤ d ∧ d < 2 ^ 12600 ∧ 0 ≤ m ∧ m < M127 ∧ 0 ≤ c ∧ c ≤ 1000 ∧
  ∀ r d' c' : Int, 0 ≤ r → r < wd → 0 ≤ d' → d' < 2 ^ 12600 → 0 ≤ c' → c' ≤ c + 1 → Q (.int r) (upd H p (.lst [.int d', .int m, .int c']))
theorem ok_draw {f : Addr} {fd : FuncData} {k : Nat} (F : Fun K "_law_draw" "_law_draw" sDraw f fd) (mi : mg "int" = none) : FnOk P w K mg base CX0 (k + 1) f fd ["_law_stock_here", "_law_wide"] spDraw := by
  refine F.ok scDraw (fun vs H Q E h => ?_) (fun cdv A outer s H vs Q E hr h => ?_)
  · obtain ⟨p, wd, d, m, c, rfl, _⟩ := h
    rfl
  · obtain ⟨p, wd, d, m, c, rfl, w0, w1, hp, d0, d1, m0, m1, c0, c1, q⟩ := h
    refine ⟨_, pss_cons (ps_if (pt_cmpR op_gt (pe_ix ix_list (pv 0) pe_int (fun _ _ => rfl)) pe_int (nomark _))
        (pss_cons (ps_set (i := 2) scDraw.nd rfl (.inl rfl) (pe_op op_mod (pe_callTy call_int1 (by rfl) mi (by decide +kernel) (pa_cons (pe_ix ix_list (pv 0) pe_int (fun _ _ => rfl)) pa_nil)) (pv 1)))
        (pss_cons (ps_asg (pe_op op_fdiv (pe_ix ix_list (pv 0) pe_int (fun _ _ => rfl)) (pv 1)) (pg_sub (pv 0) pe_int set_list))
        (pss_one (ps_ret (pv 2))))) pss_nil)
      (pss_cons (ps_asg (pe_op op_add (pe_ix ix_list (pv 0) pe_int (fun _ _ => rfl)) pe_int) (pg_sub (pv 0) pe_int set_list))
      (pss_cons (ps_set (i := 3) scDraw.nd rfl (.inl rfl) (pe_op op_add (pe_ix ix_list (pv 0) pe_int (fun _ _ => rfl)) (pe_op op_mul pe_int (pe_ix ix_list (pv 0) pe_int (fun _ _ => rfl)))))
      (pss_cons (ps_set (i := 3) scDraw.nd rfl (.inl rfl) (pe_op op_add (pe_op op_mod (pe_callTy call_int1 (by rfl) mi (by decide +kernel) (pa_cons (pe_op op_powW (pv 3) pe_int) pa_nil)) pe_int) (pe_op op_mul pe_int (pe_ix ix_list (pv 0) pe_int (fun _ _ => rfl)))))
      (pss_cons (ps_set (i := 3) scDraw.nd rfl (.inl rfl) (pe_op op_mod (pe_callTy call_int1 (by rfl) mi (by decide +kernel) (pa_cons (pe_op op_powW (pv 3) pe_int) pa_nil)) pe_int))
      (pss_one (ps_ret (pe_op op_mod (pe_callTy call_int1 (by rfl) mi (by decide +kernel) (pa_cons (pe_op op_fdiv (pv 3) pe_int) pa_nil)) (pv 1)))))))), ?_⟩
    refine ⟨.ref p, rfl, p, _, 0, .int d, rfl, rfl, SqL.of hp, atI_nat (j := 0) rfl, _, _, rfl, rfl, _, rfl, ite2 (fun e => ?_) (fun e => ?_)⟩
    · refine ⟨.ref p, rfl, p, _, 0, .int d, rfl, rfl, SqL.of hp, atI_nat (j := 0) rfl, .inl ⟨_, rfl, _, rfl, _, _, rfl, rfl, w0, ?_⟩⟩
      refine ⟨.ref p, rfl, p, _, 0, .int d, rfl, rfl, SqL.of hp, atI_nat (j := 0) rfl, _, rfl, _, _, rfl, rfl, ⟨w0, by omega⟩, .ref p, rfl, p, _, 0, 0, rfl, rfl, hp, rfl, ?_⟩
      have l1 : d / wd ≤ d := Int.ediv_le_self _ d0
      exact ⟨_, rfl, q (d % wd) (d / wd) c (Int.emod_nonneg _ (by omega)) (Int.emod_lt_of_pos _ w0) (Int.ediv_nonneg d0 (by omega)) (by omega) c0 (by omega)⟩
    · refine ⟨.ref p, rfl, p, _, 2, .int c, rfl, rfl, SqL.of hp, atI_nat (j := 2) rfl, _, _, rfl, rfl, .ref p, rfl, p, _, 2, 2, rfl, rfl, hp, rfl, ?_⟩
      have h2 : upd H p (.lst ([V.int d, .int m, .int c].set 2 (.int (c + 1)))) p = some (.lst [.int d, .int m, .int (c + 1)]) := upd_same
      refine ⟨.ref p, rfl, p, _, 1, .int m, rfl, rfl, SqL.of h2, atI_nat (j := 1) rfl, .ref p, rfl, p, _, 2, .int (c + 1), rfl, rfl, SqL.of h2, atI_nat (j := 2) rfl, _, _, rfl, rfl, .inl ⟨by decide, by decide⟩, _, _, rfl, rfl, ?_⟩
      have g1 : (m + 1000000000000000003 * (c + 1)).natAbs < 2 ^ 130 := by
        have m2 : m < 170141183460469231731687303715884105727 := m1
        have z : m + 1000000000000000003 * (c + 1) < 2 ^ 130 := by omega
        omega
      refine ⟨_, rfl, _, _, rfl, rfl, pow_ok (by decide) (by decide) g1 (by decide) (by decide), .inl ⟨_, rfl, _, _, rfl, rfl, by show (0 : Int) < M127; decide, .ref p, rfl, p, _, 2, .int (c + 1), rfl, rfl, SqL.of h2, atI_nat (j := 2) rfl, _, _, rfl, rfl, .inl ⟨by decide, by decide⟩, _, _, rfl, rfl, ?_⟩⟩
      generalize hG : (m + 1000000000000000003 * (c + 1)) ^ (2 : Int).toNat % 170141183460469231731687303715884105727 = G
      have G0 : 0 ≤ G := by rw [← hG]; exact Int.emod_nonneg _ (by decide)
      have G1 : G < M127 := by rw [← hG]; exact Int.emod_lt_of_pos _ (by decide)
      have g2 : (G + 999999000001 * (c + 1)).natAbs < 2 ^ 130 := by
        have G2 : G < 170141183460469231731687303715884105727 := G1
        have z : G + 999999000001 * (c + 1) < 2 ^ 130 := by omega
        omega
      refine ⟨_, rfl, _, _, rfl, rfl, pow_ok (by decide) (by decide) g2 (by decide) (by decide), .inl ⟨_, rfl, _, _, rfl, rfl, by show (0 : Int) < M127; decide, ?_⟩⟩
      refine ⟨_, rfl, _, _, rfl, rfl, ⟨by decide, by decide⟩, .inl ⟨_, rfl, _, rfl, _, _, rfl, rfl, w0, ?_⟩⟩
      exact q _ d (c + 1) (Int.emod_nonneg _ (by omega)) (Int.emod_lt_of_pos _ w0) d0 d1 (by omega) (by omega)
end
end K0

set_option maxRecDepth 100000
set_option maxHeartbeats 1000000
namespace K0
open PySem PySem.Spec PyProof.Rows L2
abbrev sKinds : Stmt := topS 22
abbrev sMade : Stmt := topS 23
abbrev sFields : Stmt := topS 24
theorem scKinds : FnScope ["_law_made_here", "_law_found"] ["_law_made_here"] (defScope sKinds) := ⟨rfl, rfl, rfl, by decide +kernel, rfl, by decide +kernel, by decide +kernel⟩
theorem scMade : FnScope ["_law_text", "_law_spot", "_law_found"] ["_law_text", "_law_spot"] (defScope sMade) := ⟨rfl, rfl, rfl, by decide +kernel, rfl, by decide +kernel, by decide +kernel⟩
abbrev veT : List Value := [.type "ValueError", .type "Exception", .type "BaseException", .type "object"]
/-- the seventeen classes by their number, FenceError, what is known of them -/
structure Txt (P : Program) (K : PySem.W.Frag) (mg : Str → Option Value) (C I : Nat → Addr) (FE : Addr) : Prop where
  g0 : mg "InvalidSize" = some (.ref (C 0))
  g1 : mg "InvalidNumber" = some (.ref (C 1))
  g2 : mg "InvalidSide" = some (.ref (C 2))
  g3 : mg "InvalidPoint" = some (.ref (C 3))
  g4 : mg "InvalidMove" = some (.ref (C 4))
  g5 : mg "InvalidDirection" = some (.ref (C 5))
  g6 : mg "InvalidLine" = some (.ref (C 6))
  g7 : mg "InvalidName" = some (.ref (C 7))
  g8 : mg "Impossible" = some (.ref (C 8))
  g9 : mg "NothingToUndo" = some (.ref (C 9))
  g10 : mg "InvalidCommand" = some (.ref (C 10))
  g11 : mg "InvalidFence" = some (.ref (C 11))
  g12 : mg "InvalidPoints" = some (.ref (C 12))
  g13 : mg "InvalidRule" = some (.ref (C 13))
  g14 : mg "InvalidCounts" = some (.ref (C 14))
  g15 : mg "InvalidLooks" = some (.ref (C 15))
  g16 : mg "InvalidSyntax" = some (.ref (C 16))
  gF : mg "FenceError" = some (.ref FE)
  plain : ∀ i, i < 11 → PySem.W.excIn K (C i) veT "ValueError.__new__" = true
  keep : ∀ i, i < 11 → PySem.W.keepIn K (.ref (C i)) = true
  plainF : PySem.W.excIn K FE veT "ValueError.__new__" = true
  keepF : PySem.W.keepIn K (.ref FE) = true
  exc : ∀ i, i < 17 → ExcC K (C i)
  excF : ExcC K FE
  kit : ∀ i, i < 17 → ∀ j, j < 17 → PySem.W.kitOne K (.ref (C i)) (.ref (C j)) = some (decide (j = i))
  kitF : ∀ j, j < 17 → PySem.W.kitOne K (.ref FE) (.ref (C j)) = some false
  upF : ∀ i, i < 17 → PySem.W.kitOne K (.ref (C i)) (.ref FE) = some true
  upV : ∀ i, i < 17 → PySem.W.kitOne K (.ref (C i)) (.type "ValueError") = some true
  upFV : PySem.W.kitOne K (.ref FE) (.type "ValueError") = some true
  it11 : PySem.ErX.ITxt P K mg (C 11) (I 11) "part"
  it12 : PySem.ErX.ITxt P K mg (C 12) (I 12) "index"
  it13 : PySem.ErX.ITxt P K mg (C 13) (I 13) "index"
  it14 : PySem.ErX.ITxt P K mg (C 14) (I 14) "index"
  it15 : PySem.ErX.ITxt P K mg (C 15) (I 15) "index"
  it16 : PySem.ErX.ITxt P K mg (C 16) (I 16) "word"
  get11 : GetI K (C 11) "part"
  get12 : ∀ i, 12 ≤ i → i < 16 → GetI K (C i) "index"
  get16 : GetI K (C 16) "word"
  mii : mg "isinstance" = none
  mint : mg "int" = none
  mabs : mg "abs" = none
  mrange : mg "range" = none
  mmax : mg "max" = none
  mmin : mg "min" = none
  mlen : mg "len" = none
  menum : mg "enumerate" = none
  mrepr : mg "repr" = none
  mVE : mg "ValueError" = none
theorem pe_cls {X : Cx} {x : Str} {a : Addr} {pos : Pos} (hg : Gl X x) (hm : X.mg x = some (.ref a)) (hd : (x == ("__debug__" : Str)) = false := by decide) : PE X (.Name x pos) (tC (.ref a)) := pe_glob (v := V.ref a) hg hm rfl hd
section
variable {P : Program} {w : World} {K : PySem.W.Frag} {mg : Str → Option Value} {base : Heap} {C I : Nat → Addr} {FE : Addr}
def spKinds (K : PySem.W.Frag) (C : Nat → Addr) : Sp := fun vs H Q _ => ∃ (a D : Addr) (b : Nat → Bool), vs = [.ref a] ∧ ExcC K D ∧ ExcAt H a D ∧ (∀ j, j < 17 → PySem.W.kitOne K (.ref D) (.ref (C j)) = some (b j)) ∧
  ∀ H' p, Same H H' → H p = none → H' p = some (.lst ((List.range 17).map fun j => V.bl (b j))) → Q (.ref p) H'
theorem lst_step {H0 H : Hp} {xs : List V} {Q : VK} (s : Same H0 H) (h : ∀ p H', Same H0 H' → Same H H' → H0 p = none → H p = none → H' p = some (.lst xs) → Q (.ref p) H') : ∀ p, H p = none → Q (.ref p) (upd H p (.lst xs)) :=
  fun p np => h p _ (s.trans (same_new np)) (same_new np) (s.free np) np upd_same
theorem sz20 {n : Nat} (h : n ≤ 100) : n ≤ sizeLine := Nat.le_trans h (by decide)
theorem ok_kinds {f : Addr} {fd : FuncData} {k : Nat} (F : Fun K "_law_kinds" "_law_kinds" sKinds f fd) (T : Txt P K mg C I FE) : FnOk P w K mg base CX0 (k + 1) f fd ["_law_made_here"] (spKinds K C) := by
  refine F.ok scKinds (fun vs H Q E h => ?_) (fun cdv A outer s H vs Q E hr h => ?_)
  · obtain ⟨a, D, b, rfl, _⟩ := h
    rfl
  · obtain ⟨a, D, b, rfl, xD, hA, hk, q⟩ := h
    refine ⟨_, pss_cons (ps_set (i := 1) scKinds.nd rfl (.inl rfl) (pe_lst (pa_cons (pe_callB call_isX (by rfl) T.mii (by decide +kernel) (pa_cons (pv 0) (pa_cons (pe_cls rfl T.g0) pa_nil))) (pa_cons (pe_callB call_isX (by rfl) T.mii (by decide +kernel) (pa_cons (pv 0) (pa_cons (pe_cls rfl T.g1) pa_nil))) (pa_cons (pe_callB call_isX (by rfl) T.mii (by decide +kernel) (pa_cons (pv 0) (pa_cons (pe_cls rfl T.g2) pa_nil))) pa_nil)))))
      (pss_cons (ps_set (i := 1) scKinds.nd rfl (.inl rfl) (pe_op op_cat (pv 1) (pe_lst (pa_cons (pe_callB call_isX (by rfl) T.mii (by decide +kernel) (pa_cons (pv 0) (pa_cons (pe_cls rfl T.g3) pa_nil))) (pa_cons (pe_callB call_isX (by rfl) T.mii (by decide +kernel) (pa_cons (pv 0) (pa_cons (pe_cls rfl T.g4) pa_nil))) (pa_cons (pe_callB call_isX (by rfl) T.mii (by decide +kernel) (pa_cons (pv 0) (pa_cons (pe_cls rfl T.g5) pa_nil))) pa_nil))))))
      (pss_cons (ps_set (i := 1) scKinds.nd rfl (.inl rfl) (pe_op op_cat (pv 1) (pe_lst (pa_cons (pe_callB call_isX (by rfl) T.mii (by decide +kernel) (pa_cons (pv 0) (pa_cons (pe_cls rfl T.g6) pa_nil))) (pa_cons (pe_callB call_isX (by rfl) T.mii (by decide +kernel) (pa_cons (pv 0) (pa_cons (pe_cls rfl T.g7) pa_nil))) (pa_cons (pe_callB call_isX (by rfl) T.mii (by decide +kernel) (pa_cons (pv 0) (pa_cons (pe_cls rfl T.g8) pa_nil))) pa_nil))))))
      (pss_cons (ps_set (i := 1) scKinds.nd rfl (.inl rfl) (pe_op op_cat (pv 1) (pe_lst (pa_cons (pe_callB call_isX (by rfl) T.mii (by decide +kernel) (pa_cons (pv 0) (pa_cons (pe_cls rfl T.g9) pa_nil))) (pa_cons (pe_callB call_isX (by rfl) T.mii (by decide +kernel) (pa_cons (pv 0) (pa_cons (pe_cls rfl T.g10) pa_nil))) (pa_cons (pe_callB call_isX (by rfl) T.mii (by decide +kernel) (pa_cons (pv 0) (pa_cons (pe_cls rfl T.g11) pa_nil))) pa_nil))))))
      (pss_cons (ps_set (i := 1) scKinds.nd rfl (.inl rfl) (pe_op op_cat (pv 1) (pe_lst (pa_cons (pe_callB call_isX (by rfl) T.mii (by decide +kernel) (pa_cons (pv 0) (pa_cons (pe_cls rfl T.g12) pa_nil))) (pa_cons (pe_callB call_isX (by rfl) T.mii (by decide +kernel) (pa_cons (pv 0) (pa_cons (pe_cls rfl T.g13) pa_nil))) (pa_cons (pe_callB call_isX (by rfl) T.mii (by decide +kernel) (pa_cons (pv 0) (pa_cons (pe_cls rfl T.g14) pa_nil))) pa_nil))))))
      (pss_one (ps_ret (pe_op op_cat (pv 1) (pe_lst (pa_cons (pe_callB call_isX (by rfl) T.mii (by decide +kernel) (pa_cons (pv 0) (pa_cons (pe_cls rfl T.g15) pa_nil))) (pa_cons (pe_callB call_isX (by rfl) T.mii (by decide +kernel) (pa_cons (pv 0) (pa_cons (pe_cls rfl T.g16) pa_nil))) pa_nil)))))))))), ?_⟩
    refine ⟨_, rfl, ?_⟩
    refine ⟨a, D, .ref (C 0), .ref (C 0), b 0, rfl, .own _, xD, hA.same (Same.refl H), hk 0 (by decide), ?_⟩
    refine ⟨_, rfl, ?_⟩
    refine ⟨a, D, .ref (C 1), .ref (C 1), b 1, rfl, .own _, xD, hA.same (Same.refl H), hk 1 (by decide), ?_⟩
    refine ⟨_, rfl, ?_⟩
    refine ⟨a, D, .ref (C 2), .ref (C 2), b 2, rfl, .own _, xD, hA.same (Same.refl H), hk 2 (by decide), ?_⟩
    refine ⟨sz20 (by simp), fun l1 n1 => ?_⟩
    refine ⟨_, rfl, ?_⟩
    refine ⟨_, rfl, ?_⟩
    refine ⟨a, D, .ref (C 3), .ref (C 3), b 3, rfl, .own _, xD, hA.same (same_new n1), hk 3 (by decide), ?_⟩
    refine ⟨_, rfl, ?_⟩
    refine ⟨a, D, .ref (C 4), .ref (C 4), b 4, rfl, .own _, xD, hA.same (same_new n1), hk 4 (by decide), ?_⟩
    refine ⟨_, rfl, ?_⟩
    refine ⟨a, D, .ref (C 5), .ref (C 5), b 5, rfl, .own _, xD, hA.same (same_new n1), hk 5 (by decide), ?_⟩
    refine ⟨sz20 (by simp), fun m1 k1 => ?_⟩
    refine ⟨_, _, _, _, rfl, rfl, same_new k1 _ _ upd_same, upd_same, sz20 (by simp), fun l2 n2 => ?_⟩
    refine ⟨_, rfl, ?_⟩
    refine ⟨_, rfl, ?_⟩
    refine ⟨a, D, .ref (C 6), .ref (C 6), b 6, rfl, .own _, xD, hA.same (Same.trans (same_new n1) ((same_new k1).trans (same_new n2))), hk 6 (by decide), ?_⟩
    refine ⟨_, rfl, ?_⟩
    refine ⟨a, D, .ref (C 7), .ref (C 7), b 7, rfl, .own _, xD, hA.same (Same.trans (same_new n1) ((same_new k1).trans (same_new n2))), hk 7 (by decide), ?_⟩
    refine ⟨_, rfl, ?_⟩
    refine ⟨a, D, .ref (C 8), .ref (C 8), b 8, rfl, .own _, xD, hA.same (Same.trans (same_new n1) ((same_new k1).trans (same_new n2))), hk 8 (by decide), ?_⟩
    refine ⟨sz20 (by simp), fun m2 k2 => ?_⟩
    refine ⟨_, _, _, _, rfl, rfl, same_new k2 _ _ upd_same, upd_same, sz20 (by simp), fun l3 n3 => ?_⟩
    refine ⟨_, rfl, ?_⟩
    refine ⟨_, rfl, ?_⟩
    refine ⟨a, D, .ref (C 9), .ref (C 9), b 9, rfl, .own _, xD, hA.same (Same.trans (Same.trans (same_new n1) ((same_new k1).trans (same_new n2))) ((same_new k2).trans (same_new n3))), hk 9 (by decide), ?_⟩
    refine ⟨_, rfl, ?_⟩
    refine ⟨a, D, .ref (C 10), .ref (C 10), b 10, rfl, .own _, xD, hA.same (Same.trans (Same.trans (same_new n1) ((same_new k1).trans (same_new n2))) ((same_new k2).trans (same_new n3))), hk 10 (by decide), ?_⟩
    refine ⟨_, rfl, ?_⟩
    refine ⟨a, D, .ref (C 11), .ref (C 11), b 11, rfl, .own _, xD, hA.same (Same.trans (Same.trans (same_new n1) ((same_new k1).trans (same_new n2))) ((same_new k2).trans (same_new n3))), hk 11 (by decide), ?_⟩
    refine ⟨sz20 (by simp), fun m3 k3 => ?_⟩
    refine ⟨_, _, _, _, rfl, rfl, same_new k3 _ _ upd_same, upd_same, sz20 (by simp), fun l4 n4 => ?_⟩
    refine ⟨_, rfl, ?_⟩
    refine ⟨_, rfl, ?_⟩
    refine ⟨a, D, .ref (C 12), .ref (C 12), b 12, rfl, .own _, xD, hA.same (Same.trans (Same.trans (Same.trans (same_new n1) ((same_new k1).trans (same_new n2))) ((same_new k2).trans (same_new n3))) ((same_new k3).trans (same_new n4))), hk 12 (by decide), ?_⟩
    refine ⟨_, rfl, ?_⟩
    refine ⟨a, D, .ref (C 13), .ref (C 13), b 13, rfl, .own _, xD, hA.same (Same.trans (Same.trans (Same.trans (same_new n1) ((same_new k1).trans (same_new n2))) ((same_new k2).trans (same_new n3))) ((same_new k3).trans (same_new n4))), hk 13 (by decide), ?_⟩
    refine ⟨_, rfl, ?_⟩
    refine ⟨a, D, .ref (C 14), .ref (C 14), b 14, rfl, .own _, xD, hA.same (Same.trans (Same.trans (Same.trans (same_new n1) ((same_new k1).trans (same_new n2))) ((same_new k2).trans (same_new n3))) ((same_new k3).trans (same_new n4))), hk 14 (by decide), ?_⟩
    refine ⟨sz20 (by simp), fun m4 k4 => ?_⟩
    refine ⟨_, _, _, _, rfl, rfl, same_new k4 _ _ upd_same, upd_same, sz20 (by simp), fun l5 n5 => ?_⟩
    refine ⟨_, rfl, ?_⟩
    refine ⟨_, rfl, ?_⟩
    refine ⟨a, D, .ref (C 15), .ref (C 15), b 15, rfl, .own _, xD, hA.same (Same.trans (Same.trans (Same.trans (Same.trans (same_new n1) ((same_new k1).trans (same_new n2))) ((same_new k2).trans (same_new n3))) ((same_new k3).trans (same_new n4))) ((same_new k4).trans (same_new n5))), hk 15 (by decide), ?_⟩
    refine ⟨_, rfl, ?_⟩
    refine ⟨a, D, .ref (C 16), .ref (C 16), b 16, rfl, .own _, xD, hA.same (Same.trans (Same.trans (Same.trans (Same.trans (same_new n1) ((same_new k1).trans (same_new n2))) ((same_new k2).trans (same_new n3))) ((same_new k3).trans (same_new n4))) ((same_new k4).trans (same_new n5))), hk 16 (by decide), ?_⟩
    refine ⟨sz20 (by simp), fun m5 k5 => ?_⟩
    refine ⟨_, _, _, _, rfl, rfl, same_new k5 _ _ upd_same, upd_same, sz20 (by simp), fun l6 n6 => ?_⟩
    exact q _ _ (Same.trans (Same.trans (Same.trans (Same.trans (Same.trans (same_new n1) ((same_new k1).trans (same_new n2))) ((same_new k2).trans (same_new n3))) ((same_new k3).trans (same_new n4))) ((same_new k4).trans (same_new n5))) ((same_new k5).trans (same_new n6))) (Same.free (Same.trans (Same.trans (Same.trans (Same.trans (same_new n1) ((same_new k1).trans (same_new n2))) ((same_new k2).trans (same_new n3))) ((same_new k3).trans (same_new n4))) ((same_new k4).trans (same_new n5))) k5 |> fun _ => Same.free (Same.trans (Same.trans (Same.trans (Same.trans (Same.trans (same_new n1) ((same_new k1).trans (same_new n2))) ((same_new k2).trans (same_new n3))) ((same_new k3).trans (same_new n4))) ((same_new k4).trans (same_new n5))) (same_new k5)) n6) upd_same
theorem same_newI {H : Hp} {a d C : Addr} {f : Str} {v : V} (na : H a = none) (nd : H d = none) (ne : d ≠ a) : Same H (upd (upd H d (exd d [(f, v)])) a (exo a C (some d))) :=
  (same_new nd).trans (same_new (by rw [upd_ne (Ne.symm ne)]; exact na))
def fld (i : Nat) : Str := if i = 11 then "part" else if i = 16 then "word" else "index"
/-- the seventeen errors, with the field v -/
structure MadeAt (H : Hp) (C : Nat → Addr) (v : V) (p : Addr) (as : Nat → Addr) : Prop where
  lst : H p = some (.lst ((List.range 17).map fun i => V.ref (as i)))
  plain : ∀ i, i < 11 → H (as i) = some (ExO (.ref (C i)) (as i))
  fielded : ∀ i, 11 ≤ i → i < 17 → ∃ d, H (as i) = some (exo (as i) (C i) (some d)) ∧ H d = some (exd d [(fld i, v)])
theorem MadeAt.same {H H' : Hp} {v : V} {p : Addr} {as : Nat → Addr} (m : MadeAt H C v p as) (s : Same H H') : MadeAt H' C v p as :=
  ⟨s _ _ m.lst, fun i hi => s _ _ (m.plain i hi), fun i h1 h2 => by
    obtain ⟨d, e1, e2⟩ := m.fielded i h1 h2
    exact ⟨d, s _ _ e1, s _ _ e2⟩⟩
def spMade (C : Nat → Addr) : Sp := fun vs H Q _ => ∃ (t : Str) (v : V), vs = [.str t, v] ∧
  ∀ H' p as, Same H H' → H p = none → MadeAt H' C v p as → Q (.ref p) H'
theorem ok_made {f : Addr} {fd : FuncData} {k : Nat} (F : Fun K "_law_made" "_law_made" sMade f fd) (T : Txt P K mg C I FE) : FnOk P w K mg base CX0 (k + 1 + 1) f fd ["_law_text", "_law_spot"] (spMade C) := by
  refine F.ok scMade (fun vs H Q E h => ?_) (fun cdv A outer s H vs Q E hr h => ?_)
  · obtain ⟨t, v, rfl, _⟩ := h
    rfl
  · obtain ⟨t, v, rfl, q'⟩ := h
    have q : ∀ (H' : Hp) (p : Addr) (as : Nat → Addr), Same H H' → H p = none → H' p = some (.lst ((List.range 17).map fun i => V.ref (as i))) → (∀ i, i < 11 → H' (as i) = some (ExO (.ref (C i)) (as i))) → (∀ i, 11 ≤ i → i < 17 → ∃ d, H' (as i) = some (exo (as i) (C i) (some d)) ∧ H' d = some (exd d [(fld i, v)])) → Q (.ref p) H' :=
      fun H' p as h1 h2 h3 h4 h5 => q' H' p as h1 h2 ⟨h3, h4, h5⟩
    refine ⟨_, pss_cons (ps_set (i := 2) scMade.nd rfl (.inl rfl) (pe_lst (pa_cons (pe_exc1 PySem.F.excBase_ValueError (T.plain 0 (by decide)) T.g0 (T.keep 0 (by decide)) (by rfl) (pv 0)) (pa_cons (pe_exc1 PySem.F.excBase_ValueError (T.plain 1 (by decide)) T.g1 (T.keep 1 (by decide)) (by rfl) (pv 0)) (pa_cons (pe_exc1 PySem.F.excBase_ValueError (T.plain 2 (by decide)) T.g2 (T.keep 2 (by decide)) (by rfl) (pv 0)) (pa_cons (pe_exc1 PySem.F.excBase_ValueError (T.plain 3 (by decide)) T.g3 (T.keep 3 (by decide)) (by rfl) (pv 0)) (pa_cons (pe_exc1 PySem.F.excBase_ValueError (T.plain 4 (by decide)) T.g4 (T.keep 4 (by decide)) (by rfl) (pv 0)) pa_nil)))))))
      (pss_cons (ps_set (i := 2) scMade.nd rfl (.inl rfl) (pe_op op_cat (pv 2) (pe_lst (pa_cons (pe_exc1 PySem.F.excBase_ValueError (T.plain 5 (by decide)) T.g5 (T.keep 5 (by decide)) (by rfl) (pv 0)) (pa_cons (pe_exc1 PySem.F.excBase_ValueError (T.plain 6 (by decide)) T.g6 (T.keep 6 (by decide)) (by rfl) (pv 0)) (pa_cons (pe_exc1 PySem.F.excBase_ValueError (T.plain 7 (by decide)) T.g7 (T.keep 7 (by decide)) (by rfl) (pv 0)) (pa_cons (pe_exc1 PySem.F.excBase_ValueError (T.plain 8 (by decide)) T.g8 (T.keep 8 (by decide)) (by rfl) (pv 0)) pa_nil)))))))
      (pss_cons (ps_set (i := 2) scMade.nd rfl (.inl rfl) (pe_op op_cat (pv 2) (pe_lst (pa_cons (pe_exc1 PySem.F.excBase_ValueError (T.plain 9 (by decide)) T.g9 (T.keep 9 (by decide)) (by rfl) (pv 0)) (pa_cons (pe_exc1 PySem.F.excBase_ValueError (T.plain 10 (by decide)) T.g10 (T.keep 10 (by decide)) (by rfl) (pv 0)) (pa_cons (pe_mkI T.it11 hr T.g11 (by rfl) (pv 1)) (pa_cons (pe_mkI T.it12 hr T.g12 (by rfl) (pv 1)) pa_nil)))))))
      (pss_one (ps_ret (pe_op op_cat (pv 2) (pe_lst (pa_cons (pe_mkI T.it13 hr T.g13 (by rfl) (pv 1)) (pa_cons (pe_mkI T.it14 hr T.g14 (by rfl) (pv 1)) (pa_cons (pe_mkI T.it15 hr T.g15 (by rfl) (pv 1)) (pa_cons (pe_mkI T.it16 hr T.g16 (by rfl) (pv 1)) pa_nil)))))))))), ?_⟩
    refine ⟨_, rfl, fun a0 n0 => ?_⟩
    refine ⟨_, rfl, fun a1 n1 => ?_⟩
    refine ⟨_, rfl, fun a2 n2 => ?_⟩
    refine ⟨_, rfl, fun a3 n3 => ?_⟩
    refine ⟨_, rfl, fun a4 n4 => ?_⟩
    refine ⟨sz20 (by simp), fun l1 k1 => ?_⟩
    refine ⟨_, rfl, ?_⟩
    refine ⟨_, rfl, fun a5 n5 => ?_⟩
    refine ⟨_, rfl, fun a6 n6 => ?_⟩
    refine ⟨_, rfl, fun a7 n7 => ?_⟩
    refine ⟨_, rfl, fun a8 n8 => ?_⟩
    refine ⟨sz20 (by simp), fun m1 q1 => ?_⟩
    refine ⟨_, _, _, _, rfl, rfl, (Same.trans (same_new n5) (Same.trans (same_new n6) (Same.trans (same_new n7) (Same.trans (same_new n8) (same_new q1))))) _ _ upd_same, upd_same, sz20 (by simp), fun l2 k2 => ?_⟩
    refine ⟨_, rfl, ?_⟩
    refine ⟨_, rfl, fun a9 n9 => ?_⟩
    refine ⟨_, rfl, fun a10 n10 => ?_⟩
    refine ⟨_, rfl, fun a11 d11 n11 o11 x11 => ?_⟩
    refine ⟨_, rfl, fun a12 d12 n12 o12 x12 => ?_⟩
    refine ⟨sz20 (by simp), fun m2 q2 => ?_⟩
    refine ⟨_, _, _, _, rfl, rfl, (Same.trans (same_new n9) (Same.trans (same_new n10) (Same.trans (same_newI n11 o11 x11) (Same.trans (same_newI n12 o12 x12) (same_new q2))))) _ _ upd_same, upd_same, sz20 (by simp), fun l3 k3 => ?_⟩
    refine ⟨_, rfl, ?_⟩
    refine ⟨_, rfl, fun a13 d13 n13 o13 x13 => ?_⟩
    refine ⟨_, rfl, fun a14 d14 n14 o14 x14 => ?_⟩
    refine ⟨_, rfl, fun a15 d15 n15 o15 x15 => ?_⟩
    refine ⟨_, rfl, fun a16 d16 n16 o16 x16 => ?_⟩
    refine ⟨sz20 (by simp), fun m3 q3 => ?_⟩
    refine ⟨_, _, _, _, rfl, rfl, (Same.trans (same_newI n13 o13 x13) (Same.trans (same_newI n14 o14 x14) (Same.trans (same_newI n15 o15 x15) (Same.trans (same_newI n16 o16 x16) (same_new q3))))) _ _ upd_same, upd_same, sz20 (by simp), fun l4 k4 => ?_⟩
    refine q _ l4 (fun i => [a0, a1, a2, a3, a4, a5, a6, a7, a8, a9, a10, a11, a12, a13, a14, a15, a16].getD i 0) (Same.trans (same_new n0) (Same.trans (same_new n1) (Same.trans (same_new n2) (Same.trans (same_new n3) (Same.trans (same_new n4) (Same.trans (same_new k1) (Same.trans (same_new n5) (Same.trans (same_new n6) (Same.trans (same_new n7) (Same.trans (same_new n8) (Same.trans (same_new q1) (Same.trans (same_new k2) (Same.trans (same_new n9) (Same.trans (same_new n10) (Same.trans (same_newI n11 o11 x11) (Same.trans (same_newI n12 o12 x12) (Same.trans (same_new q2) (Same.trans (same_new k3) (Same.trans (same_newI n13 o13 x13) (Same.trans (same_newI n14 o14 x14) (Same.trans (same_newI n15 o15 x15) (Same.trans (same_newI n16 o16 x16) (Same.trans (same_new q3) (same_new k4)))))))))))))))))))))))) (Same.free (Same.trans (same_new n0) (Same.trans (same_new n1) (Same.trans (same_new n2) (Same.trans (same_new n3) (Same.trans (same_new n4) (Same.trans (same_new k1) (Same.trans (same_new n5) (Same.trans (same_new n6) (Same.trans (same_new n7) (Same.trans (same_new n8) (Same.trans (same_new q1) (Same.trans (same_new k2) (Same.trans (same_new n9) (Same.trans (same_new n10) (Same.trans (same_newI n11 o11 x11) (Same.trans (same_newI n12 o12 x12) (Same.trans (same_new q2) (Same.trans (same_new k3) (Same.trans (same_newI n13 o13 x13) (Same.trans (same_newI n14 o14 x14) (Same.trans (same_newI n15 o15 x15) (Same.trans (same_newI n16 o16 x16) (same_new q3))))))))))))))))))))))) k4) upd_same (fun i hi => ?_) (fun i h1 h2 => ?_)
    · rcases (show i = 0 ∨ i = 1 ∨ i = 2 ∨ i = 3 ∨ i = 4 ∨ i = 5 ∨ i = 6 ∨ i = 7 ∨ i = 8 ∨ i = 9 ∨ i = 10 by omega) with rfl|rfl|rfl|rfl|rfl|rfl|rfl|rfl|rfl|rfl|rfl
      · exact (Same.trans (same_new n1) (Same.trans (same_new n2) (Same.trans (same_new n3) (Same.trans (same_new n4) (Same.trans (same_new k1) (Same.trans (same_new n5) (Same.trans (same_new n6) (Same.trans (same_new n7) (Same.trans (same_new n8) (Same.trans (same_new q1) (Same.trans (same_new k2) (Same.trans (same_new n9) (Same.trans (same_new n10) (Same.trans (same_newI n11 o11 x11) (Same.trans (same_newI n12 o12 x12) (Same.trans (same_new q2) (Same.trans (same_new k3) (Same.trans (same_newI n13 o13 x13) (Same.trans (same_newI n14 o14 x14) (Same.trans (same_newI n15 o15 x15) (Same.trans (same_newI n16 o16 x16) (Same.trans (same_new q3) (same_new k4))))))))))))))))))))))) _ _ upd_same
      · exact (Same.trans (same_new n2) (Same.trans (same_new n3) (Same.trans (same_new n4) (Same.trans (same_new k1) (Same.trans (same_new n5) (Same.trans (same_new n6) (Same.trans (same_new n7) (Same.trans (same_new n8) (Same.trans (same_new q1) (Same.trans (same_new k2) (Same.trans (same_new n9) (Same.trans (same_new n10) (Same.trans (same_newI n11 o11 x11) (Same.trans (same_newI n12 o12 x12) (Same.trans (same_new q2) (Same.trans (same_new k3) (Same.trans (same_newI n13 o13 x13) (Same.trans (same_newI n14 o14 x14) (Same.trans (same_newI n15 o15 x15) (Same.trans (same_newI n16 o16 x16) (Same.trans (same_new q3) (same_new k4)))))))))))))))))))))) _ _ upd_same
      · exact (Same.trans (same_new n3) (Same.trans (same_new n4) (Same.trans (same_new k1) (Same.trans (same_new n5) (Same.trans (same_new n6) (Same.trans (same_new n7) (Same.trans (same_new n8) (Same.trans (same_new q1) (Same.trans (same_new k2) (Same.trans (same_new n9) (Same.trans (same_new n10) (Same.trans (same_newI n11 o11 x11) (Same.trans (same_newI n12 o12 x12) (Same.trans (same_new q2) (Same.trans (same_new k3) (Same.trans (same_newI n13 o13 x13) (Same.trans (same_newI n14 o14 x14) (Same.trans (same_newI n15 o15 x15) (Same.trans (same_newI n16 o16 x16) (Same.trans (same_new q3) (same_new k4))))))))))))))))))))) _ _ upd_same
      · exact (Same.trans (same_new n4) (Same.trans (same_new k1) (Same.trans (same_new n5) (Same.trans (same_new n6) (Same.trans (same_new n7) (Same.trans (same_new n8) (Same.trans (same_new q1) (Same.trans (same_new k2) (Same.trans (same_new n9) (Same.trans (same_new n10) (Same.trans (same_newI n11 o11 x11) (Same.trans (same_newI n12 o12 x12) (Same.trans (same_new q2) (Same.trans (same_new k3) (Same.trans (same_newI n13 o13 x13) (Same.trans (same_newI n14 o14 x14) (Same.trans (same_newI n15 o15 x15) (Same.trans (same_newI n16 o16 x16) (Same.trans (same_new q3) (same_new k4)))))))))))))))))))) _ _ upd_same
      · exact (Same.trans (same_new k1) (Same.trans (same_new n5) (Same.trans (same_new n6) (Same.trans (same_new n7) (Same.trans (same_new n8) (Same.trans (same_new q1) (Same.trans (same_new k2) (Same.trans (same_new n9) (Same.trans (same_new n10) (Same.trans (same_newI n11 o11 x11) (Same.trans (same_newI n12 o12 x12) (Same.trans (same_new q2) (Same.trans (same_new k3) (Same.trans (same_newI n13 o13 x13) (Same.trans (same_newI n14 o14 x14) (Same.trans (same_newI n15 o15 x15) (Same.trans (same_newI n16 o16 x16) (Same.trans (same_new q3) (same_new k4))))))))))))))))))) _ _ upd_same
      · exact (Same.trans (same_new n6) (Same.trans (same_new n7) (Same.trans (same_new n8) (Same.trans (same_new q1) (Same.trans (same_new k2) (Same.trans (same_new n9) (Same.trans (same_new n10) (Same.trans (same_newI n11 o11 x11) (Same.trans (same_newI n12 o12 x12) (Same.trans (same_new q2) (Same.trans (same_new k3) (Same.trans (same_newI n13 o13 x13) (Same.trans (same_newI n14 o14 x14) (Same.trans (same_newI n15 o15 x15) (Same.trans (same_newI n16 o16 x16) (Same.trans (same_new q3) (same_new k4))))))))))))))))) _ _ upd_same
      · exact (Same.trans (same_new n7) (Same.trans (same_new n8) (Same.trans (same_new q1) (Same.trans (same_new k2) (Same.trans (same_new n9) (Same.trans (same_new n10) (Same.trans (same_newI n11 o11 x11) (Same.trans (same_newI n12 o12 x12) (Same.trans (same_new q2) (Same.trans (same_new k3) (Same.trans (same_newI n13 o13 x13) (Same.trans (same_newI n14 o14 x14) (Same.trans (same_newI n15 o15 x15) (Same.trans (same_newI n16 o16 x16) (Same.trans (same_new q3) (same_new k4)))))))))))))))) _ _ upd_same
      · exact (Same.trans (same_new n8) (Same.trans (same_new q1) (Same.trans (same_new k2) (Same.trans (same_new n9) (Same.trans (same_new n10) (Same.trans (same_newI n11 o11 x11) (Same.trans (same_newI n12 o12 x12) (Same.trans (same_new q2) (Same.trans (same_new k3) (Same.trans (same_newI n13 o13 x13) (Same.trans (same_newI n14 o14 x14) (Same.trans (same_newI n15 o15 x15) (Same.trans (same_newI n16 o16 x16) (Same.trans (same_new q3) (same_new k4))))))))))))))) _ _ upd_same
      · exact (Same.trans (same_new q1) (Same.trans (same_new k2) (Same.trans (same_new n9) (Same.trans (same_new n10) (Same.trans (same_newI n11 o11 x11) (Same.trans (same_newI n12 o12 x12) (Same.trans (same_new q2) (Same.trans (same_new k3) (Same.trans (same_newI n13 o13 x13) (Same.trans (same_newI n14 o14 x14) (Same.trans (same_newI n15 o15 x15) (Same.trans (same_newI n16 o16 x16) (Same.trans (same_new q3) (same_new k4)))))))))))))) _ _ upd_same
      · exact (Same.trans (same_new n10) (Same.trans (same_newI n11 o11 x11) (Same.trans (same_newI n12 o12 x12) (Same.trans (same_new q2) (Same.trans (same_new k3) (Same.trans (same_newI n13 o13 x13) (Same.trans (same_newI n14 o14 x14) (Same.trans (same_newI n15 o15 x15) (Same.trans (same_newI n16 o16 x16) (Same.trans (same_new q3) (same_new k4))))))))))) _ _ upd_same
      · exact (Same.trans (same_newI n11 o11 x11) (Same.trans (same_newI n12 o12 x12) (Same.trans (same_new q2) (Same.trans (same_new k3) (Same.trans (same_newI n13 o13 x13) (Same.trans (same_newI n14 o14 x14) (Same.trans (same_newI n15 o15 x15) (Same.trans (same_newI n16 o16 x16) (Same.trans (same_new q3) (same_new k4)))))))))) _ _ upd_same
    · rcases (show i = 11 ∨ i = 12 ∨ i = 13 ∨ i = 14 ∨ i = 15 ∨ i = 16 by omega) with rfl|rfl|rfl|rfl|rfl|rfl
      · exact ⟨d11, (Same.trans (same_newI n12 o12 x12) (Same.trans (same_new q2) (Same.trans (same_new k3) (Same.trans (same_newI n13 o13 x13) (Same.trans (same_newI n14 o14 x14) (Same.trans (same_newI n15 o15 x15) (Same.trans (same_newI n16 o16 x16) (Same.trans (same_new q3) (same_new k4))))))))) _ _ upd_same, (Same.trans (same_newI n12 o12 x12) (Same.trans (same_new q2) (Same.trans (same_new k3) (Same.trans (same_newI n13 o13 x13) (Same.trans (same_newI n14 o14 x14) (Same.trans (same_newI n15 o15 x15) (Same.trans (same_newI n16 o16 x16) (Same.trans (same_new q3) (same_new k4))))))))) _ _ ((upd_ne x11).trans upd_same)⟩
      · exact ⟨d12, (Same.trans (same_new q2) (Same.trans (same_new k3) (Same.trans (same_newI n13 o13 x13) (Same.trans (same_newI n14 o14 x14) (Same.trans (same_newI n15 o15 x15) (Same.trans (same_newI n16 o16 x16) (Same.trans (same_new q3) (same_new k4)))))))) _ _ upd_same, (Same.trans (same_new q2) (Same.trans (same_new k3) (Same.trans (same_newI n13 o13 x13) (Same.trans (same_newI n14 o14 x14) (Same.trans (same_newI n15 o15 x15) (Same.trans (same_newI n16 o16 x16) (Same.trans (same_new q3) (same_new k4)))))))) _ _ ((upd_ne x12).trans upd_same)⟩
      · exact ⟨d13, (Same.trans (same_newI n14 o14 x14) (Same.trans (same_newI n15 o15 x15) (Same.trans (same_newI n16 o16 x16) (Same.trans (same_new q3) (same_new k4))))) _ _ upd_same, (Same.trans (same_newI n14 o14 x14) (Same.trans (same_newI n15 o15 x15) (Same.trans (same_newI n16 o16 x16) (Same.trans (same_new q3) (same_new k4))))) _ _ ((upd_ne x13).trans upd_same)⟩
      · exact ⟨d14, (Same.trans (same_newI n15 o15 x15) (Same.trans (same_newI n16 o16 x16) (Same.trans (same_new q3) (same_new k4)))) _ _ upd_same, (Same.trans (same_newI n15 o15 x15) (Same.trans (same_newI n16 o16 x16) (Same.trans (same_new q3) (same_new k4)))) _ _ ((upd_ne x14).trans upd_same)⟩
      · exact ⟨d15, (Same.trans (same_newI n16 o16 x16) (Same.trans (same_new q3) (same_new k4))) _ _ upd_same, (Same.trans (same_newI n16 o16 x16) (Same.trans (same_new q3) (same_new k4))) _ _ ((upd_ne x15).trans upd_same)⟩
      · exact ⟨d16, (Same.trans (same_new q3) (same_new k4)) _ _ upd_same, (Same.trans (same_new q3) (same_new k4)) _ _ ((upd_ne x16).trans upd_same)⟩
end
end K0

set_option maxRecDepth 100000
set_option maxHeartbeats 1000000
set_option exponentiation.threshold 20000
namespace K0
open PySem PySem.Spec PyProof.Rows L2
abbrev nF : List Str := ["_law_made_here", "_law_spot", "_law_told", "_law_one"]
theorem scFields : FnScope nF ["_law_made_here", "_law_spot"] (defScope sFields) := ⟨rfl, rfl, rfl, by decide +kernel, rfl, by decide +kernel, by decide +kernel⟩
/-- a value that may stand in a field -/
structure Spot (v : V) (d : PyData) : Prop where
  dp : ∀ (K : PySem.W.Frag) (H : Hp), Dp K H v d
  sh : d.showable = true
  nd : d.hasDict = false
  dep : d.depth ≤ 1
  len : d.shown.length ≤ 1000
section
variable {P : Program} {w : World} {K : PySem.W.Frag} {mg : Str → Option Value} {base : Heap} {C I : Nat → Addr} {FE : Addr}
def spFields (C : Nat → Addr) : Sp := fun vs H Q _ => ∃ (p : Addr) (v : V) (d : PyData) (as : Nat → Addr), vs = [.ref p, v] ∧ Spot v d ∧ MadeAt H C v p as ∧ ∀ H', Same H H' → Q (.bl true) H'
theorem yesT {σ : L2.St} {H : Hp} {R N : Hp → Prop} (h : R H) : tYes σ H fun b H3 => if b = true then R H3 else N H3 := by
  show if true = true then R H else N H
  rw [if_pos rfl]
  exact h
theorem rep12 {v : V} {d : PyData} (s : Spot v d) (K : PySem.W.Frag) (H : Hp) : DpAll K H [v, v, v, v, v, v, v, v, v, v, v, v] [d, d, d, d, d, d, d, d, d, d, d, d] := by
  have h := s.dp K H
  exact .cons h (.cons h (.cons h (.cons h (.cons h (.cons h (.cons h (.cons h (.cons h (.cons h (.cons h (.cons h .nil)))))))))))
theorem show12 {v : V} {d : PyData} (s : Spot v d) : (PyData.list [d, d, d, d, d, d, d, d, d, d, d, d]).showable = true ∧ (PyData.list [d, d, d, d, d, d, d, d, d, d, d, d]).hasDict = false ∧ (PyData.list [d, d, d, d, d, d, d, d, d, d, d, d]).shown.length ≤ sizeLine ∧ (PyData.list [d, d, d, d, d, d, d, d, d, d, d, d]).depth ≤ 20 := by
  refine ⟨?_, ?_, ?_, ?_⟩
  · simp [PyData.showable, PyData.showableAll, s.sh]
  · simp [PyData.hasDict, PyData.hasDictAll, s.nd]
  · have h := listText_len_le (PyData.shownAll [d, d, d, d, d, d, d, d, d, d, d, d])
    have l := s.len
    simp only [PyData.shown, PyData.shownAll, List.map_cons, List.map_nil, List.sum_cons, List.sum_nil, List.length_cons, List.length_nil] at h ⊢
    have z : (sizeLine : Nat) = 16777216 := sizeLine_eq
    omega
  · have l := s.dep
    simp only [PyData.depth, PyData.depthAll]
    omega
theorem ok_fields {f : Addr} {fd : FuncData} {k : Nat} (F : Fun K "_law_fields_right" "_law_fields_right" sFields f fd) (T : Txt P K mg C I FE) : FnG P w K mg base CX0 (k + 1 + 1) f fd ["_law_made_here", "_law_spot"] (spFields C) := by
  refine F.okG scFields (fun vs H Q E h => ?_) (fun cdv A outer s H vs Q E hgd hr h => ?_)
  · obtain ⟨p, v, d, as, rfl, _⟩ := h
    rfl
  · obtain ⟨p, v, d, as, rfl, sp, M, q⟩ := h
    refine ⟨_, pss_cons (ps_set (i := 2) scFields.nd rfl (.inl rfl) (pe_op op_cat (pe_op op_cat (pe_lst (pa_cons (pe_getI (pe_ix ix_list (pv 0) pe_int (fun _ _ => rfl))) pa_nil))
          (pe_lc (own := [("_law_one", 3)]) (g := gName 3) (tt := tYes) rfl scFields.nd (pi_list (pe_slice sl_list (pv 0) (po_some pe_int) (po_some pe_int))) (blkOk_by (N := nF) (sc := defScope sFields) (by decide +kernel)) (fun _ _ _ _ _ => pg_name (i := 3) scFields.nd rfl (Or.inl rfl)) (fun _ _ _ _ _ => pts_nil) (fun _ _ _ _ _ => pe_getIK (K := K) (pv 3))))
          (pe_lst (pa_cons (pe_getI (pe_ix ix_list (pv 0) pe_int (fun _ _ => rfl))) (pa_cons (pe_getI (pe_mkIk T.it11 hr T.g11 (by rfl) (pv 1))) pa_nil)))))
      (pss_cons (ps_set (i := 2) scFields.nd rfl (.inl rfl) (pe_op op_cat (pv 2) (pe_lst (pa_cons (pe_getI (pe_mkIk T.it12 hr T.g12 (by rfl) (pv 1))) (pa_cons (pe_getI (pe_mkIk T.it13 hr T.g13 (by rfl) (pv 1))) (pa_cons (pe_getI (pe_mkIk T.it14 hr T.g14 (by rfl) (pv 1))) pa_nil))))))
      (pss_cons (ps_set (i := 2) scFields.nd rfl (.inl rfl) (pe_op op_cat (pv 2) (pe_lst (pa_cons (pe_getI (pe_mkIk T.it15 hr T.g15 (by rfl) (pv 1))) (pa_cons (pe_getI (pe_mkIk T.it16 hr T.g16 (by rfl) (pv 1))) pa_nil)))))
      (pss_one (ps_ret (pe_cmpR op_eq (pe_callB (call_reprD hgd hr) (by rfl) T.mrepr (by decide +kernel) (pa_cons (pv 2) pa_nil)) (pe_callB (call_reprD hgd hr) (by rfl) T.mrepr (by decide +kernel) (pa_cons (pe_op op_rep (pe_lst (pa_cons (pv 1) pa_nil)) pe_int) pa_nil)) (nomark _)))))), ?_⟩
    obtain ⟨b11, f11, e11⟩ := M.fielded 11 (by decide) (by decide)
    obtain ⟨b16, f16, e16⟩ := M.fielded 16 (by decide) (by decide)
    refine ⟨.ref p, rfl, p, _, 11, .ref (as 11), rfl, rfl, SqL.of M.lst, atI_nat (j := 11) rfl, ?_⟩
    refine ⟨as 11, C 11, b11, v, rfl, T.get11, f11, e11, sz20 (by simp), fun l1 n1 => ?_⟩
    have s1 : Same H (upd H l1 (.lst [v])) := same_new n1
    have M1 := M.same s1
    refine ⟨.ref p, rfl, 12, rfl, 16, rfl, p, _, rfl, SqL.of M1.lst, fun c nc => ?_⟩
    have ec : cutV ((List.range 17).map fun i => V.ref (as i)) (some 12) (some 16) = [.ref (as 12), .ref (as 13), .ref (as 14), .ref (as 15)] := by rfl
    rw [ec]
    have s2 : Same (upd H l1 (.lst [v])) (upd (upd H l1 (.lst [v])) c (.lst [.ref (as 12), .ref (as 13), .ref (as 14), .ref (as 15)])) := same_new nc
    have M2 := M1.same s2
    refine ⟨c, rfl, ⟨_, SqL.of upd_same⟩, fun D nD => ?_⟩
    refine lc_list (K := K) (a := c) (xs := [.ref (as 12), .ref (as 13), .ref (as 14), .ref (as 15)]) (fun i H' => Same (upd (upd H l1 (.lst [v])) c (.lst [.ref (as 12), .ref (as 13), .ref (as 14), .ref (as 15)])) H' ∧ H' D = some (.lst (List.replicate i v))) ⟨same_new nD, upd_same⟩ (fun i H' _ z => SqL.of (z.1 _ _ upd_same)) (fun i x H' hx z => ?_) fun H3 z => ?_
    · obtain ⟨sz, hD⟩ := z
      have hi : i < 4 := (List.getElem?_eq_some_iff.mp hx).1
      have ex : x = .ref (as (12 + i)) := by
        rcases (show i = 0 ∨ i = 1 ∨ i = 2 ∨ i = 3 by omega) with rfl | rfl | rfl | rfl <;> exact (Option.some.inj hx).symm
      subst ex
      obtain ⟨b, g1, g2⟩ := M2.fielded (12 + i) (by omega) (by omega)
      have ef : fld (12 + i) = "index" := by
        unfold fld
        rw [if_neg (by omega), if_neg (by omega)]
      rw [ef] at g2
      refine ⟨rfl, yesT ?_⟩
      refine ⟨_, rfl, as (12 + i), C (12 + i), b, v, rfl, T.get12 _ (by omega) (by omega), sz _ _ g1, sz _ _ g2, _, hD, Nat.lt_of_le_of_lt (by rw [List.length_replicate]; exact Nat.le_of_lt hi) (by decide : 4 < sizeLine), ?_, ?_⟩
      · intro b' o' e'
        by_cases eb : b' = D
        · subst eb
          rw [nD] at e'
          cases e'
        · rw [upd_ne eb]
          exact sz _ _ e'
      · rw [upd_same, List.replicate_succ']
    obtain ⟨s3, hD⟩ := z
    have M3 := (M1.same s2).same s3
    refine ⟨l1, D, _, _, rfl, rfl, s3 _ _ (s2 _ _ upd_same), hD, sz20 (by simp), fun l2 n2 => ?_⟩
    refine ⟨.ref p, rfl, p, _, 16, .ref (as 16), rfl, rfl, SqL.of ((same_new n2) _ _ M3.lst), atI_nat (j := 16) rfl, ?_⟩
    obtain ⟨c16, g16, h16⟩ := M3.fielded 16 (by decide) (by decide)
    refine ⟨as 16, C 16, c16, v, rfl, T.get16, (same_new n2) _ _ g16, (same_new n2) _ _ h16, ?_⟩
    refine ⟨_, rfl, fun a11 d11 x11 y11 z11 => ?_⟩
    refine ⟨a11, C 11, d11, v, rfl, T.get11, upd_same, (upd_ne z11).trans upd_same, ?_⟩
    refine ⟨sz20 (by simp), fun l3 n3 => ?_⟩
    refine ⟨_, _, _, _, rfl, rfl, (Same.trans (same_newI x11 y11 z11) (same_new n3)) _ _ upd_same, upd_same, sz20 (by simp), fun l4 n4 => ?_⟩
    refine ⟨_, rfl, ?_⟩
    refine ⟨_, rfl, fun a12 d12 x12 y12 z12 => ?_⟩
    refine ⟨a12, C 12, d12, v, rfl, T.get12 12 (by decide) (by decide), upd_same, (upd_ne z12).trans upd_same, ?_⟩
    refine ⟨_, rfl, fun a13 d13 x13 y13 z13 => ?_⟩
    refine ⟨a13, C 13, d13, v, rfl, T.get12 13 (by decide) (by decide), upd_same, (upd_ne z13).trans upd_same, ?_⟩
    refine ⟨_, rfl, fun a14 d14 x14 y14 z14 => ?_⟩
    refine ⟨a14, C 14, d14, v, rfl, T.get12 14 (by decide) (by decide), upd_same, (upd_ne z14).trans upd_same, ?_⟩
    refine ⟨sz20 (by simp), fun l5 n5 => ?_⟩
    refine ⟨_, _, _, _, rfl, rfl, (Same.trans (same_newI x12 y12 z12) (Same.trans (same_newI x13 y13 z13) (Same.trans (same_newI x14 y14 z14) (same_new n5)))) _ _ upd_same, upd_same, sz20 (by simp), fun l6 n6 => ?_⟩
    refine ⟨_, rfl, ?_⟩
    refine ⟨_, rfl, fun a15 d15 x15 y15 z15 => ?_⟩
    refine ⟨a15, C 15, d15, v, rfl, T.get12 15 (by decide) (by decide), upd_same, (upd_ne z15).trans upd_same, ?_⟩
    refine ⟨_, rfl, fun a16 d16 x16 y16 z16 => ?_⟩
    refine ⟨a16, C 16, d16, v, rfl, T.get16, upd_same, (upd_ne z16).trans upd_same, ?_⟩
    refine ⟨sz20 (by simp), fun l7 n7 => ?_⟩
    refine ⟨_, _, _, _, rfl, rfl, (Same.trans (same_newI x15 y15 z15) (Same.trans (same_newI x16 y16 z16) (same_new n7))) _ _ upd_same, upd_same, sz20 (by simp), fun l8 n8 => ?_⟩
    obtain ⟨w1, w2, w3, w4⟩ := show12 sp
    refine ⟨_, rfl, l8, _, rfl, .lst (SqL.of upd_same) (rep12 sp _ _), w1, w2, w3, w4, ?_⟩
    refine ⟨_, rfl, sz20 (by simp), fun l9 n9 => ?_⟩
    refine ⟨_, _, _, rfl, rfl, upd_same, by decide, by decide, sz20 (by simp), fun l10 n10 => ?_⟩
    refine ⟨l10, _, rfl, .lst (SqL.of upd_same) (rep12 sp _ _), w1, w2, w3, w4, rfl, ?_⟩
    rw [decide_eq_true rfl]
    exact q _ (s1.trans (s2.trans (s3.trans (Same.trans (same_new n2) (Same.trans (same_newI x11 y11 z11) (Same.trans (same_new n3) (Same.trans (same_new n4) (Same.trans (same_newI x12 y12 z12) (Same.trans (same_newI x13 y13 z13) (Same.trans (same_newI x14 y14 z14) (Same.trans (same_new n5) (Same.trans (same_new n6) (Same.trans (same_newI x15 y15 z15) (Same.trans (same_newI x16 y16 z16) (Same.trans (same_new n7) (Same.trans (same_new n8) (Same.trans (same_new n9) (same_new n10))))))))))))))))))
end
end K0

set_option maxRecDepth 100000
set_option maxHeartbeats 1000000
set_option exponentiation.threshold 20000
namespace K0
open PySem PySem.Spec PyProof.Rows L2
abbrev sLaw : Stmt := topS 25
abbrev nL : List Str := ["_law_script", "_law_stock_here", "_law_turn", "_law_text", "_law_spot", "_law_made_here", "_law_others", "_law_rank", "_law_one", "_law_lap", "_law_other"]
theorem scLaw : FnScope nL ["_law_script"] (defScope sLaw) := ⟨rfl, rfl, rfl, by decide +kernel, rfl, by decide +kernel, by decide +kernel⟩
theorem join_le : ∀ ys : List Str, (Str.join "" ys).length ≤ (ys.map (·.length)).sum
  | [] => by decide
  | [x] => by simp [Str.join]
  | x :: y :: r => by
    have ih := join_le (y :: r)
    show (x ++ ("" : Str) ++ Str.join "" (y :: r)).length ≤ _
    rw [strLen_append, strLen_append]
    simp only [List.map_cons, List.sum_cons] at ih ⊢
    have e : (("" : Str)).length = 0 := rfl
    omega
/-- all but what stands at p is as it was -/
def SameX (p : Addr) (H H' : Hp) : Prop := ∀ b o, b ≠ p → H b = some o → H' b = some o
theorem Same.x {p : Addr} {H H' : Hp} (s : Same H H') : SameX p H H' := fun b o _ e => s b o e
theorem SameX.trans {p : Addr} {H H1 H2 : Hp} (a : SameX p H H1) (b : SameX p H1 H2) : SameX p H H2 := fun c o n e => b c o n (a c o n e)
theorem SameX.put {p : Addr} {H : Hp} {o : HO} : SameX p H (upd H p o) := fun b o' n e => by
  rw [upd_ne n]
  exact e
theorem hu_of64 {A : Around} {k : Nat} (hr : Room k A) : A.units + 64 < cLine := by
  have := hr.un
  omega
theorem spot_non : Spot .non .none := ⟨fun _ _ => .non, rfl, rfl, by decide, by decide⟩
theorem spot_int {i : Int} (h0 : 0 ≤ i) (h1 : i < 10 ^ 30) : Spot (.int i) (.int i) := by
  have e : i.natAbs < 10 ^ 30 := by omega
  have lg : i.natAbs.log2 < 1920 := Nat.lt_of_lt_of_le (PySem.Flt.log2_lt_of (by decide) (Nat.lt_trans e (by decide : 10 ^ 30 < 2 ^ 100))) (by decide)
  refine ⟨fun _ _ => .int i, by simp [PyData.showable, lg], rfl, by simp [PyData.depth], ?_⟩
  show (Str.ofString (toString i)).length ≤ 1000
  rw [PySem.ofString_length]
  exact Nat.le_trans (PySem.int_text_length_le10 (k := 30) (by decide) e) (by decide)
theorem spot_corners : Spot (.str "corners") (.str "corners") := ⟨fun _ _ => .str _, rfl, rfl, by decide, by decide +kernel⟩
theorem dp_bools {K : PySem.W.Frag} {H : Hp} : ∀ bs : List Bool, DpAll K H (bs.map V.bl) (bs.map PyData.bool)
  | [] => .nil
  | b :: r => .cons (.bl b) (dp_bools r)
theorem shaped_bools (bs : List Bool) : SeqAt.shaped (.list (bs.map PyData.bool)) = true := by
  have h : ∀ l : List Bool, PyData.canLayAll0 (l.map PyData.bool) = true ∧ PyData.depthAll (l.map PyData.bool) ≤ 1 := by
    intro l
    induction l with
    | nil => exact ⟨rfl, by decide⟩
    | cons b r ih => exact ⟨by simp [PyData.canLayAll0, PyData.canLay0, ih.1], by simp only [List.map_cons, PyData.depthAll, PyData.depth]; omega⟩
  unfold SeqAt.shaped
  simp only [PyData.canLay0, PyData.depth, (h bs).1, Bool.true_and]
  exact decide_eq_true (by have := (h bs).2; omega)
theorem eq_bools (bs : List Bool) : PyData.eqv (.list (bs.map PyData.bool)) (.list (bs.map PyData.bool)) = true := SeqAt.eqv_refl _ (SeqAt.canLay_of_shaped (shaped_bools bs))
section
variable {P : Program} {w : World} {K : PySem.W.Frag} {mg : Str → Option Value} {base : Heap} {C I : Nat → Addr} {FE : Addr}
def spLaw (K : PySem.W.Frag) : Sp := fun vs H Q _ => ∃ (a : Addr) (ns : List Int), vs = [.ref a] ∧ SqL K H a (ns.map V.int) ∧ ns.length ≤ 63 ∧ ∀ H', Q (.bl true) H'
theorem ok_law {f fS fD fK fM fF : Addr} {fd fdS fdD fdK fdM fdF : FuncData} (F : Fun K "law" "law" sLaw f fd) (T : Txt P K mg C I FE)
    (FS : Fun K "_law_stock" "_law_stock" sStock fS fdS) (FD : Fun K "_law_draw" "_law_draw" sDraw fD fdD) (FK : Fun K "_law_kinds" "_law_kinds" sKinds fK fdK) (FM : Fun K "_law_made" "_law_made" sMade fM fdM) (FF : Fun K "_law_fields_right" "_law_fields_right" sFields fF fdF)
    (bS : Binds K fdS ["_law_script"] []) (bD : Binds K fdD ["_law_stock_here", "_law_wide"] []) (bK : Binds K fdK ["_law_made_here"] []) (bM : Binds K fdM ["_law_text", "_law_spot"] []) (bF : Binds K fdF ["_law_made_here", "_law_spot"] [])
    (gS : mg "_law_stock" = some (.ref fS)) (gD : mg "_law_draw" = some (.ref fD)) (gK : mg "_law_kinds" = some (.ref fK)) (gM : mg "_law_made" = some (.ref fM)) (gF : mg "_law_fields_right" = some (.ref fF)) :
    FnG P w K mg base CX0 4 f fd ["_law_script"] (spLaw K) := by
  have OS : FnOk P w K mg base CX0 1 fS fdS ["_law_script"] (spStock K) := ok_stock FS T.mint T.mabs
  have OD : FnOk P w K mg base CX0 1 fD fdD ["_law_stock_here", "_law_wide"] spDraw := ok_draw FD T.mint
  have OK : FnOk P w K mg base CX0 1 fK fdK ["_law_made_here"] (spKinds K C) := ok_kinds FK T
  have OM : FnOk P w K mg base CX0 2 fM fdM ["_law_text", "_law_spot"] (spMade C) := ok_made FM T
  have OF : FnG P w K mg base CX0 2 fF fdF ["_law_made_here", "_law_spot"] (spFields C) := ok_fields FF T
  refine F.okG scLaw (fun vs H Q E h => ?_) (fun cdv A outer s H vs Q E hgd hr h => ?_)
  · obtain ⟨a, ns, rfl, _⟩ := h
    rfl
  · obtain ⟨a, ns, rfl, hS, hlen, q⟩ := h
    have h1 : Room 1 (A.deeper (envOfC "law" (defScope sLaw) s.heap.objs.size f cdv)) := hr.mono (by decide)
    have h2 : Room 2 (A.deeper (envOfC "law" (defScope sLaw) s.heap.objs.size f cdv)) := hr.mono (by decide)
    refine ⟨_, pss_cons (ps_set (i := 1) scLaw.nd rfl (.inr rfl) (pe_call OS h1 (by rfl) gS FS.kp bS .nil pass0 (pa_cons (pv 0) pa_nil)))
      (pss_cons (ps_for PassesOwn.never rfl (pi_range1 rfl T.mrange (pa_cons (pe_callB (call_max2 rfl) (by rfl) T.mmax (by decide +kernel) (pa_cons pe_int (pa_cons (pe_callB (call_min2 rfl) (by rfl) T.mmin (by decide +kernel) (pa_cons pe_int (pa_cons (pe_callB call_len_seq (by rfl) T.mlen PySem.boot_len (pa_cons (pv 0) pa_nil)) pa_nil))) pa_nil))) pa_nil)) (pg_name (i := 2) scLaw.nd rfl (.inl rfl))
        (pss_cons (ps_set (i := 3) scLaw.nd rfl (.inl rfl) (pe_join pe_str (pe_lc (own := [("_law_lap", 9)]) (g := gName 9) (tt := tYes) rfl scLaw.nd (pi_range1 rfl T.mrange (pa_cons (pe_call OD h1 (by rfl) gD FD.kp bD .nil pass0 (pa_cons (pv 1) (pa_cons pe_int pa_nil))) pa_nil)) (blkOk_by (N := nL) (sc := defScope sLaw) (by decide +kernel)) (fun _ _ _ _ _ => pg_name (i := 9) scLaw.nd rfl (Or.inl rfl)) (fun _ _ _ _ _ => pts_nil)
            (fun _ _ _ _ _ => pe_item_str pe_str (pe_call OD h1 (by rfl) gD FD.kp bD .nil pass0 (pa_cons (pv 1) (pa_cons pe_int pa_nil))) (fun _ _ => rfl)))))
        (pss_cons (ps_set (i := 4) scLaw.nd rfl (.inl rfl) (pe_ix ix_list (pe_lst (pa_cons pe_non (pa_cons pe_int (pa_cons (pe_call OD h1 (by rfl) gD FD.kp bD .nil pass0 (pa_cons (pv 1) (pa_cons pe_int pa_nil))) (pa_cons (pe_op op_pow pe_int pe_int) (pa_cons pe_str pa_nil)))))) (pe_call OD h1 (by rfl) gD FD.kp bD .nil pass0 (pa_cons (pv 1) (pa_cons pe_int pa_nil))) (fun _ _ => rfl)))
        (pss_cons (ps_par (i := 5) (j := 6) rfl scLaw.nd rfl rfl (by decide) rfl rfl (pa_cons (pe_call OM h2 (by rfl) gM FM.kp bM .nil pass0 (pa_cons (pv 3) (pa_cons (pv 4) pa_nil))) (pa_cons (pe_call OM h2 (by rfl) gM FM.kp bM .nil pass0 (pa_cons (pe_op op_add_str (pv 3) pe_str) (pa_cons pe_int pa_nil))) pa_nil)) (by rfl))
        (pss_cons (ps_for PassesOwn.never rfl (pi_enum (by rfl) T.menum (pa_cons (pv 5) pa_nil)) (pg_tup rfl (pgs_cons (pg_name (i := 7) scLaw.nd rfl (.inr rfl)) (pgs_cons (pg_name (i := 8) scLaw.nd rfl (.inl rfl)) pgs_nil)))
          (pss_cons (ps_if (PW.pt (pw_or (pt_not (pt_val (pe_callB call_isX (by rfl) T.mii (by decide +kernel) (pa_cons (pv 8) (pa_cons (pe_cls rfl T.gF) pa_nil))))) (pw_or1 (pt_not (pt_val (pe_callB call_isX (by rfl) T.mii (by decide +kernel) (pa_cons (pv 8) (pa_cons (pe_bltn (v := .ty "ValueError") (by rfl) T.mVE (by decide +kernel) rfl) pa_nil)))))))) (pss_one (ps_ret pe_bl)) pss_nil)
          (pss_one (ps_if (pt_cmpR (op_neD (hu_of64 h1)) (pe_call OK h1 (by rfl) gK FK.kp bK .nil pass0 (pa_cons (pv 8) pa_nil)) (pe_lc (own := [("_law_other", 10)]) (g := gName 10) (tt := tYes) rfl scLaw.nd (pi_range1 rfl T.mrange (pa_cons pe_int pa_nil)) (blkOk_by (N := nL) (sc := defScope sLaw) (by decide +kernel)) (fun _ _ _ _ _ => pg_name (i := 10) scLaw.nd rfl (Or.inl rfl)) (fun _ _ _ _ _ => pts_nil) (fun _ _ _ _ _ => pe_cmpR op_eq (pv 10) (pv 7) (nomark _))) (nomark _)) (pss_one (ps_ret pe_bl)) pss_nil))))
        (pss_cons (ps_if (PW.pt (pw_or (pt_not (pt_val (pe_callG OF hgd h2 (by rfl) gF FF.kp bF .nil pass0 (pa_cons (pv 5) (pa_cons (pv 4) pa_nil))))) (pw_or1 (pt_not (pt_val (pe_callG OF hgd h2 (by rfl) gF FF.kp bF .nil pass0 (pa_cons (pv 6) (pa_cons pe_int pa_nil)))))))) (pss_one (ps_ret pe_bl)) pss_nil)
        (pss_cons (ps_if (pt_cmpR (op_neD (hu_of64 h1)) (pe_call OK h1 (by rfl) gK FK.kp bK .nil pass0 (pa_cons (pe_exc1 PySem.F.excBase_ValueError T.plainF T.gF T.keepF (by rfl) (pv 3)) pa_nil)) (pe_op op_rep (pe_lst (pa_cons pe_bl pa_nil)) pe_int) (nomark _)) (pss_one (ps_ret pe_bl)) pss_nil)
        (pss_one (ps_if (pt_not (pt_val (pe_callB call_isX (by rfl) T.mii (by decide +kernel) (pa_cons (pe_exc1 PySem.F.excBase_ValueError T.plainF T.gF T.keepF (by rfl) (pv 3)) (pa_cons (pe_bltn (v := .ty "ValueError") (by rfl) T.mVE (by decide +kernel) rfl) pa_nil))))) (pss_one (ps_ret pe_bl)) pss_nil)))))))))
      (pss_one (ps_ret pe_bl))), ?_⟩
    refine ⟨.ref a, rfl, a, ns, rfl, hS, hlen, fun H1 p d0 m sm np hp z0 z1 m0 m1 => ?_⟩
    refine ⟨.ref a, rfl, a, _, rfl, .inl (sm.seq hS), _, _, rfl, _, _, rfl, _, rfl, ?_, ?_, ?_⟩
    · split <;> split <;> omega
    · split <;> split <;> omega
    have hj : ((if (if ((ns.map V.int).length : Int) < 4 then ((ns.map V.int).length : Int) else 4) > 1 then (if ((ns.map V.int).length : Int) < 4 then ((ns.map V.int).length : Int) else 4) else 1) : Int).toNat ≤ 4 := by
      split <;> split <;> omega
    refine for_range (lo := 0) (fun i σ H3 => ∃ d c y2 y3 y4 y5 y6 y7 y8 y9 y10, σ = [some (.ref a), some (.ref p), y2, y3, y4, y5, y6, y7, y8, y9, y10] ∧ H3 p = some (.lst [.int d, .int m, .int c]) ∧ 0 ≤ d ∧ d < 2 ^ 12600 ∧ 0 ≤ c ∧ c ≤ 11 * i) ?_ ?_ ?_
    · exact ⟨d0, 0, none, none, none, none, none, none, none, none, none, rfl, hp, z0, z1, by decide, by decide⟩
    · rintro i σ H3 hi ⟨d, c, y2, y3, y4, y5, y6, y7, y8, y9, y10, rfl, hp3, d1, d2, c1, c2⟩
      have hi4 : i < 4 := Nat.lt_of_lt_of_le hi hj
      refine ⟨⟨_, rfl⟩, .ref p, rfl, p, 9, d, m, c, rfl, by decide, by decide, hp3, d1, d2, m0, m1, c1, by omega, fun r da ca r0 r1 e0 e1 f0 f1 => ?_⟩
      refine ⟨r, rfl, by omega, by omega, fun D nD => ?_⟩
      have pD : p ≠ D := fun z => by
        rw [← z, upd_same] at nD
        cases nD
      refine lc_range (lo := 0) (n := r.toNat) (fun j H' => ∃ d c, ∃ ys : List Str, H' p = some (.lst [.int d, .int m, .int c]) ∧ 0 ≤ d ∧ d < 2 ^ 12600 ∧ 0 ≤ c ∧ c ≤ 11 * i + 1 + j ∧ H' D = some (.lst (ys.map V.str)) ∧ ys.length = j ∧ ∀ y ∈ ys, y.length = 1) ?_ ?_ ?_
      · refine ⟨da, ca, [], ?_, e0, e1, f0, by omega, upd_same, rfl, fun y hy => nomatch hy⟩
        rw [upd_ne pD]
        exact upd_same
      · rintro j H' hj' ⟨db, cb, ys, hp', g0, g1, g2, g3, hD, ly, hy⟩
        refine ⟨rfl, yesT ?_⟩
        refine ⟨.ref p, rfl, p, 6, db, m, cb, rfl, by decide, by decide, hp', g0, g1, m0, m1, g2, by omega, fun r6 dc cc q0 q1 u0 u1 v0 v1 => ?_⟩
        obtain ⟨c6, hc6⟩ : ∃ c6, ("abc \n-" : Str).cps[r6.toNat]? = some c6 := ⟨_, Array.getElem?_eq_getElem (show r6.toNat < 6 by omega)⟩
        refine ⟨_, r6, c6, rfl, rfl, q0, by omega, show r6 < ((6 : Nat) : Int) by omega, hc6, ys.map V.str, ?_, ?_, dc, cc, ys ++ [⟨#[c6]⟩], ?_, u0, u1, v0, by omega, ?_, by simp [ly], fun y hy' => ?_⟩
        · rw [upd_ne (Ne.symm pD)]
          exact hD
        · rw [List.length_map, ly]
          exact Nat.lt_of_lt_of_le (show j < 9 by omega) (by decide)
        · rw [upd_ne pD]
          exact upd_same
        · rw [upd_same, List.map_append]
          rfl
        · rcases List.mem_append.mp hy' with z | z
          · exact hy y z
          · rw [List.mem_singleton.mp z]
            rfl
      rintro H4 ⟨d4, c4, ys, hp4, g0, g1, g2, g3, hD, ly, hy⟩
      have sum1 : (ys.map (·.length)).sum = ys.length := by
        clear ly hD g3
        induction ys with
        | nil => rfl
        | cons y r ih =>
          rw [List.map_cons, List.sum_cons, List.length_cons, ih fun z hz => hy z (List.mem_cons_of_mem _ hz), hy y List.mem_cons_self]
          omega
      have r8 : ys.length ≤ 8 := by omega
      refine ⟨"", D, ys, rfl, rfl, .inl (SqL.of hD), by rw [sum1]; show ys.length + ys.length * 0 ≤ 16777216; omega, ?_⟩
      have tl : (Txt.join "" ys).length ≤ 8 := by
        rw [show Txt.join "" ys = Str.join "" ys from PySem.StrLaws.glued_eq_join "" ys]
        exact Nat.le_trans (join_le ys) (by omega)
      generalize Txt.join "" ys = text at tl ⊢
      -- the spot
      refine ⟨.ref p, rfl, p, 400, d4, m, c4, rfl, by decide, by decide, hp4, g0, g1, m0, m1, g2, by omega, fun r400 d5 c5 q0 q1 u0 u1 v0 v1 => ?_⟩
      refine ⟨10, 29, rfl, rfl, ⟨by decide, by decide, by decide⟩, sz20 (by simp), fun l nl => ?_⟩
      have pl : p ≠ l := fun z => by
        rw [← z, upd_same] at nl
        cases nl
      refine ⟨.ref p, rfl, p, 5, d5, m, c5, rfl, by decide, by decide, ?_, u0, u1, m0, m1, v0, by omega, fun r5 d6 c6 w0 w1 x0 x1 k0 k1 => ?_⟩
      · rw [upd_ne pl]
        exact upd_same
      obtain ⟨j5, rfl⟩ : ∃ j : Nat, r5 = (j : Int) := ⟨r5.toNat, (Int.toNat_of_nonneg w0).symm⟩
      obtain ⟨v, dv, hv, sv⟩ : ∃ v dv, [V.non, .int 0, .int r400, .int (10 ^ (29 : Int).toNat), .str "corners"][j5]? = some v ∧ Spot v dv := by
        rcases (show j5 = 0 ∨ j5 = 1 ∨ j5 = 2 ∨ j5 = 3 ∨ j5 = 4 by omega) with rfl | rfl | rfl | rfl | rfl
        · exact ⟨_, .none, rfl, spot_non⟩
        · exact ⟨_, _, rfl, spot_int (by decide) (by decide)⟩
        · exact ⟨_, _, rfl, spot_int (by omega) (by omega)⟩
        · exact ⟨_, _, rfl, spot_int (by decide) (by decide)⟩
        · exact ⟨_, _, rfl, spot_corners⟩
      refine ⟨l, _, _, v, rfl, rfl, SqL.of ((upd_ne (Ne.symm pl)).trans upd_same), atI_nat hv, ?_⟩
      -- the errors
      refine ⟨_, rfl, _, rfl, text, v, rfl, fun H5 pm as s5 np5 M5 => ?_⟩
      refine ⟨_, rfl, text, "x", rfl, rfl, ?_, _, _, rfl, fun H6 po as2 s6 np6 M6 => ?_⟩
      · show text.length + 1 ≤ sizeLine
        exact sz20 (by omega)
      have M5' := M5.same s6
      have hp6 : H6 p = some (.lst [.int d6, .int m, .int c6]) := s6 _ _ (s5 _ _ upd_same)
      refine ⟨_, _, rfl, ?_⟩
      -- each error of the list
      refine ⟨.ref pm, rfl, pm, _, rfl, SqL.of M5'.lst, ?_⟩
      refine for_it (walk_enum (K := K) (a := pm) (xs := (List.range 17).map fun i => V.ref (as i))) (fun e σ H' => ∃ z2 z7 z8 z9 z10, σ = [some (.ref a), some (.ref p), z2, some (.str text), some v, some (.ref pm), some (.ref po), z7, z8, z9, z10] ∧ Same H6 H') ⟨_, _, _, _, _, rfl, Same.refl _⟩ (fun e σ H' _ z => ?_) ?_ ?_
      · obtain ⟨_, _, _, _, _, _, z⟩ := z
        exact SqL.of (z _ _ M5'.lst)
      · rintro e x σ H7 H8 he ⟨z2, z7, z8, z9, z10, rfl, s7⟩ ⟨U, x1, x2, rfl, nU, rfl, e1, e2⟩
        have he17 : e < 17 := by simpa using he
        have ex1 : x1 = .int (e : Nat) := (Option.some.inj e1).symm
        have ex2 : x2 = .ref (as e) := by
          have : ((List.range 17).map fun i => V.ref (as i))[e]? = some (V.ref (as e)) := by
            rw [List.getElem?_map, List.getElem?_range he17]
            rfl
          exact Option.some.inj (e2.symm.trans this)
        subst ex1 ex2
        have s8 := s7.trans (same_new (o := .tup [.int (e : Nat), .ref (as e)]) nU)
        have M8 := M5'.same s8
        have xA : ExcAt (upd H7 U (.tup [.int (e : Nat), .ref (as e)])) (as e) (C e) := by
          by_cases h11 : e < 11
          · exact .inl (M8.plain e h11)
          · obtain ⟨b, g1, g2⟩ := M8.fielded e (by omega) he17
            exact .inr ⟨b, _, g1, g2⟩
        refine ⟨U, _, rfl, SqT.of upd_same, rfl, .int (e : Nat), [.ref (as e)], rfl, .ref (as e), [], rfl, rfl, ?_⟩
        refine ⟨_, rfl, as e, C e, .ref FE, .ref FE, true, rfl, .own _, T.exc e he17, xA, T.upF e he17, true, rfl, ?_⟩
        refine iteF ?_
        refine ⟨_, rfl, as e, C e, .ty "ValueError", .type "ValueError", true, rfl, .ty _, T.exc e he17, xA, T.upV e he17, true, rfl, ?_⟩
        refine iteF ?_
        -- its kinds
        refine ⟨_, rfl, as e, C e, fun j => decide (j = e), rfl, T.exc e he17, xA, fun j hj => T.kit e he17 j hj, fun H9 pk s9 n9 e9 => ?_⟩
        refine ⟨17, rfl, by decide, by decide, fun D2 nD2 => ?_⟩
        refine lc_range (lo := 0) (n := (17 : Int).toNat) (fun j H' => Same H9 H' ∧ H' D2 = some (.lst (((List.range j).map fun k => decide (k = e)).map V.bl))) ⟨same_new nD2, upd_same⟩ ?_ ?_
        · rintro j H' hj' ⟨sz, hD2⟩
          refine ⟨rfl, yesT ?_⟩
          refine ⟨_, rfl, _, rfl, rfl, _, hD2, ?_, ?_, ?_⟩
          · rw [List.length_map, List.length_map, List.length_range]
            exact Nat.lt_of_lt_of_le (show j < 17 from hj') (by decide)
          · intro b' o' e'
            by_cases eb : b' = D2
            · subst eb
              rw [nD2] at e'
              cases e'
            · rw [upd_ne eb]
              exact sz _ _ e'
          · rw [upd_same, List.range_succ, List.map_append, List.map_append]
            have ed : decide (V.int (0 + (j : Int)) = V.int (e : Int)) = decide (j = e) := by
              rw [dec_int]
              by_cases z : j = e
              · subst z; simp
              · have : (0 + (j : Int) == (e : Int)) = false := by
                  rw [beq_eq_false_iff_ne]
                  omega
                rw [this, decide_eq_false z]
            rw [ed]
            rfl
        · rintro H10 ⟨s10, hD2⟩
          have hk10 : H10 pk = some (.lst (((List.range 17).map fun k => decide (k = e)).map V.bl)) := by
            rw [List.map_map]
            exact s10 _ _ e9
          refine ⟨_, _, .lst (SqL.of hk10) (dp_bools _), .lst (SqL.of hD2) (dp_bools _), shaped_bools _, shaped_bools _, _, rfl, ?_⟩
          have eqb := eq_bools ((List.range 17).map fun k => decide (k = e))
          rw [show (17 : Int).toNat = 17 from rfl, eqb]
          refine iteF ?_
          exact ⟨_, _, _, _, _, rfl, (s8.trans s9).trans s10⟩
      rintro σ H7 ⟨z2, z7, z8, z9, z10, rfl, s7⟩
      have M7 := M5'.same s7
      have M7' := M6.same s7
      refine ⟨_, rfl, _, rfl, pm, v, dv, as, rfl, sv, M7, fun H8 s8 => ⟨true, rfl, ?_⟩⟩
      refine iteF ?_
      refine ⟨_, rfl, po, .int 77, _, as2, rfl, spot_int (by decide) (by decide), M7'.same s8, fun H9 s9 => ⟨true, rfl, ?_⟩⟩
      refine iteF ?_
      refine ⟨_, rfl, fun xa n1 => ?_⟩
      refine ⟨xa, FE, fun _ => false, rfl, T.excF, .inl upd_same, fun j hj => T.kitF j hj, fun H10 pk s10 n10 e10 => ?_⟩
      refine ⟨sz20 (by simp), fun x2 n2 => ?_⟩
      refine ⟨x2, 17, _, rfl, rfl, upd_same, by decide, by decide, sz20 (by simp), fun x3 n3 => ?_⟩
      have hk3 : (upd (upd H10 x2 (.lst [.bl false])) x3 (.lst (List.replicate (17 : Int).toNat [V.bl false]).flatten)) pk = some (.lst ((List.replicate 17 false).map V.bl)) := (Same.trans (same_new n2) (same_new n3)) _ _ e10
      refine ⟨_, _, .lst (SqL.of hk3) (dp_bools _), .lst (SqL.of (xs := (List.replicate 17 false).map V.bl) upd_same) (dp_bools _), shaped_bools _, shaped_bools _, _, rfl, ?_⟩
      rw [eq_bools]
      refine iteF ?_
      refine ⟨_, rfl, fun x4 n4 => ?_⟩
      refine ⟨x4, FE, .ty "ValueError", .type "ValueError", true, rfl, .ty _, T.excF, .inl upd_same, T.upFV, true, rfl, ?_⟩
      refine iteF ?_
      refine ⟨d6, c6, _, _, _, _, _, _, _, _, _, rfl, ?_, x0, x1, k0, ?_⟩
      · exact (Same.trans s7 (Same.trans s8 (Same.trans s9 (Same.trans (same_new n1) (Same.trans s10 (Same.trans (same_new n2) (Same.trans (same_new n3) (same_new n4)))))))) _ _ hp6
      · omega
    · rintro σ H3 ⟨d, c, y2, y3, y4, y5, y6, y7, y8, y9, y10, rfl, _⟩
      exact q H3
end
end K0

set_option maxRecDepth 100000
set_option maxHeartbeats 1000000
set_option exponentiation.threshold 20000
namespace PySem.ErX
open PySem PySem.W PySem.Calls PyProof.Rows PySem.HandSPX
/-- the class over FenceError over ValueError, with its own __init__ -/
theorem itxt_mk {prog : Program} {K : Frag} {mg : Str → Option Value} {C fI FE : Addr} {f : Str} (ok : FOk f)
    {nm q : Str} {N : Addr} {bs : List Value} {sn : List Str} {sub : List Value} {ab : Bool} {col : Option Bool} {dd : Option Addr} {k0 k1 k2 k3 k5 : Option Value}
    (x1 : K.lookup C = some (excClassObj nm q C N bs [.ref FE, .type "ValueError", .type "Exception", .type "BaseException", .type "object"] true sn sub ab col dd k0 k1 k2 k3 k5 "ValueError.__new__"))
    (x2 : alongIn K "__init__" [.ref FE, .type "ValueError", .type "Exception", .type "BaseException", .type "object"] = some (some (.builtin "ValueError.__init__")))
    (x3 : findIn K (.ref C) "__setattr__" = some (some (.builtin "object.__setattr__"))) (x4 : findIn K (.ref C) f = some none) (x5 : findIn K (.ref C) "__init__" = some (some (.ref fI))) (x6 : typeIn K (.ref fI) = some (.type "function"))
    (x7 : subIn K (.ref C) (.type "ValueError") = some true) (x8 : keepIn K (.ref C) = true) (x9 : mg "super" = none) (x10 : nsIn K cStatics "thirdparty.any" = some none) (x11 : (prog.main.scope.names.lookup ("super" : Str)).isSome = false)
    {oc : Value} {od : Option Addr} {qual m : Str} {doc pm : Value} {an : Option Addr} {cda cc : Addr} {ct : Value} {osl : Array (Option Value)} {p1 p2 p3 p4 p5 p6 p7 p8 q1 q2 q3 q4 : Pos}
    {ccl : Value} {cdd : Option Addr} {vs : Array Value} {ccs : Array (Option Value)} {file : Str} {tf : Tok} {cl : Value} {cld : Option Addr} {csl : Array (Option Value)}
    (y1 : K.lookup fI = some ⟨oc, od, .func (ksFn "__init__" qual (iA f p1 p2) (iB f m p3 p4 p5 p6 p7 p8 q1 q2 q3 q4) (iS f) .none .none doc pm an (.ref cda) ct cc), osl⟩) (y2 : codeIn K (.ref cda) qual = true)
    (y3 : K.lookup cda = some ⟨ccl, cdd, .fields vs, ccs⟩) (y4 : vs[2]? = some (.str file tf)) (y5 : ((prog.main.file : Str) == file) = true) (y6 : (p5.endLine == p7.line) = true)
    (y7 : K.lookup cc = some ⟨cl, cld, .cell (some (.ref C)), csl⟩) : ITxt prog K mg C fI f :=
  ⟨ok, ⟨nm, q, N, bs, _, sn, sub, ab, col, dd, k0, k1, k2, k3, k5, x1, (show refsVE [.type "ValueError", .type "Exception", .type "BaseException", .type "object"] = true by decide +kernel), x2⟩, x3, x4, x5, x6, x7, x8, x9, x10, x11,
    ⟨oc, od, qual, m, doc, pm, an, cda, cc, ct, osl, p1, p2, p3, p4, p5, p6, p7, p8, q1, q2, q3, q4, ccl, cdd, vs, ccs, file, tf, cl, cld, csl, y1, y2, y3, y4, y5, y6, y7⟩⟩
end PySem.ErX
namespace K0
open PySem PySem.Spec PyProof.Rows L2
def lift (cs : List Addr) (i : Nat) : Addr := cs.getD i 0
theorem all_lift {p : Addr → Bool} {cs : List Addr} {n : Nat} (h : ((List.range n).all fun i => p (lift cs i)) = true) : ∀ i, i < n → p (lift cs i) = true := fun i hi => List.all_eq_true.mp h i (List.mem_range.mpr hi)
def cPlain (K : PySem.W.Frag) (c : Addr) : Bool := PySem.W.excIn K c veT "ValueError.__new__" && PySem.W.keepIn K (.ref c)
def cExc (K : PySem.W.Frag) (D : Addr) : Bool :=
  PySem.W.findIn K (.ref D) "__getattribute__" == some (some (.builtin "BaseException.__getattribute__")) && (PySem.W.findIn K (.ref D) "__getattr__" == some none && (PySem.W.subIn K (.ref D) (.type "BaseException") == some true && (PySem.W.hasDictIn K D &&
    (PySem.W.findIn K (.ref D) "__class__" == some (some (.builtin "object.__class__")) && (PySem.W.specialIn K (.builtin "object.__class__") "__get__" == some (some (.builtin "getset_descriptor.__get__")) && (PySem.W.takesIn K (.builtin "object.__class__") == some true && PySem.W.mroIn K D (.type "object") == some true))))))
theorem exc_of {K : PySem.W.Frag} {D : Addr} (h : cExc K D = true) : ExcC K D := by
  unfold cExc at h
  simp only [Bool.and_eq_true, beq_iff_eq] at h
  obtain ⟨h1, h2, h3, h4, h5, h6, h7, h8⟩ := h
  exact ⟨h1, h2, h3, h4, h5, h6, h7, h8⟩
def cGet (K : PySem.W.Frag) (C : Addr) (f : Str) : Bool := PySem.W.findIn K (.ref C) f == some none
theorem get_of {K : PySem.W.Frag} {D : Addr} {f : Str} (e : ExcC K D) (h : cGet K D f = true) : GetI K D f := ⟨e.hg, e.hk, e.hs, e.hd, beq_iff_eq.mp h⟩
def cKit (K : PySem.W.Frag) (cs : List Addr) (FE : Addr) : Bool :=
  ((List.range 17).all fun i => (List.range 17).all fun j => PySem.W.kitOne K (.ref (lift cs i)) (.ref (lift cs j)) == some (decide (j = i))) &&
    (((List.range 17).all fun j => PySem.W.kitOne K (.ref FE) (.ref (lift cs j)) == some false) &&
    (((List.range 17).all fun j => PySem.W.kitOne K (.ref (lift cs j)) (.ref FE) == some true) && (((List.range 17).all fun j => PySem.W.kitOne K (.ref (lift cs j)) (.type "ValueError") == some true) && PySem.W.kitOne K (.ref FE) (.type "ValueError") == some true)))
theorem txt_mk {P : Program} {K : PySem.W.Frag} {mg : Str → Option Value} {cs is : List Addr} {FE : Addr}
    (g0 : mg "InvalidSize" = some (.ref (lift cs 0))) (g1 : mg "InvalidNumber" = some (.ref (lift cs 1))) (g2 : mg "InvalidSide" = some (.ref (lift cs 2))) (g3 : mg "InvalidPoint" = some (.ref (lift cs 3))) (g4 : mg "InvalidMove" = some (.ref (lift cs 4)))
    (g5 : mg "InvalidDirection" = some (.ref (lift cs 5))) (g6 : mg "InvalidLine" = some (.ref (lift cs 6))) (g7 : mg "InvalidName" = some (.ref (lift cs 7))) (g8 : mg "Impossible" = some (.ref (lift cs 8))) (g9 : mg "NothingToUndo" = some (.ref (lift cs 9))) (g10 : mg "InvalidCommand" = some (.ref (lift cs 10)))
    (g11 : mg "InvalidFence" = some (.ref (lift cs 11))) (g12 : mg "InvalidPoints" = some (.ref (lift cs 12))) (g13 : mg "InvalidRule" = some (.ref (lift cs 13))) (g14 : mg "InvalidCounts" = some (.ref (lift cs 14))) (g15 : mg "InvalidLooks" = some (.ref (lift cs 15))) (g16 : mg "InvalidSyntax" = some (.ref (lift cs 16))) (gF : mg "FenceError" = some (.ref FE))
    (c1 : ((List.range 11).all fun i => cPlain K (lift cs i)) = true) (c2 : cPlain K FE = true) (c3 : ((List.range 17).all fun i => cExc K (lift cs i)) = true) (c4 : cExc K FE = true) (c5 : cKit K cs FE = true)
    (i11 : PySem.ErX.ITxt P K mg (lift cs 11) (lift is 11) "part") (i12 : PySem.ErX.ITxt P K mg (lift cs 12) (lift is 12) "index") (i13 : PySem.ErX.ITxt P K mg (lift cs 13) (lift is 13) "index") (i14 : PySem.ErX.ITxt P K mg (lift cs 14) (lift is 14) "index") (i15 : PySem.ErX.ITxt P K mg (lift cs 15) (lift is 15) "index") (i16 : PySem.ErX.ITxt P K mg (lift cs 16) (lift is 16) "word")
    (n1 : mg "isinstance" = none) (n2 : mg "int" = none) (n3 : mg "abs" = none) (n4 : mg "range" = none) (n5 : mg "max" = none) (n6 : mg "min" = none) (n7 : mg "len" = none) (n8 : mg "enumerate" = none) (n9 : mg "repr" = none) (n10 : mg "ValueError" = none) : Txt P K mg (lift cs) (lift is) FE := by
  have k1 := all_lift c1
  have k3 := all_lift c3
  unfold cKit at c5
  simp only [Bool.and_eq_true] at c5
  obtain ⟨q1, q2, q3, q4, q5⟩ := c5
  have e3 : ∀ i, i < 17 → ExcC K (lift cs i) := fun i hi => exc_of (k3 i hi)
  have pl : ∀ i, i < 11 → _ := fun i hi => Bool.and_eq_true_iff.mp (k1 i hi)
  have plF := Bool.and_eq_true_iff.mp c2
  refine ⟨g0, g1, g2, g3, g4, g5, g6, g7, g8, g9, g10, g11, g12, g13, g14, g15, g16, gF, fun i hi => (pl i hi).1, fun i hi => (pl i hi).2, plF.1, plF.2, e3, exc_of c4, fun i hi j hj => ?_, fun j hj => ?_, fun j hj => ?_, fun j hj => ?_, beq_iff_eq.mp q5, i11, i12, i13, i14, i15, i16, ?_, fun i h1 h2 => ?_, ?_, n1, n2, n3, n4, n5, n6, n7, n8, n9, n10⟩
  · have z := List.all_eq_true.mp q1 i (List.mem_range.mpr hi)
    exact beq_iff_eq.mp (List.all_eq_true.mp z j (List.mem_range.mpr hj))
  · exact beq_iff_eq.mp (List.all_eq_true.mp q2 j (List.mem_range.mpr hj))
  · exact beq_iff_eq.mp (List.all_eq_true.mp q3 j (List.mem_range.mpr hj))
  · exact beq_iff_eq.mp (List.all_eq_true.mp q4 j (List.mem_range.mpr hj))
  · have e := e3 11 (by decide)
    exact ⟨e.hg, e.hk, e.hs, e.hd, i11.noN⟩
  · have e := e3 i (by omega)
    have no : PySem.W.findIn K (.ref (lift cs i)) "index" = some none := by
      rcases (show i = 12 ∨ i = 13 ∨ i = 14 ∨ i = 15 by omega) with rfl | rfl | rfl | rfl
      · exact i12.noN
      · exact i13.noN
      · exact i14.noN
      · exact i15.noN
    exact ⟨e.hg, e.hk, e.hs, e.hd, no⟩
  · have e := e3 16 (by decide)
    exact ⟨e.hg, e.hk, e.hs, e.hd, i16.noN⟩
theorem all_mk {P : Program} {w : World} {K : PySem.W.Frag} {mg : Str → Option Value} {cs is : List Addr} {FE fa fS fD fK fM fF : Addr} (T : Txt P K mg (lift cs) (lift is) FE) (hfa : mg "law" = some (.ref fa))
    {fd fdS fdD fdK fdM fdF : FuncData} (F : Fun K "law" "law" sLaw fa fd)
    (FS : Fun K "_law_stock" "_law_stock" sStock fS fdS) (FD : Fun K "_law_draw" "_law_draw" sDraw fD fdD) (FK : Fun K "_law_kinds" "_law_kinds" sKinds fK fdK) (FM : Fun K "_law_made" "_law_made" sMade fM fdM) (FF : Fun K "_law_fields_right" "_law_fields_right" sFields fF fdF)
    (gS : mg "_law_stock" = some (.ref fS)) (gD : mg "_law_draw" = some (.ref fD)) (gK : mg "_law_kinds" = some (.ref fK)) (gM : mg "_law_made" = some (.ref fM)) (gF : mg "_law_fields_right" = some (.ref fF)) (base : Heap) :
    FnG P w K mg base CX0 4 fa fd ["_law_script"] (spLaw K) :=
  ok_law F T FS FD FK FM FF (FS.binds fun _ _ _ _ _ _ us hl => match us, hl with | [_], _ => rfl) (FD.binds fun _ _ _ _ _ _ us hl => match us, hl with | [_, _], _ => rfl) (FK.binds fun _ _ _ _ _ _ us hl => match us, hl with | [_], _ => rfl)
    (FM.binds fun _ _ _ _ _ _ us hl => match us, hl with | [_, _], _ => rfl) (FF.binds fun _ _ _ _ _ _ us hl => match us, hl with | [_, _], _ => rfl) gS gD gK gM gF
theorem top_mk {P : Program} {w : World} {K : PySem.W.Frag} {h : Heap} {mg : Str → Option Value} {C0 C1 C2 C3 C4 C5 C6 C7 C8 C9 C10 C11 C12 C13 C14 C15 C16 FE I11 I12 I13 I14 I15 I16 fa fL fS fD fK fM fF : Addr} (X : K.In h) (G : h.Ns mainGlobals mg) (hfa : mg "law" = some (.ref fa))
    (a0 : PySem.W.nsIn K mainGlobals "InvalidSize" = some (some (.ref C0)))
    (a1 : PySem.W.nsIn K mainGlobals "InvalidNumber" = some (some (.ref C1)))
    (a2 : PySem.W.nsIn K mainGlobals "InvalidSide" = some (some (.ref C2)))
    (a3 : PySem.W.nsIn K mainGlobals "InvalidPoint" = some (some (.ref C3)))
    (a4 : PySem.W.nsIn K mainGlobals "InvalidMove" = some (some (.ref C4)))
    (a5 : PySem.W.nsIn K mainGlobals "InvalidDirection" = some (some (.ref C5)))
    (a6 : PySem.W.nsIn K mainGlobals "InvalidLine" = some (some (.ref C6)))
    (a7 : PySem.W.nsIn K mainGlobals "InvalidName" = some (some (.ref C7)))
    (a8 : PySem.W.nsIn K mainGlobals "Impossible" = some (some (.ref C8)))
    (a9 : PySem.W.nsIn K mainGlobals "NothingToUndo" = some (some (.ref C9)))
    (a10 : PySem.W.nsIn K mainGlobals "InvalidCommand" = some (some (.ref C10)))
    (a11 : PySem.W.nsIn K mainGlobals "InvalidFence" = some (some (.ref C11)))
    (a12 : PySem.W.nsIn K mainGlobals "InvalidPoints" = some (some (.ref C12)))
    (a13 : PySem.W.nsIn K mainGlobals "InvalidRule" = some (some (.ref C13)))
    (a14 : PySem.W.nsIn K mainGlobals "InvalidCounts" = some (some (.ref C14)))
    (a15 : PySem.W.nsIn K mainGlobals "InvalidLooks" = some (some (.ref C15)))
    (a16 : PySem.W.nsIn K mainGlobals "InvalidSyntax" = some (some (.ref C16)))
    (aF : PySem.W.nsIn K mainGlobals "FenceError" = some (some (.ref FE)))
    (c1 : ((List.range 11).all fun i => cPlain K (lift [C0, C1, C2, C3, C4, C5, C6, C7, C8, C9, C10, C11, C12, C13, C14, C15, C16] i)) = true) (c2 : cPlain K FE = true) (c3 : ((List.range 17).all fun i => cExc K (lift [C0, C1, C2, C3, C4, C5, C6, C7, C8, C9, C10, C11, C12, C13, C14, C15, C16] i)) = true) (c4 : cExc K FE = true) (c5 : cKit K [C0, C1, C2, C3, C4, C5, C6, C7, C8, C9, C10, C11, C12, C13, C14, C15, C16] FE = true)
    (t11 : mg "super" = none → PySem.ErX.ITxt P K mg C11 I11 "part")
    (t12 : mg "super" = none → PySem.ErX.ITxt P K mg C12 I12 "index")
    (t13 : mg "super" = none → PySem.ErX.ITxt P K mg C13 I13 "index")
    (t14 : mg "super" = none → PySem.ErX.ITxt P K mg C14 I14 "index")
    (t15 : mg "super" = none → PySem.ErX.ITxt P K mg C15 I15 "index")
    (t16 : mg "super" = none → PySem.ErX.ITxt P K mg C16 I16 "word")
    (b0 : PySem.W.nsIn K mainGlobals "isinstance" = some none)
    (b1 : PySem.W.nsIn K mainGlobals "int" = some none)
    (b2 : PySem.W.nsIn K mainGlobals "abs" = some none)
    (b3 : PySem.W.nsIn K mainGlobals "range" = some none)
    (b4 : PySem.W.nsIn K mainGlobals "max" = some none)
    (b5 : PySem.W.nsIn K mainGlobals "min" = some none)
    (b6 : PySem.W.nsIn K mainGlobals "len" = some none)
    (b7 : PySem.W.nsIn K mainGlobals "enumerate" = some none)
    (b8 : PySem.W.nsIn K mainGlobals "repr" = some none)
    (b9 : PySem.W.nsIn K mainGlobals "ValueError" = some none)
    (b10 : PySem.W.nsIn K mainGlobals "super" = some none)
    {ocL : Value} {odL anL : Option Addr} {slL : Array (Option Value)} {kVL dcL pmL cdL ctL : Value} (eL : PySem.W.nsIn K mainGlobals "law" = some (some (.ref fL))) (lL : K.lookup fL = some ⟨ocL, odL, .func (PySem.W.fnOf "law" "law" (defArgs sLaw) (defBody sLaw) (defScope sLaw) .none kVL dcL pmL anL cdL ctL), slL⟩) (jL : PySem.W.codeIn K cdL "law" = true) (kL : PySem.W.keepIn K (.ref fL) = true)
    {ocS : Value} {odS anS : Option Addr} {slS : Array (Option Value)} {kVS dcS pmS cdS ctS : Value} (eS : PySem.W.nsIn K mainGlobals "_law_stock" = some (some (.ref fS))) (lS : K.lookup fS = some ⟨ocS, odS, .func (PySem.W.fnOf "_law_stock" "_law_stock" (defArgs sStock) (defBody sStock) (defScope sStock) .none kVS dcS pmS anS cdS ctS), slS⟩) (jS : PySem.W.codeIn K cdS "_law_stock" = true) (kS : PySem.W.keepIn K (.ref fS) = true)
    {ocD : Value} {odD anD : Option Addr} {slD : Array (Option Value)} {kVD dcD pmD cdD ctD : Value} (eD : PySem.W.nsIn K mainGlobals "_law_draw" = some (some (.ref fD))) (lD : K.lookup fD = some ⟨ocD, odD, .func (PySem.W.fnOf "_law_draw" "_law_draw" (defArgs sDraw) (defBody sDraw) (defScope sDraw) .none kVD dcD pmD anD cdD ctD), slD⟩) (jD : PySem.W.codeIn K cdD "_law_draw" = true) (kD : PySem.W.keepIn K (.ref fD) = true)
    {ocK : Value} {odK anK : Option Addr} {slK : Array (Option Value)} {kVK dcK pmK cdK ctK : Value} (eK : PySem.W.nsIn K mainGlobals "_law_kinds" = some (some (.ref fK))) (lK : K.lookup fK = some ⟨ocK, odK, .func (PySem.W.fnOf "_law_kinds" "_law_kinds" (defArgs sKinds) (defBody sKinds) (defScope sKinds) .none kVK dcK pmK anK cdK ctK), slK⟩) (jK : PySem.W.codeIn K cdK "_law_kinds" = true) (kK : PySem.W.keepIn K (.ref fK) = true)
    {ocM : Value} {odM anM : Option Addr} {slM : Array (Option Value)} {kVM dcM pmM cdM ctM : Value} (eM : PySem.W.nsIn K mainGlobals "_law_made" = some (some (.ref fM))) (lM : K.lookup fM = some ⟨ocM, odM, .func (PySem.W.fnOf "_law_made" "_law_made" (defArgs sMade) (defBody sMade) (defScope sMade) .none kVM dcM pmM anM cdM ctM), slM⟩) (jM : PySem.W.codeIn K cdM "_law_made" = true) (kM : PySem.W.keepIn K (.ref fM) = true)
    {ocF : Value} {odF anF : Option Addr} {slF : Array (Option Value)} {kVF dcF pmF cdF ctF : Value} (eF : PySem.W.nsIn K mainGlobals "_law_fields_right" = some (some (.ref fF))) (lF : K.lookup fF = some ⟨ocF, odF, .func (PySem.W.fnOf "_law_fields_right" "_law_fields_right" (defArgs sFields) (defBody sFields) (defScope sFields) .none kVF dcF pmF anF cdF ctF), slF⟩) (jF : PySem.W.codeIn K cdF "_law_fields_right" = true) (kF : PySem.W.keepIn K (.ref fF) = true)
    : ∃ fd : FuncData, (∀ (s : Shared) (u : Value), BindsTo s fd ⟨[u], []⟩ [("_law_script", u)]) ∧ ∀ base : Heap, K.In base → base.Ns mainGlobals mg → FnG P w K mg base CX0 4 fa fd ["_law_script"] (spLaw K) := by
  have z := hfa.symm.trans (PySem.W.mg_of X G eL)
  cases z
  have m : ∀ {x : Str} {c : Addr}, PySem.W.nsIn K mainGlobals x = some (some (.ref c)) → mg x = some (.ref c) := fun e => PySem.W.mg_of X G e
  have n : ∀ {x : Str}, PySem.W.nsIn K mainGlobals x = some none → mg x = none := fun e => PySem.W.mg_none_of X G e
  have T : Txt P K mg (lift [C0, C1, C2, C3, C4, C5, C6, C7, C8, C9, C10, C11, C12, C13, C14, C15, C16]) (lift [0, 0, 0, 0, 0, 0, 0, 0, 0, 0, 0, I11, I12, I13, I14, I15, I16]) FE := txt_mk (m a0) (m a1) (m a2) (m a3) (m a4) (m a5) (m a6) (m a7) (m a8) (m a9) (m a10) (m a11) (m a12) (m a13) (m a14) (m a15) (m a16) (m aF) c1 c2 c3 c4 c5 (t11 (n b10)) (t12 (n b10)) (t13 (n b10)) (t14 (n b10)) (t15 (n b10)) (t16 (n b10)) (n b0) (n b1) (n b2) (n b3) (n b4) (n b5) (n b6) (n b7) (n b8) (n b9)
  exact ⟨_, fun s v => .of_eq rfl, fun base _ _ => all_mk T (m eL) (fun_mk (st := sLaw) lL jL kL) (fun_mk (st := sStock) lS jS kS) (fun_mk (st := sDraw) lD jD kD) (fun_mk (st := sKinds) lK jK kK) (fun_mk (st := sMade) lM jM kM) (fun_mk (st := sFields) lF jF kF) (m eS) (m eD) (m eK) (m eM) (m eF) base⟩
end K0

set_option maxRecDepth 100000
open PySem PySem.W PyProof.Rows
set_option maxHeartbeats 0 in
theorem PySem.Challenge.cw_growfences_k00_errors_made_holds : PySem.Challenge.rw_growfences_k00_errors_made.Holds := by
  w_on; o_law; k_head; (case hw => w_witness2)
  k_fill
  refine L2.walk_ofG (l := PySem.Challenge.rw_growfences_k00_errors_made) (n := 63) (k := 4) (x := "_law_script") (sp := fun w => K0.spLaw _) rfl (by decide) rfl ⟨rfl, by decide, by decide⟩ (fun w h Y => PySem.W.kIn_of Y) ?F (fun _ _ a ns hl _ hS => ⟨a, ns, rfl, hS, hl, fun _ => rfl⟩)
  case F =>
    intro w mg fa h KX G hmg
    refine' K0.top_mk KX G hmg ?a0 ?a1 ?a2 ?a3 ?a4 ?a5 ?a6 ?a7 ?a8 ?a9 ?a10 ?a11 ?a12 ?a13 ?a14 ?a15 ?a16 ?aF ?c1 ?c2 ?c3 ?c4 ?c5 ?t11 ?t12 ?t13 ?t14 ?t15 ?t16 ?b0 ?b1 ?b2 ?b3 ?b4 ?b5 ?b6 ?b7 ?b8 ?b9 ?b10 ?eL ?lL ?jL ?kL ?eS ?lS ?jS ?kS ?eD ?lD ?jD ?kD ?eK ?lK ?jK ?kK ?eM ?lM ?jM ?kM ?eF ?lF ?jF ?kF
    (case a0 => k_is)
    (case a1 => k_is)
    (case a2 => k_is)
    (case a3 => k_is)
    (case a4 => k_is)
    (case a5 => k_is)
    (case a6 => k_is)
    (case a7 => k_is)
    (case a8 => k_is)
    (case a9 => k_is)
    (case a10 => k_is)
    (case a11 => k_is)
    (case a12 => k_is)
    (case a13 => k_is)
    (case a14 => k_is)
    (case a15 => k_is)
    (case a16 => k_is)
    (case aF => k_is)
    (case b0 => k_is)
    (case b1 => k_is)
    (case b2 => k_is)
    (case b3 => k_is)
    (case b4 => k_is)
    (case b5 => k_is)
    (case b6 => k_is)
    (case b7 => k_is)
    (case b8 => k_is)
    (case b9 => k_is)
    (case b10 => k_is)
    (case c1 => kernel_rfl)
    (case c2 => kernel_rfl)
    (case c3 => kernel_rfl)
    (case c4 => kernel_rfl)
    (case c5 => kernel_rfl)
    case t11 =>
      intro ms
      refine' PySem.ErX.itxt_mk PySem.ErX.fok_part ?x1 ?x2 ?x3 ?x4 ?x5 ?x6 ?x7 ?x8 ms ?x10 ?x11 ?y1 ?y2 ?y3 ?y4 ?y5 ?y6 ?y7
      (case x1 => k_is); (case x2 => kernel_rfl); (case x3 => k_is); (case x4 => k_is); (case x5 => k_is); (case x6 => k_is); (case x7 => k_is); (case x8 => k_is); (case x10 => k_is); (case x11 => first | rfl | kernel_rfl)
      (case y1 => k_is); (case y2 => k_is); (case y3 => k_is); (case y4 => first | rfl | kernel_rfl); (case y5 => first | rfl | kernel_rfl); (case y6 => first | rfl | kernel_rfl); (case y7 => k_is)
    case t12 =>
      intro ms
      refine' PySem.ErX.itxt_mk PySem.ErX.fok_index ?x1 ?x2 ?x3 ?x4 ?x5 ?x6 ?x7 ?x8 ms ?x10 ?x11 ?y1 ?y2 ?y3 ?y4 ?y5 ?y6 ?y7
      (case x1 => k_is); (case x2 => kernel_rfl); (case x3 => k_is); (case x4 => k_is); (case x5 => k_is); (case x6 => k_is); (case x7 => k_is); (case x8 => k_is); (case x10 => k_is); (case x11 => first | rfl | kernel_rfl)
      (case y1 => k_is); (case y2 => k_is); (case y3 => k_is); (case y4 => first | rfl | kernel_rfl); (case y5 => first | rfl | kernel_rfl); (case y6 => first | rfl | kernel_rfl); (case y7 => k_is)
    case t13 =>
      intro ms
      refine' PySem.ErX.itxt_mk PySem.ErX.fok_index ?x1 ?x2 ?x3 ?x4 ?x5 ?x6 ?x7 ?x8 ms ?x10 ?x11 ?y1 ?y2 ?y3 ?y4 ?y5 ?y6 ?y7
      (case x1 => k_is); (case x2 => kernel_rfl); (case x3 => k_is); (case x4 => k_is); (case x5 => k_is); (case x6 => k_is); (case x7 => k_is); (case x8 => k_is); (case x10 => k_is); (case x11 => first | rfl | kernel_rfl)
      (case y1 => k_is); (case y2 => k_is); (case y3 => k_is); (case y4 => first | rfl | kernel_rfl); (case y5 => first | rfl | kernel_rfl); (case y6 => first | rfl | kernel_rfl); (case y7 => k_is)
    case t14 =>
      intro ms
      refine' PySem.ErX.itxt_mk PySem.ErX.fok_index ?x1 ?x2 ?x3 ?x4 ?x5 ?x6 ?x7 ?x8 ms ?x10 ?x11 ?y1 ?y2 ?y3 ?y4 ?y5 ?y6 ?y7
      (case x1 => k_is); (case x2 => kernel_rfl); (case x3 => k_is); (case x4 => k_is); (case x5 => k_is); (case x6 => k_is); (case x7 => k_is); (case x8 => k_is); (case x10 => k_is); (case x11 => first | rfl | kernel_rfl)
      (case y1 => k_is); (case y2 => k_is); (case y3 => k_is); (case y4 => first | rfl | kernel_rfl); (case y5 => first | rfl | kernel_rfl); (case y6 => first | rfl | kernel_rfl); (case y7 => k_is)
    case t15 =>
      intro ms
      refine' PySem.ErX.itxt_mk PySem.ErX.fok_index ?x1 ?x2 ?x3 ?x4 ?x5 ?x6 ?x7 ?x8 ms ?x10 ?x11 ?y1 ?y2 ?y3 ?y4 ?y5 ?y6 ?y7
      (case x1 => k_is); (case x2 => kernel_rfl); (case x3 => k_is); (case x4 => k_is); (case x5 => k_is); (case x6 => k_is); (case x7 => k_is); (case x8 => k_is); (case x10 => k_is); (case x11 => first | rfl | kernel_rfl)
      (case y1 => k_is); (case y2 => k_is); (case y3 => k_is); (case y4 => first | rfl | kernel_rfl); (case y5 => first | rfl | kernel_rfl); (case y6 => first | rfl | kernel_rfl); (case y7 => k_is)
    case t16 =>
      intro ms
      refine' PySem.ErX.itxt_mk PySem.ErX.fok_word ?x1 ?x2 ?x3 ?x4 ?x5 ?x6 ?x7 ?x8 ms ?x10 ?x11 ?y1 ?y2 ?y3 ?y4 ?y5 ?y6 ?y7
      (case x1 => k_is); (case x2 => kernel_rfl); (case x3 => k_is); (case x4 => k_is); (case x5 => k_is); (case x6 => k_is); (case x7 => k_is); (case x8 => k_is); (case x10 => k_is); (case x11 => first | rfl | kernel_rfl)
      (case y1 => k_is); (case y2 => k_is); (case y3 => k_is); (case y4 => first | rfl | kernel_rfl); (case y5 => first | rfl | kernel_rfl); (case y6 => first | rfl | kernel_rfl); (case y7 => k_is)
    (case eL => k_is)
    (case lL => k_is)
    (case jL => k_is)
    (case kL => k_is)
    (case eS => k_is)
    (case lS => k_is)
    (case jS => k_is)
    (case kS => k_is)
    (case eD => k_is)
    (case lD => k_is)
    (case jD => k_is)
    (case kD => k_is)
    (case eK => k_is)
    (case lK => k_is)
    (case jK => k_is)
    (case kK => k_is)
    (case eM => k_is)
    (case lM => k_is)
    (case jM => k_is)
    (case kM => k_is)
    (case eF => k_is)
    (case lF => k_is)
    (case jF => k_is)
    (case kF => k_is)

