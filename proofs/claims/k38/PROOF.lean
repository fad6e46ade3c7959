import PyProof.Rows.All
import Wide.All
import OpenK.AllK
import Wide.FinOn
import HandS.ForMost
import HandS.Wide
import HandS.OwnEq
import HandS.Style
import HandS.ForExc
import HandS.ExcInit
import HandS.ExcIs
import HandS.ExcValue
import HandS.IsInst
import HandS.Exc
import HandS.ExcOwn
import HandS.TryOnly
import HandS.Words
import HandS.Walk
import HandS.WordsExc
import HandS.TupSets
import HandS.SortRule
import HandS.TupLe
import PyProof.ReprRoads
import PyProof.ReprLen
import HandS.Gcd
import HandS.Deep
import HandS.Dict
import HandS.Conv
import HandS.WideBits
import HandS.Base
import PyProof.LongRange
import PyProof.WalksMore
import PySem.Challenge.RW_growfences_k38_lines_that_meet_fences
set_option Elab.async false
set_option linter.all false
set_option maxRecDepth 100000
set_option maxHeartbeats 2000000
/-! a def's promise while no repr is under way (guards: none) -/
namespace L2
open PySem PySem.Spec PyProof.Rows
/-- as FnOk, where no guarded built-in is under way -/
structure FnG (P : Program) (w : World) (K : PySem.W.Frag) (mg : Str → Option Value) (base : Heap) (CX : CXT) (k : Nat) (f : Addr) (fd : FuncData) (ps : List Str) (sp : Sp) : Prop where
  len : ∀ vs H Q E, sp vs H Q E → vs.length = ps.length
  go : ∀ (A : Around) (outer : List Env) (s : Shared) (H : Hp) (args : Args) (us : List Value) (vs : List V) (Q : VK) (E : XK), A.guards = some [] → Room k A → Env0 P w K mg base A outer s H → BindsTo s fd args (ps.zip us) → Vals vs us → sp vs H Q E →
    codeAny (model P w) A (.call (.ref f) args) (CR CX outer P w H s Q E) s
section
variable {P : Program} {w : World} {K : PySem.W.Frag} {mg : Str → Option Value} {base : Heap} {CX : CXT} {k : Nat} {f : Addr} {fd : FuncData} {ps : List Str} {sp : Sp}
theorem FnOk.g (F : FnOk P w K mg base CX k f fd ps sp) : FnG P w K mg base CX k f fd ps sp := ⟨F.len, fun A outer s H args us vs Q E _ => F.run A outer s H args us vs Q E⟩
theorem FnG.mono {j : Nat} (F : FnG P w K mg base CX j f fd ps sp) (h : j ≤ k) : FnG P w K mg base CX k f fd ps sp := ⟨F.len, fun A outer s H args us vs Q E g hr => F.go A outer s H args us vs Q E g (hr.mono h)⟩
/-- from the body, met with the known guards -/
theorem Fun.okG {x qual : Str} {st : Stmt} {N : List Str} (F : Fun K x qual st f fd) (S : FnScope N ps (defScope st)) (len : ∀ vs H Q E, sp vs H Q E → vs.length = ps.length)
    (hb : ∀ (cdv : Value) (A : Around) (outer : List Env) (s : Shared) (H : Hp) (vs : List V) (Q : VK) (E : XK), (A.deeper (envOfC qual (defScope st) s.heap.objs.size f cdv)).guards = some [] → Room k (A.deeper (envOfC qual (defScope st) s.heap.objs.size f cdv)) → sp vs H Q E →
      ∃ t, PSs (cxOf CX0 P w K mg base N qual (defScope st) f cdv A outer s H E).nox (defBody st) t ∧ t { nx := fun _ H' => Q .non H', rt := Q } (start N vs) H) : FnG P w K mg base CX0 (k + 1) f fd ps sp := by
  obtain ⟨oc, od, kV, doc, pm, an, cdv, ct, osl, rfl, lk, hcd⟩ := F.ex
  refine ⟨len, fun A outer s H args us vs Q E hgd hr e0 hbi rel hsp => ?_⟩
  have sz := len _ _ _ _ hsp
  have kp : ∀ b o, base.get? b = some o → s.heap.get? b = some o := fun b o e => (e0.bs b o e).1
  have KX : K.In s.heap := e0.mod.kin.keeps kp
  refine codeAny_call_function hr.depth (KX _ _ lk) rfl S.co S.gen rfl (PySem.W.codeRec_of KX hcd) (hbi _ _ _ _ ?_)
  refine wpAny_newFunctionEnv_cells S.kind (fun y hy => ?_) fun env he s1 x => ?_
  · obtain ⟨n, v⟩ := y
    rcases S.par n (List.of_mem_zip hy).1 with q | q
    · exact .inl q
    · exact .inr ⟨q, PySem.W.cellsFrom_some _ _ _ (.inl q)⟩
  subst he
  refine ⟨(e0.mod.nolimit.keeps kp).keeps x.toInCall.keep, codeAny_func ?_⟩
  obtain ⟨t, ht, hq⟩ := hb cdv A outer s H vs Q E hgd (hr.deeper _) hsp
  have I0 : Inv (cxOf CX0 P w K mg base N qual (defScope st) f cdv A outer s H E) [] (start N vs) H s1 := inv_start S hr.hd e0 sz rel x
  refine wpAny_mono (ht.nox.run [] s1 (start N vs) H _ I0 hq) (fun fl s' z => ?_) fun e s' z => z
  match fl, z with
  | .ret u, ⟨v, σ', H', J, rv, q⟩ => exact ⟨v, H', J.os, J.bare, J.base, J.hok, rv, q⟩
  | .next, ⟨σ', H', J, q⟩ => exact ⟨.non, H', J.os, J.bare, J.base, J.hok, rfl, q⟩
  | .brk, ⟨_, _, _, q⟩ => exact q.elim
  | .cont, ⟨_, _, _, q⟩ => exact q.elim
end
section
variable {X : Cx} {CX : CXT} {k : Nat} {f : Addr} {fd : FuncData} {ps : List Str} {sp : Sp} {ds : List Value} {dvs : List V} {E : XK} {x : Str} {p pos : Pos} {e : Expr} {es : List Expr} {t : TA}
theorem run_fnG {pins : List (Addr × Obj)} {σ : St} {H : Hp} {s : Shared} {Q : VK} {us : List Value} {vs : List V} (F : FnG X.prog X.w X.K X.mg X.base CX k f fd ps sp) (hgd : X.A.guards = some []) (hr : Room k X.A) (hb : Binds X.K fd ps ds) (hd : Vals dvs ds) (hx : Passes CX X E)
    (I : Inv X pins σ H s) (r : Vals vs us) (h : sp (vs ++ dvs) H Q E) : wpAny (model X.prog X.w) X.A (call (.ref f) us) (EP X pins σ Q) X.xe s := by
  have rr : Vals (vs ++ dvs) (us ++ ds) := r.append hd
  have hl : (us ++ ds).length = ps.length := rr.length.symm.trans (F.len _ _ _ _ h)
  refine wpAny_call (codeAny_mono (F.go X.A X.stack s H ⟨us, []⟩ (us ++ ds) (vs ++ dvs) Q E hgd hr I.env0 (hb s us I.kIn hl) rr h) fun r s' z => ?_)
  match r, z with
  | .error e, z => exact hx pins σ H s e s' I z
  | .ok (.ret u), z => exact I.after z
  | .ok .next, z => exact z.elim
  | .ok .brk, z => exact z.elim
  | .ok .cont, z => exact z.elim
theorem pe_callG (F : FnG X.prog X.w X.K X.mg X.base CX k f fd ps sp) (hgd : X.A.guards = some []) (hr : Room k X.A) (hg : Gl X x) (hm : X.mg x = some (.ref f)) (hk : PySem.W.keepIn X.K (.ref f) = true) (hb : Binds X.K fd ps ds) (hd : Vals dvs ds) (hx : Passes CX X E)
    (ha : PA X (e :: es) t) (hdb : (x == ("__debug__" : Str)) = false := by decide) (he : starEach (e :: es) X.env = (false, eval e X.env) :: starEach es X.env := by rfl) (hpl : (backTo pos (starEach es X.env)).any (·.1) = false := by rfl) :
    PE X (.Call (.Name x p) (e :: es) [] pos) (tCall sp dvs E t) :=
  ⟨fun pins s σ H Q I h => wpAny_Call_Name_kw (ld_glob I hg hm (PySem.W.callWith_K (h₀ := X.base) I.ok.mod.kin hk (thn (ha.run pos pins s σ H _ I h) fun _ _ ⟨_, _, I1, r, q⟩ => ⟨I1.kIn, run_fnG F hgd hr hb hd hx I1 r q⟩) he hpl) hdb)⟩
end
/-- nothing but the script is tracked, and it is never written -/
theorem law_callG {P : Program} {w : World} {K : PySem.W.Frag} {mg mb : Str → Option Value} {k : Nat} {fa a : Addr} {fd : FuncData} {x : Str} {sp : Sp} {s₁ : Shared} {vs : List Value} {ns : List Int}
    (KX : K.In s₁.heap) (hns : s₁.heap.Ns mainGlobals mg) (hb : s₁.heap.Ns builtinsNs mb) (hbb : ∀ x : Str, x ≠ "__name__" → mb x = bootBuiltins x) (hlim : s₁.heap.NoLimit) (hg : s₁.gens = #[])
    (ha : s₁.heap.get? a = some { cls := .type "list", data := .seq vs.toArray }) (hi : IntsAre vs ns) (hl : ns.length ≤ sizeLine) (hr : Room k callerA)
    (F : ∀ base : Heap, K.In base → base.Ns mainGlobals mg → FnG P w K mg base CX0 k fa fd [x] sp) (hbind : ∀ (s : Shared) (u : Value), BindsTo s fd ⟨[u], []⟩ [(x, u)])
    (hsp : ∀ H : Hp, Only H → SqL K H a (ns.map V.int) → sp [.ref a] H (fun v _ => v = .bl true) fun _ _ _ => False) :
    codeAny (model P w) callerA (.call (.ref fa) ⟨[.ref a], []⟩) (fun r s' => r = .ok (.ret (.bool true)) ∧ OldK s₁.heap s'.heap ∧ s'.os = s₁.os ∧ AllBare s'.gens) s₁ := by
  have rv := vals_ints hi
  have run : ∀ H : Hp, Only H → (∀ b, H b ≠ none → b = a ∧ K.lookup a = none) → SqL K H a (ns.map V.int) → HOk P w H s₁.heap →
      codeAny (model P w) callerA (.call (.ref fa) ⟨[.ref a], []⟩) (fun r s' => r = .ok (.ret (.bool true)) ∧ OldK s₁.heap s'.heap ∧ s'.os = s₁.os ∧ AllBare s'.gens) s₁ := by
    intro H hO hA hS hok
    have free : ∀ {b : Addr}, b ≠ a → H b = none := fun {b} hb => Classical.byContradiction fun z => hb (hA b z).1
    have dictFree : ∀ {b : Addr} {o : Obj} {es : Array DictEntry} {ep : Nat}, s₁.heap.get? b = some o → o.data = .dict es ep → H b = none := fun {b o es ep} e1 e2 => free fun z => by
      rw [z] at e1
      rw [ha] at e1
      cases e1
      cases e2
    have down : ∀ {b : Addr} {m : Str → Option Value}, s₁.heap.Ns b m → (hidT s₁.heap H).Ns b m := fun {b m} n => by
      obtain ⟨o, es, ep, e1, e2, r⟩ := n
      exact ⟨o, es, ep, hidT_get e1 (dictFree e1 e2), e2, r⟩
    have kin : K.In (hidT s₁.heap H) := fun b o e => hidT_get (KX b o e) (Classical.byContradiction fun z => by
      have y := hA b z
      rw [y.1, y.2] at e
      cases e)
    have e0 : Env0 P w K mg (hidT s₁.heap H) callerA [] s₁ H := ⟨rfl, ⟨kin, down hns, ⟨mb, down hb, hbb⟩, by
      obtain ⟨mc, h1, h2⟩ := hlim
      exact ⟨mc, down h1, h2⟩⟩, fun _ _ e => of_hidT e, Nat.le_of_eq (hidT_size _ _), trivial, fun b hb => absurd (show b ∈ ([] : List Addr) from hb) (by simp), hok, .of_eq hg⟩
    refine codeAny_mono ((F _ kin (down hns)).go callerA [] s₁ H ⟨[.ref a], []⟩ [.ref a] [.ref a] _ _ rfl hr e0 (hbind s₁ (.ref a)) (.cons rfl .nil) (hsp H hO hS)) fun r s' z => ?_
    match r, z with
    | .error e, z => exact z.elim
    | .ok .next, z => exact z.elim
    | .ok .brk, z => exact z.elim
    | .ok .cont, z => exact z.elim
    | .ok (.ret u), ⟨v, H', os, bare, un, hok', rel, hv⟩ =>
      have hv' : v = .bl true := hv
      subst hv'
      obtain rfl : u = Value.bool true := rel
      refine ⟨rfl, OldK.of_keep fun b o e => ?_, os, bare⟩
      rcases hO b with n | ⟨ob, xs, n⟩
      · exact un.keep b o e n (by simp [frs]) (by simp)
      · have y1 := (hok b _ n).1
        have y2 := (hok' b _ (un.frzs b ob _ n)).1
        rw [e] at y1
        cases y1
        exact y2
  have zl : (ns.map V.int).length ≤ sizeLine := by rw [List.length_map]; exact hl
  by_cases hk : K.lookup a = none
  · refine run (fun b => if b = a then some (.frz { cls := .type "list", data := .seq vs.toArray } (.lst (ns.map V.int))) else none) (fun b => ?_) (fun b z => ?_) (.inl (.inr ⟨_, if_pos rfl⟩)) fun b u z => ?_
    · by_cases e : b = a
      · exact .inr ⟨_, _, if_pos e⟩
      · exact .inl (if_neg e)
    · by_cases e : b = a
      · exact ⟨e, hk⟩
      · exact absurd (if_neg e) z
    · by_cases e : b = a
      · subst e
        cases (if_pos rfl).symm.trans z
        exact ⟨ha, zl, vs, _, rv, ha⟩
      · cases (if_neg e).symm.trans z
  · cases q : K.lookup a with
    | none => exact absurd q hk
    | some o =>
      have e := (KX a o q).symm.trans ha
      cases e
      exact run (fun _ => none) (fun _ => .inl rfl) (fun b z => absurd rfl z) (.inr ⟨_, vs.toArray, _, q, rfl, rfl, rfl, by rw [List.size_toArray, hi.length]; exact hl, by simpa using rv⟩) fun b u z => nomatch z
theorem walk_ofG {l : PySem.W.OpenLaw} {n k : Nat} {q : Program} {loose : List Str} {XP : (Str → Option Value) → Heap → Prop} {YP : World → Heap → Prop} {d : DefRec} {K : Params → PySem.W.Frag} {sp : World → Sp} {x : Str}
    (hn : l.most = some n) (hn2 : n ≤ sizeLine) (hdf : d.params.defaults = []) (hr : Room k callerA) (hY : ∀ (w : World) (h : Heap), YP w h → (K w.params).In h)
    (F : ∀ (w : World) (mg : Str → Option Value) (fa : Addr) (h : Heap), (K w.params).In h → h.Ns mainGlobals mg → mg d.name = some (.ref fa) → ∃ fd : FuncData, (∀ (s : Shared) (u : Value), BindsTo s fd ⟨[u], []⟩ [(x, u)]) ∧
        ∀ base : Heap, (K w.params).In base → base.Ns mainGlobals mg → FnG l.prog w (K w.params) mg base CX0 k fa fd [x] (sp w))
    (hsp : ∀ (w : World) (H : Hp) (a : Addr) (ns : List Int), ns.length ≤ n → Only H → SqL (K w.params) H a (ns.map V.int) → sp w [.ref a] H (fun v _ => v = .bl true) fun _ _ _ => False) :
    PySem.W.WalkO q loose XP YP l.row.toRowW d [] (fun f vs => PySem.call f vs) :=
  Att.attach_call hn hdf fun w s₀ s₁ mg mb fa o pm cd doc a vs ns G Y ho hd hcd hmg hobj hints hlen hg => by
    obtain ⟨fd, hb, hF⟩ := F w mg fa _ (hY w _ Y) G.T.g hmg
    exact law_callG (hY w _ Y) G.T.g G.T.b G.T.builtins G.T.nolimit hg hobj hints (Nat.le_trans hlen hn2) hr hF hb fun H hO hS => hsp w H a ns hlen hO hS
end L2
set_option Elab.async false
set_option linter.all false
set_option maxRecDepth 100000
set_option maxHeartbeats 1000000
set_option exponentiation.threshold 20000
namespace L2
open PySem PySem.Spec PyProof.Rows
/-! ** of greater ints -/
def CPowW (i j : Int) : Prop := 0 ≤ j ∧ ((i.natAbs.log2 + 1 : Nat) : Int) * j ≤ 2 ^ 27
theorem op_powW {X : Cx} : OpR X (binaryOp .Pow) (rI CPowW fun i j => .int (i ^ j.toNat)) := opI fun i j _ _ _ _ _ hc q => by
  refine PyProof.Rows.pow_int hc.1 (Int.le_trans ?_ hc.2) q
  refine Int.mul_le_mul_of_nonneg_right ?_ hc.1
  unfold Builtin.Int.intBits
  split <;> omega
theorem pow_ok {i j : Int} {b : Nat} (hj : 0 ≤ j) (hj2 : j ≤ 3) (hb : i.natAbs < 2 ^ b) (h0 : 0 < b) (h1 : b ≤ 1000) : CPowW i j := by
  have h := PySem.Flt.log2_lt_of h0 hb
  refine ⟨hj, ?_⟩
  have : ((i.natAbs.log2 + 1 : Nat) : Int) ≤ 1000 := by omega
  have h3 : ((i.natAbs.log2 + 1 : Nat) : Int) * j ≤ 1000 * 3 := Int.mul_le_mul this hj2 hj (by decide)
  exact Int.le_trans h3 (by decide)
/-! heaps -/
theorem same_new {H : Hp} {p : Addr} {o : HO} (h : H p = none) : Same H (upd H p o) := fun b x e => by
  rw [upd_ne (ne_of_none e h)]
  exact e
theorem cut_to (xs : List V) (n : Nat) : cutV xs none (some (n : Int)) = xs.take n := by
  unfold cutV
  rw [HT.sIx_none, show HT.sIx xs.length xs.length (some (n : Int)) = min n xs.length from HT.sIx_nat xs.length xs.length n, List.drop_zero, Nat.sub_zero, ← List.take_take, List.take_length]
theorem cut_last (xs : List V) : cutV xs none (some (-1)) = xs.dropLast := by
  unfold cutV
  rw [HT.sIx_none, List.drop_zero, Nat.sub_zero]
  have e : HT.sIx xs.length xs.length (some (-1)) = xs.length - 1 := by
    unfold HT.sIx
    simp only
    split <;> omega
  rw [e, List.dropLast_eq_take]
/-- all but what stands at p is as it was -/
def SameX (p : Addr) (H H' : Hp) : Prop := ∀ b o, b ≠ p → H b = some o → H' b = some o
theorem Same.x {p : Addr} {H H' : Hp} (s : Same H H') : SameX p H H' := fun b o _ e => s b o e
theorem SameX.trans {p : Addr} {H H1 H2 : Hp} (a : SameX p H H1) (b : SameX p H1 H2) : SameX p H H2 := fun c o n e => b c o n (a c o n e)
theorem SameX.put {p : Addr} {H : Hp} {o : HO} : SameX p H (upd H p o) := fun b o' n e => by
  rw [upd_ne n]
  exact e
/-- p is new: what was there before is as it was -/
theorem SameX.same {p : Addr} {H H' : Hp} (s : SameX p H H') (n : H p = none) : Same H H' := fun b o e => s b o (ne_of_none e n) e
theorem Same.seqT {K : PySem.W.Frag} {H H' : Hp} {a : Addr} {xs : List V} (e : Same H H') (h : SqT K H a xs) : SqT K H' a xs := SqT.ext h e
theorem hu_of64 {A : Around} {k : Nat} (hr : Room k A) : A.units + 64 < cLine := by
  have := hr.un
  omega
theorem yesT {σ : L2.St} {H : Hp} {R N : Hp → Prop} (h : R H) : tYes σ H fun b H3 => if b = true then R H3 else N H3 := by
  show if true = true then R H else N H
  rw [if_pos rfl]
  exact h
theorem sz20 {n : Nat} (h : n ≤ 4096) : n ≤ sizeLine := Nat.le_trans h (by decide)
/-- a statement that is never met -/
theorem ps_no {X : Cx} {st : Stmt} : PS X st (fun _ _ _ => False) := ⟨fun _ _ _ _ _ _ h => h.elim⟩
end L2
namespace L2
open PySem PySem.Spec PyProof.Rows
theorem pe_and1 {X : Cx} {a : Expr} {t : TE} {pos : Pos} (ha : PE X a t) : PE X (.BoolOp .And [a] pos) t := ⟨fun pins s σ H Q I h => by
  have z := ha.run pins s σ H Q I h
  first
    | exact z
    | (unfold eval; exact z)⟩
theorem pe_or1 {X : Cx} {a : Expr} {t : TE} {pos : Pos} (ha : PE X a t) : PE X (.BoolOp .Or [a] pos) t := ⟨fun pins s σ H Q I h => by
  have z := ha.run pins s σ H Q I h
  first
    | exact z
    | (unfold eval; exact z)⟩
/-- a tuple, a list that is read: its type -/
theorem ty_tup {K : PySem.W.Frag} {H : Hp} {a : Addr} {xs : List V} (h : SqT K H a xs) : TyX K H (.ref a) (.type "tuple") := by
  rcases h with (h | ⟨o, h⟩) | ⟨o, its, n, h1, h2, _⟩
  · exact .base (.tup h)
  · exact .fTuple h
  · exact .kTuple h1 h2
theorem ty_lst {K : PySem.W.Frag} {H : Hp} {a : Addr} {xs : List V} (h : SqL K H a xs) : TyX K H (.ref a) (.type "list") := by
  rcases h with (h | ⟨o, h⟩) | ⟨o, its, n, h1, h2, _⟩
  · exact .base (.lst h)
  · exact .base (.frz h)
  · exact .kList h1 h2
end L2
set_option linter.all false
/-! the plane: cross products, the order by x and then y, a chain that turns left -/
namespace Hull
abbrev P := Int × Int
/-- the cross product of b - a and c - a -/
def turn (a b c : P) : Int := (b.1 - a.1) * (c.2 - a.2) - (b.2 - a.2) * (c.1 - a.1)
def Lt (a b : P) : Prop := a.1 < b.1 ∨ (a.1 = b.1 ∧ a.2 < b.2)
instance (a b : P) : Decidable (Lt a b) := by unfold Lt; exact inferInstance
theorem Lt.irrefl {a : P} (h : Lt a a) : False := by unfold Lt at h; omega
theorem Lt.trans {a b c : P} (h : Lt a b) (g : Lt b c) : Lt a c := by unfold Lt at *; omega
theorem Lt.ne {a b : P} (h : Lt a b) : a ≠ b := fun e => by subst e; exact h.irrefl
theorem Lt.asymm {a b : P} (h : Lt a b) (g : Lt b a) : False := (h.trans g).irrefl
theorem Lt.total (a b : P) : Lt a b ∨ a = b ∨ Lt b a := by
  unfold Lt
  by_cases h : a.1 < b.1
  · exact .inl (.inl h)
  · by_cases h2 : b.1 < a.1
    · exact .inr (.inr (.inl h2))
    · have e : a.1 = b.1 := by omega
      by_cases g : a.2 < b.2
      · exact .inl (.inr ⟨e, g⟩)
      · by_cases g2 : b.2 < a.2
        · exact .inr (.inr (.inr ⟨e.symm, g2⟩))
        · exact .inr (.inl (Prod.ext e (by omega)))
/-- vectors -/
def X (u v : P) : Int := u.1 * v.2 - u.2 * v.1
def Pos (u : P) : Prop := 0 < u.1 ∨ (u.1 = 0 ∧ 0 < u.2)
def sub (b a : P) : P := (b.1 - a.1, b.2 - a.2)
theorem pos_sub {a b : P} : Pos (sub b a) ↔ Lt a b := by unfold Pos sub Lt; constructor <;> intro h <;> dsimp only at * <;> omega
theorem turn_eq (a b c : P) : turn a b c = X (sub b a) (sub c a) := rfl
theorem X_id1 (u v w : P) : v.1 * X u w = u.1 * X v w + w.1 * X u v := by
  unfold X
  grind
/-- three vectors of the right half of the plane -/
theorem X_trans {u v w : P} (hu : Pos u) (hv : Pos v) (hw : Pos w) (h1 : 0 ≤ X u v) (h2 : 0 ≤ X v w) : 0 ≤ X u w := by
  rcases hv with hv | ⟨hv, hv2⟩
  · have u0 : 0 ≤ u.1 := by unfold Pos at hu; omega
    have w0 : 0 ≤ w.1 := by unfold Pos at hw; omega
    have e := X_id1 u v w
    have a1 := Int.mul_nonneg u0 h2
    have a2 := Int.mul_nonneg w0 h1
    refine Int.not_lt.mp fun z => ?_
    have z2 : v.1 * X u w < 0 := Int.mul_neg_of_pos_of_neg hv z
    omega
  · have h3 : 0 ≤ - (v.2 * w.1) := by
      unfold X at h2
      rw [hv, Int.zero_mul] at h2
      omega
    have w1 : w.1 = 0 := by
      have w0 : 0 ≤ w.1 := by unfold Pos at hw; omega
      refine Int.le_antisymm (Int.not_lt.mp fun z => ?_) w0
      have := Int.mul_pos hv2 z
      omega
    have w2 : 0 < w.2 := by unfold Pos at hw; omega
    have u0 : 0 ≤ u.1 := by unfold Pos at hu; omega
    unfold X
    rw [w1, Int.mul_zero, Int.sub_zero]
    exact Int.mul_nonneg u0 (Int.le_of_lt w2)
theorem X_trans_lt {u v w : P} (hu : Pos u) (hv : Pos v) (hw : Pos w) (h1 : 0 < X u v) (h2 : 0 < X v w) : 0 < X u w := by
  rcases hv with hv | ⟨hv, hv2⟩
  · have w0 : 0 ≤ w.1 := by unfold Pos at hw; omega
    have u0 : 0 < u.1 := by
      rcases hu with hu | ⟨hu, hu2⟩
      · exact hu
      · exfalso
        unfold X at h1
        rw [hu, Int.zero_mul] at h1
        have := Int.mul_pos hu2 hv
        omega
    have e := X_id1 u v w
    have a1 := Int.mul_pos u0 h2
    have a2 := Int.mul_nonneg w0 (Int.le_of_lt h1)
    refine Int.not_le.mp fun z => ?_
    have z2 : v.1 * X u w ≤ v.1 * 0 := Int.mul_le_mul_of_nonneg_left z (Int.le_of_lt hv)
    omega
  · exfalso
    unfold X at h2
    rw [hv, Int.zero_mul] at h2
    have w0 : 0 ≤ w.1 := by unfold Pos at hw; omega
    have := Int.mul_nonneg (Int.le_of_lt hv2) w0
    omega
/-! algebra of turns -/
theorem turn_cyc (a b c : P) : turn a b c = turn b c a := by unfold turn; grind
theorem turn_swap (a b c : P) : turn a b c = - turn b a c := by unfold turn; grind
theorem turn_aab (a b : P) : turn a a b = 0 := by simp [turn]
theorem turn_aba (a b : P) : turn a b a = 0 := by simp [turn]
theorem turn_abb (a b : P) : turn a b b = 0 := by unfold turn; rw [Int.mul_comm]; omega
/-- turn a b c by the directions a to b, b to c -/
theorem turn_dir (a b c : P) : turn a b c = X (sub b a) (sub c b) := by
  unfold turn X sub
  grind
end Hull
set_option linter.all false
namespace Hull
/-! the chain, its top first -/
def pop (r : P) : List P → List P
  | b :: a :: rest => if turn a b r ≤ 0 then pop r (a :: rest) else b :: a :: rest
  | st => st
def push (st : List P) (r : P) : List P := r :: pop r st
def half (ps : List P) : List P := ps.foldl push []
/-- over each edge, from a to b in b :: a :: .. -/
def Edges (Q : P → P → Prop) : List P → Prop
  | b :: a :: rest => Q a b ∧ Edges Q (a :: rest)
  | _ => True
theorem Edges.imp {Q R : P → P → Prop} (h : ∀ a b, Q a b → R a b) : ∀ {l : List P}, Edges Q l → Edges R l
  | [], _ => trivial
  | [_], _ => trivial
  | b :: a :: rest, e => ⟨h _ _ e.1, Edges.imp h e.2⟩
theorem Edges.both {Q R : P → P → Prop} : ∀ {l : List P}, Edges Q l → Edges R l → Edges (fun a b => Q a b ∧ R a b) l
  | [], _, _ => trivial
  | [_], _, _ => trivial
  | b :: a :: rest, e, f => ⟨⟨e.1, f.1⟩, Edges.both e.2 f.2⟩
/-- each edge goes up in the order, and each one turns left of all before it -/
def Conv : List P → Prop
  | b :: a :: rest => Lt a b ∧ Edges (fun p q => 0 < X (sub q p) (sub b a)) (a :: rest) ∧ Conv (a :: rest)
  | _ => True
theorem Conv.up : ∀ {l : List P}, Conv l → Edges Lt l
  | [], _ => trivial
  | [_], _ => trivial
  | b :: a :: rest, c => ⟨c.1, Conv.up c.2.2⟩
/-- all points of S lie on the left of each edge -/
abbrev Left (S : List P) (l : List P) : Prop := Edges (fun p q => ∀ s ∈ S, 0 ≤ turn p q s) l
theorem turn_add (p q e r : P) : turn p q r = turn p q e + X (sub q p) (sub r e) := by unfold turn X sub; grind
structure Inv (S : List P) (m b : P) (st : List P) : Prop where
  conv : Conv st
  left : Left S st
  mem : ∀ e ∈ st, e ∈ S
  bot : st.getLast? = some m
  top : st.head? = some b
theorem pop_inv {S : List P} {m r : P} : ∀ {st : List P} {b : P}, Inv S m b st → (∀ e ∈ st, Lt e r) → (∀ s ∈ S, Lt b s → 0 ≤ turn b r s) →
    ∃ e, Inv S m e (pop r st) ∧ (∀ s ∈ S, Lt e s → 0 ≤ turn e r s) ∧ (∀ a rest, pop r st = e :: a :: rest → 0 < turn a e r) ∧ ∀ x ∈ pop r st, x ∈ st
  | [], b, I, _, _ => by
    have := I.top
    cases this
  | [x], b, I, hr, ht => by
    have e : x = b := Option.some.inj I.top
    subst e
    exact ⟨x, I, ht, fun a rest h => by simp [pop] at h, fun y hy => hy⟩
  | b' :: a :: rest, b, I, hr, ht => by
    have e : b' = b := Option.some.inj I.top
    subst e
    by_cases h : turn a b' r ≤ 0
    · have ep : pop r (b' :: a :: rest) = pop r (a :: rest) := by simp [pop, h]
      have J : Inv S m a (a :: rest) := ⟨I.conv.2.2, I.left.2, fun e he => I.mem e (List.mem_cons_of_mem _ he), by have := I.bot; simpa using this, rfl⟩
      have ta : ∀ s ∈ S, Lt a s → 0 ≤ turn a r s := fun s hs hl => by
        have h1 : Pos (sub r a) := pos_sub.mpr (hr a (by simp))
        have h2 : Pos (sub b' a) := pos_sub.mpr I.conv.1
        have h3 : Pos (sub s a) := pos_sub.mpr hl
        have k1 : 0 ≤ X (sub r a) (sub b' a) := by
          have : turn a b' r = X (sub b' a) (sub r a) := rfl
          have e2 : X (sub r a) (sub b' a) = - X (sub b' a) (sub r a) := by unfold X; grind
          omega
        have k2 : 0 ≤ X (sub b' a) (sub s a) := I.left.1 s hs
        exact X_trans h1 h2 h3 k1 k2
      obtain ⟨e, K1, K2, K3, K4⟩ := pop_inv J (fun e he => hr e (List.mem_cons_of_mem _ he)) ta
      rw [ep]
      exact ⟨e, K1, K2, K3, fun x hx => List.mem_cons_of_mem _ (K4 x hx)⟩
    · have ep : pop r (b' :: a :: rest) = b' :: a :: rest := by simp [pop, h]
      rw [ep]
      refine ⟨b', I, ht, fun a' rest' q => ?_, fun x hx => hx⟩
      cases q
      omega
theorem push_inv {S : List P} {m b r : P} {st : List P} (I : Inv S m b st) (hr : ∀ s ∈ S, Lt s r) (hb : ∀ s ∈ S, ¬ Lt b s) (hm : ∀ s ∈ S, ¬ Lt s m) : Inv (r :: S) m r (push st r) := by
  obtain ⟨e, J, t, ex, sub'⟩ := pop_inv I (fun e he => hr e (I.mem e he)) (fun s hs hl => absurd hl (hb s hs))
  have heS : e ∈ S := by
    have h := J.top
    cases q : pop r st with
    | nil => rw [q] at h; cases h
    | cons x l =>
      rw [q] at h
      have : x = e := Option.some.inj h
      subst this
      exact J.mem x (by rw [q]; simp)
  have her := hr e heS
  show Inv (r :: S) m r (r :: pop r st)
  cases q : pop r st with
  | nil =>
    have h := J.top
    rw [q] at h
    cases h
  | cons x l =>
    rw [q] at J ex
    have xe : x = e := Option.some.inj J.top
    subst xe
    -- each edge so far against the new one
    have dirs : Edges (fun p q => 0 < X (sub q p) (sub r x)) (x :: l) := by
      cases l with
      | nil => trivial
      | cons a rest =>
        have g : 0 < X (sub x a) (sub r x) := by
          rw [← turn_dir]
          exact ex a rest rfl
        refine ⟨g, ?_⟩
        have up := J.conv.2.2.up
        exact Edges.imp (fun p q h => X_trans_lt (pos_sub.mpr h.2) (pos_sub.mpr J.conv.1) (pos_sub.mpr her) h.1 g) (Edges.both J.conv.2.1 up)
    refine ⟨⟨her, dirs, J.conv⟩, ⟨fun s hs => ?_, ?_⟩, fun y hy => ?_, ?_, rfl⟩
    · -- the new edge
      rcases List.mem_cons.mp hs with rfl | hs
      · rw [turn_abb]
        exact Int.le_refl _
      · rcases Lt.total x s with h | h | h
        · exact t s hs h
        · rw [← h, turn_aba]
          exact Int.le_refl _
        · cases l with
          | nil =>
            have : x = m := Option.some.inj J.bot
            subst this
            exact absurd h (hm s hs)
          | cons a rest =>
            have g : 0 < X (sub x a) (sub r x) := by
              rw [← turn_dir]
              exact ex a rest rfl
            have g2 : 0 ≤ turn a x s := J.left.1 s hs
            have k1 : 0 ≤ X (sub x s) (sub x a) := by
              have : X (sub x s) (sub x a) = turn a x s := by unfold X sub turn; grind
              omega
            have k := X_trans (pos_sub.mpr h) (pos_sub.mpr J.conv.1) (pos_sub.mpr her) k1 (Int.le_of_lt g)
            have : turn x r s = X (sub x s) (sub r x) := by unfold X sub turn; grind
            omega
    · -- the old edges
      refine Edges.imp (fun p q' h => ?_) (Edges.both J.left dirs)
      intro s hs
      rcases List.mem_cons.mp hs with rfl | hs
      · rw [turn_add p q' x s]
        have := h.1 x heS
        omega
      · exact h.1 s hs
    · rcases List.mem_cons.mp hy with rfl | hy
      · exact List.mem_cons_self
      · exact List.mem_cons_of_mem _ (J.mem y hy)
    · have := J.bot
      simp only [List.getLast?_cons_cons]
      exact this
end Hull
set_option linter.all false
namespace Hull
/-! the whole lower chain -/
structure Chain (S : List P) (m M : P) (st : List P) : Prop extends Inv S m M st where
  least : ∀ s ∈ S, ¬ Lt s m
  most : ∀ s ∈ S, ¬ Lt M s
theorem fold_chain {m : P} : ∀ (rest : List P) {S st : List P} {b : P}, Chain S m b st → m ∈ S → (∀ s ∈ S, ∀ x ∈ rest, Lt s x) → rest.Pairwise Lt →
    ∃ S' b', Chain S' m b' (rest.foldl push st) ∧ (∀ x, x ∈ S' ↔ x ∈ S ∨ x ∈ rest)
  | [], S, st, b, C, _, _, _ => ⟨S, b, C, fun x => by simp⟩
  | r :: rest, S, st, b, C, hm, h, hp => by
    have hr : ∀ s ∈ S, Lt s r := fun s hs => h s hs r (by simp)
    have J := push_inv C.toInv hr C.most C.least
    have D : Chain (r :: S) m r (push st r) := ⟨J, fun s hs => by
      rcases List.mem_cons.mp hs with rfl | hs
      · exact fun z => (z.trans (hr m hm)).irrefl
      · exact C.least s hs, fun s hs => by
      rcases List.mem_cons.mp hs with rfl | hs
      · exact fun z => z.irrefl
      · exact fun z => (z.trans (hr s hs)).irrefl⟩
    obtain ⟨S', b', K, K2⟩ := fold_chain rest D (List.mem_cons_of_mem _ hm) (fun s hs x hx => by
      rcases List.mem_cons.mp hs with rfl | hs
      · exact (List.pairwise_cons.mp hp).1 x hx
      · exact h s hs x (List.mem_cons_of_mem _ hx)) (List.pairwise_cons.mp hp).2
    refine ⟨S', b', K, fun x => ?_⟩
    rw [K2]
    simp only [List.mem_cons]
    constructor
    · rintro ((h | h) | h)
      · exact .inr (.inl h)
      · exact .inl h
      · exact .inr (.inr h)
    · rintro (h | h | h)
      · exact .inl (.inr h)
      · exact .inl (.inl h)
      · exact .inr h
theorem half_chain {m : P} {rest : List P} (h : (m :: rest).Pairwise Lt) : ∃ S M, Chain S m M (half (m :: rest)) ∧ ∀ x, x ∈ S ↔ x ∈ m :: rest := by
  have C0 : Chain [m] m m [m] := ⟨⟨trivial, trivial, fun e he => he, rfl, rfl⟩, fun s hs => by rw [List.mem_singleton.mp hs]; exact fun z => z.irrefl, fun s hs => by rw [List.mem_singleton.mp hs]; exact fun z => z.irrefl⟩
  obtain ⟨S, M, C, e⟩ := fold_chain rest C0 (by simp) (fun s hs x hx => by rw [List.mem_singleton.mp hs]; exact (List.pairwise_cons.mp h).1 x hx) (List.pairwise_cons.mp h).2
  refine ⟨S, M, C, fun x => ?_⟩
  rw [e]
  simp
/-! turned about -/
def neg (p : P) : P := (-p.1, -p.2)
theorem neg_neg (p : P) : neg (neg p) = p := by unfold neg; simp
theorem neg_inj {p q : P} (h : neg p = neg q) : p = q := by rw [← neg_neg p, h, neg_neg]
theorem lt_neg {a b : P} : Lt (neg b) (neg a) ↔ Lt a b := by unfold Lt neg; dsimp only; omega
theorem turn_neg (a b c : P) : turn (neg a) (neg b) (neg c) = turn a b c := by unfold turn neg; grind
theorem pop_neg (r : P) : ∀ st : List P, pop (neg r) (st.map neg) = (pop r st).map neg
  | [] => rfl
  | [_] => rfl
  | b :: a :: rest => by
    have ih := pop_neg r (a :: rest)
    simp only [List.map_cons] at ih ⊢
    unfold pop
    rw [turn_neg]
    split
    · exact ih
    · rfl
theorem half_neg (ps : List P) : half (ps.map neg) = (half ps).map neg := by
  have h : ∀ (l : List P) (st : List P), (l.map neg).foldl push (st.map neg) = (l.foldl push st).map neg := by
    intro l
    induction l with
    | nil => intro st; rfl
    | cons r l ih =>
      intro st
      show (l.map neg).foldl push (push (st.map neg) (neg r)) = (l.foldl push (push st r)).map neg
      have e : push (st.map neg) (neg r) = (push st r).map neg := by
        unfold push
        rw [pop_neg]
        rfl
      rw [e, ih]
  exact h ps []
/-! edges by places -/
theorem Edges.at {Q : P → P → Prop} : ∀ {pre : List P} {b a : P} {post : List P}, Edges Q (pre ++ b :: a :: post) → Q a b
  | [], _, _, _, h => h.1
  | [x], _, _, _, h => Edges.at (pre := []) h.2
  | x :: y :: pre, _, _, _, h => Edges.at (pre := y :: pre) h.2
theorem Conv.at : ∀ {pre : List P} {c b a : P} {post : List P}, Conv (pre ++ c :: b :: a :: post) → 0 < X (sub b a) (sub c b)
  | [], _, _, _, _, h => h.2.1.1
  | [x], _, _, _, _, h => Conv.at (pre := []) h.2.2
  | x :: y :: pre, _, _, _, _, h => Conv.at (pre := y :: pre) h.2.2
theorem Conv.down : ∀ {l : List P}, Conv l → l.Pairwise fun x y => Lt y x
  | [], _ => .nil
  | [_], _ => List.pairwise_singleton _ _
  | b :: a :: rest, c => by
    have ih := Conv.down c.2.2
    refine List.pairwise_cons.mpr ⟨fun y hy => ?_, ih⟩
    rcases List.mem_cons.mp hy with rfl | hy
    · exact c.1
    · exact ((List.pairwise_cons.mp ih).1 y hy).trans c.1
theorem last_cases (l : List P) : l = [] ∨ ∃ l' x, l = l' ++ [x] := by
  cases h : l.reverse with
  | nil => exact .inl (List.reverse_eq_nil_iff.mp h)
  | cons x r => exact .inr ⟨r.reverse, x, by rw [← List.reverse_reverse l, h]; simp⟩
/-! no third corner lies on the line of an edge -/
theorem strict {S T : List P} {m M : P} {L V : List P} (C : Chain S m M L) (D : Chain T (neg M) (neg m) V) (hT : ∀ x, x ∈ T ↔ neg x ∈ S) {pre post : List P} {p q c : P} (hL : L = pre ++ q :: p :: post) (hc : c ∈ L ∨ neg c ∈ V) (cp : c ≠ p) (cq : c ≠ q) : 0 < turn p q c := by
  have inS : ∀ x ∈ L, x ∈ S := C.mem
  have inT : ∀ x, neg x ∈ V → x ∈ S := fun x hx => by
    have := (hT (neg x)).mp (D.mem _ hx)
    rwa [neg_neg] at this
  have cS : c ∈ S := hc.elim (inS c) (inT c)
  have pS : p ∈ S := inS p (by rw [hL]; simp)
  have qS : q ∈ S := inS q (by rw [hL]; simp)
  have ge : 0 ≤ turn p q c := (Edges.at (by rw [← hL]; exact C.left) : ∀ s ∈ S, 0 ≤ turn p q s) c cS
  have pq : Lt p q := (Edges.at (by rw [← hL]; exact C.conv.up) : Lt p q)
  have srt := C.conv.down
  rcases Int.lt_or_eq_of_le ge with z | z
  · exact z
  exfalso
  have z0 : X (sub q p) (sub c p) = 0 := z.symm
  rcases Lt.total q c with h | h | h
  · -- beyond q
    have qM : q ≠ M := fun e => C.most c cS (e ▸ h)
    rcases last_cases pre with rfl | ⟨pre, q', rfl⟩
    · have := C.top
      rw [hL] at this
      exact qM (Option.some.inj this)
    · have hL' : L = pre ++ q' :: q :: p :: post := by rw [hL]; simp
      have k1 : 0 < X (sub q p) (sub q' q) := Conv.at (by rw [← hL']; exact C.conv)
      have k2 : 0 ≤ turn q q' c := (Edges.at (by rw [← hL']; exact C.left) : ∀ s ∈ S, 0 ≤ turn q q' s) c cS
      have qq' : Lt q q' := (Edges.at (by rw [← hL']; exact C.conv.up) : Lt q q')
      have k3 : 0 ≤ X (sub c q) (sub q p) := by
        have : X (sub c q) (sub q p) = - X (sub q p) (sub c p) := by unfold X sub; grind
        omega
      have k4 := X_trans (pos_sub.mpr qq') (pos_sub.mpr h) (pos_sub.mpr pq) k2 k3
      have : X (sub q' q) (sub q p) = - X (sub q p) (sub q' q) := by unfold X; grind
      omega
  · exact cq h.symm
  · rcases Lt.total c p with g | g | g
    · -- ahead of p
      have pm : p ≠ m := fun e => C.least c cS (e ▸ g)
      cases post with
      | nil =>
        have := C.bot
        rw [hL] at this
        simp at this
        exact pm this
      | cons p' post =>
        have hL' : L = (pre ++ [q]) ++ p :: p' :: post := by rw [hL]; simp
        have k1 : 0 < X (sub p p') (sub q p) := Conv.at (by rw [← hL]; exact C.conv)
        have k2 : 0 ≤ turn p' p c := (Edges.at (by rw [← hL']; exact C.left) : ∀ s ∈ S, 0 ≤ turn p' p s) c cS
        have pp' : Lt p' p := (Edges.at (by rw [← hL']; exact C.conv.up) : Lt p' p)
        have k3 : 0 ≤ X (sub p c) (sub p p') := by
          have : X (sub p c) (sub p p') = turn p' p c := by unfold X sub turn; grind
          omega
        have k4 : 0 ≤ X (sub q p) (sub p c) := by
          have : X (sub q p) (sub p c) = - X (sub q p) (sub c p) := by unfold X sub; grind
          omega
        have k5 := X_trans (pos_sub.mpr pq) (pos_sub.mpr g) (pos_sub.mpr pp') k4 k3
        have : X (sub q p) (sub p p') = - X (sub p p') (sub q p) := by unfold X; grind
        omega
    · exact cp g
    · -- between: not of the lower chain, so within the upper one
      have nL : c ∉ L := fun hcL => by
        rw [hL] at hcL srt
        rw [List.pairwise_append] at srt
        obtain ⟨_, s2, s3⟩ := srt
        rcases List.mem_append.mp hcL with x | x
        · exact (s3 c x q (by simp)).asymm h
        · rcases List.mem_cons.mp x with x | x
          · exact cq x
          · rcases List.mem_cons.mp x with x | x
            · exact cp x
            · exact ((List.pairwise_cons.mp (List.pairwise_cons.mp s2).2).1 c x).asymm g
      have cV : neg c ∈ V := hc.resolve_left nL
      obtain ⟨pre2, post2, hV⟩ := List.append_of_mem cV
      have cm : c ≠ m := fun e => C.least p pS (e ▸ g)
      have cM : c ≠ M := fun e => C.most q qS (e ▸ h)
      rcases last_cases pre2 with rfl | ⟨pre2, v, rfl⟩
      · have := D.top
        rw [hV] at this
        exact cm (neg_inj (Option.some.inj this))
      · cases post2 with
        | nil =>
          have := D.bot
          rw [hV] at this
          simp at this
          exact cM (neg_inj this)
        | cons u post2 =>
          have hV1 : V = pre2 ++ v :: neg c :: u :: post2 := by rw [hV]; simp
          have hV2 : V = (pre2 ++ [v]) ++ neg c :: u :: post2 := by rw [hV]
          have k0 : 0 < X (sub (neg c) u) (sub v (neg c)) := Conv.at (by rw [← hV1]; exact D.conv)
          have e1 : ∀ s ∈ S, 0 ≤ turn (neg c) v (neg s) := fun s hs => (Edges.at (by rw [← hV1]; exact D.left) : ∀ s ∈ T, 0 ≤ turn (neg c) v s) (neg s) ((hT _).mpr (by rw [neg_neg]; exact hs))
          have e2 : ∀ s ∈ S, 0 ≤ turn u (neg c) (neg s) := fun s hs => (Edges.at (by rw [← hV2]; exact D.left) : ∀ s ∈ T, 0 ≤ turn u (neg c) s) (neg s) ((hT _).mpr (by rw [neg_neg]; exact hs))
          have o1 : Lt (neg c) v := (Edges.at (by rw [← hV1]; exact D.conv.up) : Lt (neg c) v)
          have o2 : Lt u (neg c) := (Edges.at (by rw [← hV2]; exact D.conv.up) : Lt u (neg c))
          have p1 : Pos (sub (neg p) (neg c)) := pos_sub.mpr (lt_neg.mpr g)
          have p2 : Pos (sub (neg c) (neg q)) := pos_sub.mpr (lt_neg.mpr h)
          have x12 : X (sub (neg p) (neg c)) (sub (neg c) (neg q)) = - X (sub q p) (sub c p) := by unfold X sub neg; grind
          have a2 : 0 ≤ X (sub v (neg c)) (sub (neg p) (neg c)) := e1 p pS
          have a4 := X_trans (pos_sub.mpr o1) p1 p2 a2 (by omega)
          have b1 : 0 ≤ X (sub (neg c) (neg q)) (sub (neg c) u) := by
            have := e2 q qS
            have e : X (sub (neg c) (neg q)) (sub (neg c) u) = turn u (neg c) (neg q) := by unfold X sub turn; grind
            omega
          have a5 := X_trans (pos_sub.mpr o1) p2 (pos_sub.mpr o2) a4 b1
          have : X (sub v (neg c)) (sub (neg c) u) = - X (sub (neg c) u) (sub v (neg c)) := by unfold X; grind
          omega
end Hull
set_option linter.all false
namespace Hull
theorem no_both {S T : List P} {m M : P} {L V : List P} (C : Chain S m M L) (D : Chain T (neg M) (neg m) V) (hT : ∀ x, x ∈ T ↔ neg x ∈ S) {c : P} (h1 : c ∈ L) (h2 : neg c ∈ V) (cm : c ≠ m) (cM : c ≠ M) : False := by
  obtain ⟨pre, post, hL⟩ := List.append_of_mem h1
  obtain ⟨pre2, post2, hV⟩ := List.append_of_mem h2
  rcases last_cases pre with rfl | ⟨pre, q, rfl⟩
  · have := C.top
    rw [hL] at this
    exact cM (Option.some.inj this)
  cases post with
  | nil =>
    have := C.bot
    rw [hL] at this
    simp at this
    exact cm this
  | cons p post =>
    cases post2 with
    | nil =>
      have := D.bot
      rw [hV] at this
      simp at this
      exact cM (neg_inj this)
    | cons u post2 =>
      have hL1 : L = pre ++ q :: c :: p :: post := by rw [hL]; simp
      have hL2 : L = (pre ++ [q]) ++ c :: p :: post := hL
      have k0 : 0 < X (sub c p) (sub q c) := Conv.at (by rw [← hL1]; exact C.conv)
      have o1 : Lt c q := (Edges.at (by rw [← hL1]; exact C.conv.up) : Lt c q)
      have o2 : Lt p c := (Edges.at (by rw [← hL2]; exact C.conv.up) : Lt p c)
      have o3 : Lt u (neg c) := (Edges.at (by rw [← hV]; exact D.conv.up) : Lt u (neg c))
      have uT : u ∈ T := D.mem u (by rw [hV]; simp)
      have pS : p ∈ S := C.mem p (by rw [hL]; simp)
      have a1 : 0 ≤ X (sub q c) (sub (neg c) u) := by
        have h := (Edges.at (by rw [← hL1]; exact C.left) : ∀ s ∈ S, 0 ≤ turn c q s) (neg u) ((hT u).mp uT)
        have e : X (sub q c) (sub (neg c) u) = turn c q (neg u) := by unfold X sub turn neg; grind
        omega
      have a2 : 0 ≤ X (sub (neg c) u) (sub c p) := by
        have h := (Edges.at (by rw [← hV]; exact D.left) : ∀ s ∈ T, 0 ≤ turn u (neg c) s) (neg p) ((hT _).mpr (by rw [neg_neg]; exact pS))
        have e : X (sub (neg c) u) (sub c p) = turn u (neg c) (neg p) := by unfold X sub turn neg; grind
        omega
      have k := X_trans (pos_sub.mpr o1) (pos_sub.mpr o3) (pos_sub.mpr o2) a1 a2
      have : X (sub q c) (sub c p) = - X (sub c p) (sub q c) := by unfold X; grind
      omega
/-! by places -/
theorem split_at {l : List P} {j : Nat} (h : j + 1 < l.length) : ∃ pre post, l = pre ++ l[j] :: l[j + 1] :: post := by
  refine ⟨l.take j, l.drop (j + 2), ?_⟩
  have e1 : l = l.take j ++ l.drop j := (List.take_append_drop j l).symm
  have e2 : l.drop j = l[j] :: l.drop (j + 1) := List.drop_eq_getElem_cons (by omega)
  have e3 : l.drop (j + 1) = l[j + 1] :: l.drop (j + 2) := List.drop_eq_getElem_cons h
  rw [← e3, ← e2]
  exact e1
/-- what stands next to the i-th of the tail turned round, in top :: tail -/
theorem tail_edge {t : P} {r : List P} {i : Nat} (h : i < r.length) : ∃ pre post, t :: r = pre ++ (if h2 : i + 1 < r.length then r.reverse[i + 1]'(by simpa using h2) else t) :: r.reverse[i]'(by simpa using h) :: post := by
  have hj : (r.length - 1 - i) + 1 < (t :: r).length := by simp; omega
  obtain ⟨pre, post, e⟩ := split_at hj
  refine ⟨pre, post, ?_⟩
  have e1 : (t :: r)[r.length - 1 - i + 1] = r.reverse[i]'(by simpa using h) := by
    rw [List.getElem_cons_succ, List.getElem_reverse]
  have e2 : (t :: r)[r.length - 1 - i]'(by omega) = (if h2 : i + 1 < r.length then r.reverse[i + 1]'(by simpa using h2) else t) := by
    split
    · rename_i h2
      have e3 : r.length - 1 - i = (r.length - 1 - (i + 1)) + 1 := by omega
      simp only [e3, List.getElem_cons_succ, List.getElem_reverse]
    · have e3 : r.length - 1 - i = 0 := by omega
      simp only [e3, List.getElem_cons_zero]
  rw [← e1, ← e2]
  exact e
theorem nodup_inj {l : List P} (h : l.Nodup) {i j : Nat} {hi : i < l.length} {hj : j < l.length} (e : l[i] = l[j]) : i = j := by
  have p := List.pairwise_iff_getElem.mp h
  rcases Nat.lt_trichotomy i j with z | z | z
  · exact absurd e (p i j hi hj z)
  · exact z
  · exact absurd e.symm (p j i hj hi z)
/-! the polygon -/
def hull (s : List P) : List P := (half s).reverse.dropLast ++ (half s.reverse).reverse.dropLast
theorem rev_drop (t : P) (r : List P) : (t :: r).reverse.dropLast = r.reverse := by simp
/-- the corners, with what is known of them -/
structure Poly (s H : List P) : Prop where
  two : 2 ≤ H.length
  nodup : H.Nodup
  mem : ∀ c ∈ H, c ∈ s
  first : ∃ m, H[0]? = some m ∧ s.head? = some m ∧ ∀ c ∈ H, c ≠ m → Lt m c
  strict : ∀ (i j : Nat) (hi : i < H.length) (hj : j < H.length), j ≠ i → j ≠ (i + 1) % H.length → 0 < turn H[i] (H[(i + 1) % H.length]'(Nat.mod_lt _ (by omega))) H[j]
  weak : ∀ (i : Nat) (hi : i < H.length), ∀ x ∈ s, 0 ≤ turn H[i] (H[(i + 1) % H.length]'(Nat.mod_lt _ (by omega))) x
theorem poly {s : List P} (hs : s.Pairwise Lt) (h2 : 2 ≤ s.length) : Poly s (hull s) := by
  obtain ⟨m, rest, rfl⟩ : ∃ m rest, s = m :: rest := by
    cases s with
    | nil => simp at h2
    | cons m rest => exact ⟨m, rest, rfl⟩
  obtain ⟨S, M, C, hS⟩ := half_chain hs
  -- the upper chain, turned about
  obtain ⟨k, rest2, hk⟩ : ∃ k rest2, (m :: rest).reverse.map neg = k :: rest2 := by
    cases h : (m :: rest).reverse.map neg with
    | nil => simp at h
    | cons k r => exact ⟨k, r, rfl⟩
  have hs2 : (k :: rest2).Pairwise Lt := by
    rw [← hk, List.pairwise_map, List.pairwise_reverse]
    exact hs.imp fun h => lt_neg.mpr h
  obtain ⟨T, M2, D, hT0⟩ := half_chain hs2
  have hT : ∀ x, x ∈ T ↔ neg x ∈ S := fun x => by
    rw [hT0, ← hk, hS]
    simp only [List.mem_map, List.mem_reverse]
    constructor
    · rintro ⟨y, hy, rfl⟩
      rw [neg_neg]
      exact hy
    · intro h
      exact ⟨neg x, h, neg_neg x⟩
  have mS : m ∈ S := (hS m).mpr (by simp)
  have MS : M ∈ S := by
    have h := C.top
    cases q : half (m :: rest) with
    | nil => rw [q] at h; cases h
    | cons x l => rw [q] at h; cases h; exact C.mem M (by rw [q]; simp)
  have M2T : M2 ∈ T := by
    have h := D.top
    cases q : half (k :: rest2) with
    | nil => rw [q] at h; cases h
    | cons x l => rw [q] at h; cases h; exact D.mem M2 (by rw [q]; simp)
  have kT : k ∈ T := (hT0 k).mpr (by simp)
  have ek : k = neg M := by
    rcases Lt.total k (neg M) with h | h | h
    · exfalso
      have := C.most (neg k) ((hT k).mp kT)
      exact this (by have := lt_neg.mpr h; rwa [neg_neg] at this)
    · exact h
    · exact absurd h (D.least (neg M) ((hT _).mpr (by rw [neg_neg]; exact MS)))
  have eM2 : M2 = neg m := by
    rcases Lt.total M2 (neg m) with h | h | h
    · exact absurd h (D.most (neg m) ((hT _).mpr (by rw [neg_neg]; exact mS)))
    · exact h
    · exfalso
      have := C.least (neg M2) ((hT M2).mp M2T)
      exact this (by have := lt_neg.mpr h; rwa [neg_neg] at this)
  subst ek eM2
  have eV : half (neg M :: rest2) = (half (m :: rest).reverse).map neg := by rw [← hk, half_neg]
  rw [eV] at D
  generalize hLL : half (m :: rest) = L at C
  generalize hWW : half (m :: rest).reverse = W at D
  have hH : hull (m :: rest) = L.reverse.dropLast ++ W.reverse.dropLast := by unfold hull; rw [hLL, hWW]
  rw [hH]
  obtain ⟨r0, rest, rfl⟩ : ∃ r0 r, rest = r0 :: r := by
    cases rest with
    | nil => simp at h2
    | cons r0 r => exact ⟨r0, r, rfl⟩
  have mM : m ≠ M := fun e => by
    have h1 := C.most r0 ((hS r0).mpr (by simp))
    exact h1 (e ▸ (List.pairwise_cons.mp hs).1 r0 (by simp))
  obtain ⟨Lr, rfl⟩ : ∃ Lr, L = M :: Lr := by
    cases L with
    | nil => have := C.top; cases this
    | cons x l => have := C.top; cases this; exact ⟨l, rfl⟩
  obtain ⟨Wr, rfl⟩ : ∃ Wr, W = m :: Wr := by
    cases W with
    | nil => have := D.top; cases this
    | cons x l => have := D.top; exact ⟨l, by rw [neg_inj (Option.some.inj this)]⟩
  have hk0 : 0 < Lr.length := by
    cases Lr with
    | nil => have := C.bot; simp at this; exact absurd this.symm mM
    | cons _ _ => simp
  have hl0 : 0 < Wr.length := by
    cases Wr with
    | nil => have := D.bot; simp at this; exact absurd (neg_inj this) mM
    | cons _ _ => simp
  rw [rev_drop, rev_drop]
  clear hH hLL hWW hk h2
  have hn : (Lr.reverse ++ Wr.reverse).length = Lr.length + Wr.length := by simp
  have z1 : (Lr.reverse ++ Wr.reverse)[0]'(by omega) = m := by
    rw [List.getElem_append_left (by simpa using hk0), List.getElem_reverse]
    have h := C.bot
    rw [List.getLast?_eq_getElem?] at h
    have e : (M :: Lr).length - 1 = (Lr.length - 1 - 0) + 1 := by simp; omega
    rw [e, List.getElem?_cons_succ, List.getElem?_eq_getElem (by omega)] at h
    exact Option.some.inj h
  have z2 : (Lr.reverse ++ Wr.reverse)[Lr.length]'(by omega) = M := by
    rw [List.getElem_append_right (by simp), List.getElem_reverse]
    have h := D.bot
    rw [List.getLast?_eq_getElem?] at h
    have e : ((m :: Wr).map neg).length - 1 = (Wr.length - 1 - (Lr.length - Lr.reverse.length)) + 1 := by simp; omega
    rw [e, List.map_cons, List.getElem?_cons_succ, List.getElem?_map, List.getElem?_eq_getElem (by simp; omega)] at h
    exact neg_inj (Option.some.inj h)
  have inL : ∀ c, c ∈ Lr → Lt c M := fun c hc => (List.pairwise_cons.mp C.conv.down).1 c hc
  have inW : ∀ c, c ∈ Wr → Lt m c := fun c hc => by
    have := (List.pairwise_cons.mp (show ((neg m) :: Wr.map neg).Pairwise (fun x y => Lt y x) from D.conv.down)).1 (neg c) (List.mem_map_of_mem hc)
    exact lt_neg.mp this
  have side : ∀ c ∈ Lr.reverse ++ Wr.reverse, c ∈ (M :: Lr) ∨ neg c ∈ (m :: Wr).map neg := fun c hc => by
    rcases List.mem_append.mp hc with h | h
    · exact .inl (List.mem_cons_of_mem _ (List.mem_reverse.mp h))
    · exact .inr (List.mem_map_of_mem (List.mem_cons_of_mem _ (List.mem_reverse.mp h)))
  have inS : ∀ c ∈ Lr.reverse ++ Wr.reverse, c ∈ S := fun c hc => by
    rcases side c hc with h | h
    · exact C.mem c h
    · have := (hT _).mp (D.mem _ h)
      rwa [neg_neg] at this
  have nodup : (Lr.reverse ++ Wr.reverse).Nodup := by
    rw [List.nodup_append]
    refine ⟨?_, ?_, fun c h1 c' h2 e => ?_⟩
    · exact (List.pairwise_reverse).mpr ((List.pairwise_cons.mp C.conv.down).2.imp fun h => h.ne)
    · have h := (List.pairwise_cons.mp (show ((neg m) :: Wr.map neg).Pairwise (fun x y => Lt y x) from D.conv.down)).2
      rw [List.pairwise_map] at h
      exact (List.pairwise_reverse).mpr (h.imp fun h => (lt_neg.mp h).ne.symm)
    · subst e
      exact no_both C D hT (List.mem_cons_of_mem _ (List.mem_reverse.mp h1)) (List.mem_map_of_mem (List.mem_cons_of_mem _ (List.mem_reverse.mp h2))) (Lt.ne (inW c (List.mem_reverse.mp h2))).symm (Lt.ne (inL c (List.mem_reverse.mp h1)))
  -- each side is an edge of one of both chains
  have edge : ∀ (i : Nat) (hi : i < (Lr.reverse ++ Wr.reverse).length),
      (∃ pre post, M :: Lr = pre ++ ((Lr.reverse ++ Wr.reverse)[(i + 1) % (Lr.reverse ++ Wr.reverse).length]'(Nat.mod_lt _ (by omega))) :: (Lr.reverse ++ Wr.reverse)[i] :: post) ∨
      (∃ pre post, m :: Wr = pre ++ ((Lr.reverse ++ Wr.reverse)[(i + 1) % (Lr.reverse ++ Wr.reverse).length]'(Nat.mod_lt _ (by omega))) :: (Lr.reverse ++ Wr.reverse)[i] :: post) := by
    intro i hi
    by_cases h : i < Lr.length
    · left
      obtain ⟨pre, post, e⟩ := tail_edge (t := M) h
      refine ⟨pre, post, ?_⟩
      have e1 : (Lr.reverse ++ Wr.reverse)[i] = Lr.reverse[i]'(by simpa using h) := List.getElem_append_left (by simpa using h)
      have e2 : (Lr.reverse ++ Wr.reverse)[(i + 1) % (Lr.reverse ++ Wr.reverse).length]'(Nat.mod_lt _ (by omega)) = (if h2 : i + 1 < Lr.length then Lr.reverse[i + 1]'(by simpa using h2) else M) := by
        have em : (i + 1) % (Lr.reverse ++ Wr.reverse).length = i + 1 := Nat.mod_eq_of_lt (by omega)
        simp only [em]
        split
        · rename_i h2
          exact List.getElem_append_left (by simpa using h2)
        · have : i + 1 = Lr.length := by omega
          simp only [this]
          exact z2
      rw [e1, e2]
      exact e
    · right
      have h' : i - Lr.length < Wr.length := by omega
      obtain ⟨pre, post, e⟩ := tail_edge (t := m) h'
      refine ⟨pre, post, ?_⟩
      have e1 : (Lr.reverse ++ Wr.reverse)[i] = Wr.reverse[i - Lr.length]'(by simpa using h') := by
        rw [List.getElem_append_right (by simp; omega)]
        simp
      have e2 : (Lr.reverse ++ Wr.reverse)[(i + 1) % (Lr.reverse ++ Wr.reverse).length]'(Nat.mod_lt _ (by omega)) = (if h2 : i - Lr.length + 1 < Wr.length then Wr.reverse[i - Lr.length + 1]'(by simpa using h2) else m) := by
        split
        · rename_i h2
          have em : (i + 1) % (Lr.reverse ++ Wr.reverse).length = i + 1 := Nat.mod_eq_of_lt (by omega)
          simp only [em]
          rw [List.getElem_append_right (by simp; omega)]
          have : i + 1 - Lr.reverse.length = i - Lr.length + 1 := by simp; omega
          simp only [this]
        · have em : (i + 1) % (Lr.reverse ++ Wr.reverse).length = 0 := by
            have : i + 1 = (Lr.reverse ++ Wr.reverse).length := by omega
            rw [this, Nat.mod_self]
          simp only [em]
          exact z1
      rw [e1, e2]
      exact e
  have turned : ∀ {p q : P} {pre post : List P}, m :: Wr = pre ++ q :: p :: post → (m :: Wr).map neg = pre.map neg ++ neg q :: neg p :: post.map neg := fun {p q pre post} e => by rw [e]; simp
  have C' : Chain S (neg (neg m)) (neg (neg M)) (M :: Lr) := by rw [neg_neg, neg_neg]; exact C
  have hT' : ∀ x, x ∈ S ↔ neg x ∈ T := fun x => by rw [hT, neg_neg]
  refine ⟨by omega, nodup, fun c hc => (hS c).mp (inS c hc), ⟨m, ?_, rfl, fun c hc cm => ?_⟩, fun i j hi hj h1 h2 => ?_, fun i hi x hx => ?_⟩
  · rw [List.getElem?_eq_getElem (by omega), z1]
  · rcases Lt.total c m with h | h | h
    · exact absurd h (C.least c (inS c hc))
    · exact absurd h cm
    · exact h
  · have d1 : (Lr.reverse ++ Wr.reverse)[j] ≠ (Lr.reverse ++ Wr.reverse)[i] := fun e => h1 (nodup_inj nodup e)
    have d2 : (Lr.reverse ++ Wr.reverse)[j] ≠ (Lr.reverse ++ Wr.reverse)[(i + 1) % (Lr.reverse ++ Wr.reverse).length]'(Nat.mod_lt _ (by omega)) := fun e => h2 (nodup_inj nodup e)
    have cj := side _ (List.getElem_mem hj)
    rcases edge i hi with ⟨pre, post, e⟩ | ⟨pre, post, e⟩
    · exact strict C D hT e cj d1 d2
    · have e' := turned e
      have cj' : neg (Lr.reverse ++ Wr.reverse)[j] ∈ (m :: Wr).map neg ∨ neg (neg (Lr.reverse ++ Wr.reverse)[j]) ∈ M :: Lr := by
        rw [neg_neg]
        exact cj.symm
      have k := strict D C' hT' e' cj' (fun z => d1 (neg_inj z)) (fun z => d2 (neg_inj z))
      rwa [turn_neg] at k
  · have xS := (hS x).mpr hx
    rcases edge i hi with ⟨pre, post, e⟩ | ⟨pre, post, e⟩
    · exact (Edges.at (by rw [← e]; exact C.left) : ∀ s ∈ S, 0 ≤ turn _ _ s) x xS
    · have e' := turned e
      have k := (Edges.at (by rw [← e']; exact D.left) : ∀ s ∈ T, 0 ≤ turn (neg (Lr.reverse ++ Wr.reverse)[i]) (neg ((Lr.reverse ++ Wr.reverse)[(i + 1) % (Lr.reverse ++ Wr.reverse).length]'(Nat.mod_lt _ (by omega)))) s) (neg x) ((hT' x).mp xS)
      rwa [turn_neg] at k
end Hull
set_option Elab.async false
set_option linter.all false
set_option maxRecDepth 100000
set_option maxHeartbeats 1000000
/-! sorted(s), s a set of pairs of ints of any size -/
namespace L2
open PySem PySem.Spec PyProof.Rows
/-- the pair that a list of ints is -/
def prOf : List Int → Int × Int
  | x :: y :: _ => (x, y)
  | _ => (0, 0)
theorem tupInts_pair {h : Heap} {b : Addr} {x y : Int} (t : TS.TupInts h (.ref b) [x, y]) : Srt.IsPair h (.ref b) x y := by
  obtain ⟨c, its, e, ⟨o, ho, hc, n, hd⟩, hi⟩ := t
  cases e
  obtain ⟨l, rfl⟩ : ∃ l : List Value, its = l.toArray := ⟨its.toList, by rw [Array.toArray_toList]⟩
  simp only at hi
  have hi2 : IntsAre l [x, y] := by simpa using hi
  cases hi2 with
  | cons _ t1 r1 =>
    cases r1 with
    | cons _ t2 r2 =>
      cases r2
      exact ⟨b, o, t1, t2, n, rfl, ho, hc, hd⟩
section
variable {P : Program} {w : World} {A : Around} {E : Value → Shared → Prop} {s : Shared}
theorem sorted_setP {a : Addr} {L : List (Addr × List Int)} {es : Array (Int × Value)} {ep : Nat} {t : SetTable} {Q : Value → Shared → Prop} (R : SetTR P w s.heap a L es ep t) (hnone : A.handled = none) (h2 : ∀ p ∈ L, ∃ x y, p.2 = [x, y])
    (fin : ∀ s' p (out : List Value) (c : Nat) (M : List (Addr × List Int)), (∀ b o, s.heap.get? b = some o → s'.heap.get? b = some o) → s'.gens = s.gens → s'.os = s.os → s.heap.objs.size ≤ p →
      s'.heap.get? p = some (seqObj "list" out.toArray c) → out = M.map (fun q => Value.ref q.1) → M.Perm L → M.Pairwise (fun q r => SrtO.lexB (prOf r.2) (prOf q.2) = false) → Q (.ref p) s') :
    wpAny (model P w) A (call (.builtin "sorted") [.ref a]) Q E s := by
  obtain ⟨o, ho, hex, hd⟩ := R.ob
  have many := R.few
  refine Calls.call_function_entry kind_sorted plain_sorted entry_sorted (args_sorted1 _) ?_
  unfold Builtin.«sorted»
  refine wpAny_bind (m := checkCount "sorted" 1 1 _) (wpAny_pure ?_)
  have esz := R.size
  refine wpAny_bind (collect_set (A := A.in1) hnone ⟨o, ho, hex.1, hd⟩ R.fits (by unfold scanBound; omega) R.tab.ris R.led fun s1 vs keep1 grow1 gens1 os1 pm => ?_)
  have rowsE : es.toList.map (·.2) = L.map fun q => Value.ref q.1 := by
    rw [R.rows]
    unfold rowsOf
    rw [List.map_map] <;> rfl
  rw [rowsE] at pm
  -- each value comes from a row
  have from_row : ∀ v ∈ vs, ∃ q ∈ L, v = Value.ref q.1 := fun v hv => by
    obtain ⟨q, hq, e⟩ := List.mem_map.mp (pm.mem_iff.mp hv)
    exact ⟨q, hq, e.symm⟩
  have lift : ∀ us : List Value, (∀ v ∈ us, ∃ q ∈ L, v = Value.ref q.1) → ∃ M : List (Addr × List Int), us = M.map (fun q => Value.ref q.1) ∧ ∀ q ∈ M, q ∈ L := by
    intro us
    induction us with
    | nil => exact fun _ => ⟨[], rfl, fun q hq => nomatch hq⟩
    | cons v us ih =>
      intro hv
      obtain ⟨q, hq, e⟩ := hv v List.mem_cons_self
      obtain ⟨M, eM, sM⟩ := ih fun u hu => hv u (List.mem_cons_of_mem _ hu)
      exact ⟨q :: M, by rw [List.map_cons, e, eM], List.forall_mem_cons.mpr ⟨hq, sM⟩⟩
  have key1 : ∀ q ∈ L, ∀ r ∈ L, q.1 = r.1 → q = r := fun q hq r hr e => by
    have a1 := R.tup q hq
    rw [e] at a1
    exact Prod.ext e (a1.inj (R.tup r hr))
  have back : ∀ M : List (Addr × List Int), (∀ q ∈ M, q ∈ L) → (M.map (fun q => Value.ref q.1)).Perm (L.map fun q => Value.ref q.1) → M.Perm L := by
    intro M sM pM
    have nL : L.Nodup := nodup_of_map R.nd
    have nR : (L.map fun q => Value.ref q.1).Nodup := by
      refine List.pairwise_map.mpr (List.Pairwise.imp_of_mem (fun {q r} hq hr hne e => ?_) nL)
      exact hne (key1 q hq r hr (Value.ref.inj e))
    refine (List.perm_ext_iff_of_nodup (nodup_of_map (pM.nodup_iff.mpr nR)) nL).mpr fun q => ⟨sM q, fun hq => ?_⟩
    obtain ⟨r, hr, e⟩ := List.mem_map.mp (pM.mem_iff.mpr (List.mem_map.mpr ⟨q, hq, rfl⟩))
    rw [← key1 r (sM r hr) q hq (Value.ref.inj e)]
    exact hr
  have len64 : vs.length < 64 := by
    rw [pm.length_eq, List.length_map]
    exact many
  refine wpAny_bind (wpAny_newList ?_ (by rw [sizeLine_eq]; omega))
  have newAt : (s1.heap.push (seqObj "list" vs.toArray 0)).get? s1.heap.objs.size = some (seqObj "list" vs.toArray 0) := Heap.get?_push_size _ rfl
  have ti : ∀ q ∈ L, TS.TupInts (s1.heap.push (seqObj "list" vs.toArray 0)) (.ref q.1) q.2 := fun q hq => tupInts_of (P := P) (w := w) (isT_keep (R.tup q hq) fun b u e => Heap.get?_push_of_some _ (keep1 b u e))
  have pairs : ∀ v ∈ vs, Srt.IsPair (s1.heap.push (seqObj "list" vs.toArray 0)) v (prOf (TS.intsOf (s1.heap.push (seqObj "list" vs.toArray 0)) v)).1 (prOf (TS.intsOf (s1.heap.push (seqObj "list" vs.toArray 0)) v)).2 := fun v hv => by
    obtain ⟨q, hq, rfl⟩ := from_row v hv
    obtain ⟨x, y, e⟩ := h2 q hq
    have z := ti q hq
    rw [z.ints, e]
    rw [e] at z
    exact tupInts_pair z
  refine wpAny_bind (wpAny_holding (wpAny_call_entry slot_list_sort ⟨_, newAt, rfl⟩ entry_list_sort (SrtO.list_sort_ord (s := { s1 with heap := s1.heap.push (seqObj "list" vs.toArray 0) }) (SrtO.swo_lex fun v => prOf (TS.intsOf (s1.heap.push (seqObj "list" vs.toArray 0)) v)) newAt (by rw [sizeLine_eq]; omega)
    (fun two => SrtO.pairs_sortableO (s := { s1 with heap := s1.heap.push (seqObj "list" vs.toArray 0) }) (by omega) pairs fun u e c => ?_) fun out so sb => ⟨_, rfl, ?_⟩) (args_list_sort _)))
  · cases newAt.symm.trans e
    exact absurd (Value.type.inj c) (by decide)
  · obtain ⟨c, hc⟩ := sortedHeap_at (vs := vs) (out := out.toArray) newAt
    obtain ⟨M, eM, sM⟩ := lift out fun v hv => from_row v (sb.perm.mem_iff.mp hv)
    have pL : M.Perm L := back M sM (by rw [← eM]; exact sb.perm.trans pm)
    have pw : M.Pairwise (fun q r => SrtO.lexB (prOf r.2) (prOf q.2) = false) := by
      rw [eM] at so
      refine List.Pairwise.imp_of_mem (fun {q r} hq hr z => ?_) (List.pairwise_map.mp so)
      have f1 := (ti q (sM q hq)).ints
      have f2 := (ti r (sM r hr)).ints
      simp only [f1, f2] at z
      exact z
    refine wpAny_pure ⟨_, rfl, fin _ s1.heap.objs.size out c M (fun b u e => ?_) gens1 os1 grow1 hc eM pL pw⟩
    have q := keep1 b u e
    have lt := Heap.lt_size q
    show (sortedHeap (s1.heap.push (seqObj "list" vs.toArray 0)) s1.heap.objs.size vs out.toArray).get? b = some u
    rw [sortedHeap_old (Nat.ne_of_lt lt) (by rw [size_push']; exact Nat.lt_succ_of_lt lt)]
    exact Heap.get?_push_of_some _ q
end
/-- sorted(s), s a set of pairs of ints: a new list of them, ascending -/
def rSortedSP (K : PySem.W.Frag) (P : Program) (w : World) : List V → Hp → VK → Prop := fun vs H Q => ∃ (a : Addr) (L : List (Addr × List Int)), vs = [V.ref a] ∧ H a = some (SetTO P w a L) ∧ (∀ p ∈ L, SqT K H p.1 (p.2.map V.int)) ∧ (∀ p ∈ L, ∃ x y, p.2 = [x, y]) ∧
  ∀ (M : List (Addr × List Int)) (p : Addr), M.Perm L → (M.map (·.2)).Nodup → M.length < 64 → M.Pairwise (fun q r => SrtO.lexB (prOf r.2) (prOf q.2) = false) → H p = none → Q (.ref p) (upd H p (.lst (M.map fun q => V.ref q.1)))
section
variable {X : Cx}
theorem cr_sortedSP (hc : X.calm = true) : CallR X (.builtin "sorted") (rSortedSP X.K X.prog X.w) := by
  rintro pins s σ H vs us Q I r ⟨a, L, rfl, ha, hk, hp2, q⟩
  have base : SetT0 X.prog X.w s.heap a L := (I.hok a _ ha).1
  obtain ⟨es, ep, t, R⟩ := base.full fun p hp => I.isT (hk p hp)
  rw [Vals.ref1 r]
  refine sorted_setP R (I.ok.hd hc) hp2 fun s' p out c M keep gs os grow at_ eo pm pw => ?_
  have few : M.length < 64 := by
    rw [pm.length_eq]
    exact R.few
  have free : H p = none := I.hok.fresh grow
  have vals : Vals (M.map fun q => V.ref q.1) out := by
    rw [eo]
    exact vals_of_refs M
  have J : Inv X pins σ (upd H p (.lst (M.map fun q => V.ref q.1))) { s with heap := s'.heap, gens := s'.gens, drawn := s'.drawn, toks := s'.toks } :=
    I.call (ch := []) (Un.laid keep grow free) (I.hok.laid keep grow ⟨by rw [List.length_map, sizeLine_eq]; omega, out, c, vals, at_⟩) (by rw [gs]; exact I.bare) (fun _ z => nomatch z)
  have e : s' = { s with heap := s'.heap, gens := s'.gens, drawn := s'.drawn, toks := s'.toks } := by
    cases s'
    cases s
    cases os
    rfl
  rw [e]
  exact ⟨.ref p, _, J, rfl, q M p pm ((pm.map (·.2)).nodup_iff.mpr R.nd) few pw free⟩
end
end L2
set_option Elab.async false
set_option linter.all false
set_option maxRecDepth 100000
set_option maxHeartbeats 1000000
/-! min(xs), max(xs), xs a list of pairs of ints -/
namespace L2
open PySem PySem.Spec PyProof.Rows
/-- op answers bt at every heap that holds what h0 held -/
def CmpK (prog : Program) (w : World) (A : Around) (h0 : Heap) (op : CmpOp) (vs : List Value) (bt : Nat → Nat → Bool) : Prop :=
  ∀ (i j : Nat) (u v : Value) (s : Shared) (Q : Value → Shared → Prop) (E : Value → Shared → Prop), (∀ b o, h0.get? b = some o → s.heap.get? b = some o) → vs[i]? = some u → vs[j]? = some v → Q (.bool (bt i j)) s → wpAny (model prog w) A (richCompare op u v) Q E s

section
variable {prog : Program} {w : World} {A : Around} {l it : Addr} {vs : List Value} {h0 : Heap} {bt : Nat → Nat → Bool}
theorem pm_min_turn {Fin : Result → Shared → Prop} (calm : A.handled = none) (away : l ≠ it) (itNew : h0.objs.size ≤ it) (lst : h0.IsList l vs.toArray) (cmp : CmpK prog w A.in1 h0 .Lt vs bt) (cell : Addr) (cellNew : h0.objs.size ≤ cell) (cellIt : cell ≠ it) :
    ∀ (left j : Nat) (s : Shared) (best : Value) (ep : Nat), vs.length - (j + 1) = left → j + 1 ≤ vs.length → (∀ b o, h0.get? b = some o → s.heap.get? b = some o) → s.heap.IsListIter it l (j + 1) → vs[argBest bt j]? = some best →
    s.heap.get? cell = some { cls := .type "list", dict := none, data := .seq #[best, best] ep, slots := #[] } →
    (∀ v h' tk, vs[argBest bt (vs.length - 1)]? = some v → (∀ b o, h0.get? b = some o → h'.get? b = some o) → Fin (.ok (.ret v)) { s with heap := h', toks := tk }) →
    codeAny (model prog w) A (.builtin "min.loop" ⟨[.ref it, .none, .ref cell], []⟩) Fin s := by
  have W := Walks.list (prog := prog) (w := w) (A := A.in1) calm it l away vs.toArray
  have many : vs.toArray.size = vs.length := List.size_toArray ..
  have named : (toString "min" ++ toString ".loop" : String) = "min.loop" := by decide
  have old : ∀ {b : Addr} {o : Obj}, h0.get? b = some o → b ∉ [it] ∧ b ≠ cell := fun {b o} e => by
    have z := Heap.lt_size e
    refine ⟨fun m => ?_, fun m => ?_⟩
    · rw [List.mem_singleton.mp m] at z
      exact absurd z (Nat.not_lt.mpr itNew)
    · rw [m] at z
      exact absurd z (Nat.not_lt.mpr cellNew)
  intro left
  induction left with
  | zero =>
    intro j s best ep e1 e2 keep iter eb hc fin
    have whole : j + 1 = vs.length := by omega
    refine codeAny_builtin PySem.F.entry_min_loop ?_
    rw [Around.under_plainId PySem.F.plain_min_loop _]
    show wpAny _ A.in1 (seqItems? (.ref cell) >>= _) _ _ s
    refine wpAny_bind (wpAny_seqItems hc rfl ?_)
    show wpAny _ A.in1 (tryCatch (pyNext (.ref it)) _ >>= _) _ _ s
    refine wpAny_bind (wpAny_tryCatch (W.done s _ _ ⟨by rw [many, ← whole]; exact iter, let ⟨o, ho, r⟩ := lst; ⟨o, keep _ _ ho, r⟩⟩ fun h' tk k1 => ?_))
    have hc1 := k1 cell _ (by simpa using cellIt) hc
    show wpAny _ A.in1 (updateSeq cell (fun _ => #[]) >>= _) _ _ _
    refine wpAny_bind ?_
    refine wpAny_updateSeq hc1 rfl (wpAny_bind (wpAny_letGo (wpAny_pure ?_)))
    refine fin best _ tk (by rw [← whole]; exact eb) fun b o e => ?_
    exact (Heap.get?_update_other _ _ (Ne.symm (old e).2)).trans (k1 b o (old e).1 (keep b o e))
  | succ left ih =>
    intro j s best ep e1 e2 keep iter eb hc fin
    have more : j + 1 < vs.length := by omega
    refine codeAny_builtin PySem.F.entry_min_loop ?_
    rw [Around.under_plainId PySem.F.plain_min_loop _]
    show wpAny _ A.in1 (seqItems? (.ref cell) >>= _) _ _ s
    refine wpAny_bind (wpAny_seqItems hc rfl ?_)
    show wpAny _ A.in1 (tryCatch (pyNext (.ref it)) _ >>= _) _ _ s
    refine wpAny_bind (wpAny_tryCatch (W.item (j + 1) s _ _ (by rw [many]; exact more) ⟨iter, let ⟨o, ho, r⟩ := lst; ⟨o, keep _ _ ho, r⟩⟩ fun v h' tk ev iter1 k1 => ?_))
    have ev1 : vs[j + 1]? = some v := by simpa using ev
    have hc1 := k1 cell _ (by simpa using cellIt) hc
    have keep1 : ∀ b o, h0.get? b = some o → h'.get? b = some o := fun b o e => k1 b o (old e).1 (keep b o e)
    show wpAny _ A.in1 (tryCatch (holding [v, v] (richCompare .Lt v best >>= _)) _ >>= _) _ _ _
    refine wpAny_bind (wpAny_tryCatch (wpAny_holding (wpAny_bind (cmp (j + 1) (argBest bt j) v best { s with heap := h', toks := tk } _ _ keep1 ev1 eb ?_))))
    refine wpAny_bind (wpAny_holding (wpAny_truthy_bool ?_))
    refine wpAny_bind (wpAny_letGo (wpAny_pure ?_))
    cases better : bt (j + 1) (argBest bt j) with
    | true =>
      simp only [if_true]
      refine wpAny_bind ?_
      refine wpAny_updateSeq hc1 rfl (wpAny_bind (wpAny_letGo ?_))
      rw [named]
      refine wpAny_pure ⟨plainId_quiet PySem.F.plain_min_loop _, ih (j + 1) _ v _ (by omega) more (fun b o e => ?_) ?_ (by simp only [argBest, better, if_true]; exact ev1) (Heap.get?_update_self _ hc1 rfl) fun v2 h2 tk2 a1 a2 => fin v2 h2 tk2 a1 a2⟩
      · exact (Heap.get?_update_other _ _ (Ne.symm (old e).2)).trans (keep1 b o e)
      · exact iter1.1.at fun o e => (Heap.get?_update_other _ _ cellIt).trans e
    | false =>
      simp only [Bool.false_eq_true, if_false]
      refine wpAny_bind (wpAny_letGo ?_)
      rw [named]
      exact wpAny_pure ⟨plainId_quiet PySem.F.plain_min_loop _, ih (j + 1) _ best ep (by omega) more keep1 iter1.1 (by simp only [argBest, better, Bool.false_eq_true, if_false]; exact eb) hc1 fun v2 h2 tk2 a1 a2 => fin v2 h2 tk2 a1 a2⟩
theorem pm_min {E Q : Value → Shared → Prop} {s : Shared} (calm : A.handled = none) (lst : s.heap.IsList l vs.toArray) (some1 : 0 < vs.length) (cmp : CmpK prog w A.in1 s.heap .Lt vs bt)
    (fin : ∀ v h' tk, vs[argBest bt (vs.length - 1)]? = some v → (∀ b o, s.heap.get? b = some o → h'.get? b = some o) → Q v { s with heap := h', toks := tk }) : wpAny (model prog w) A (call (.builtin "min") [.ref l]) Q E s := by
  have named : (toString "min" ++ toString ".loop" : String) = "min.loop" := by decide
  have lt : l < s.heap.objs.size := let ⟨_, e, _⟩ := lst; Heap.lt_size e
  refine call_function_tree PySem.F.kind_min PySem.F.plain_min PySem.F.entry_min (PySem.F.args_min1 _) ?_
  show wpAny _ A.in1 (Builtin.Builtins.bindParams "min" ["key", "default"] 0 ⟨[], []⟩ >>= _) _ _ s
  refine wpAny_bind (wpAny_of_eq (show Builtin.Builtins.bindParams "min" ["key", "default"] 0 ⟨[], []⟩ = pure [none, none] from rfl) ?_)
  refine wpAny_bind (wpAny_pure ?_)
  refine wpAny_bind (wpAny_pyIter_list lst ?_)
  refine wpAny_bind (wpAny_newObj_type ?_)
  rw [named]
  generalize hH : (s.heap.push { cls := .type "list_iterator", data := .fields #[.ref l, .int 0 0] }) = H1
  have size1 : H1.objs.size = s.heap.objs.size + 1 := by rw [← hH, Heap.size_push]
  have atIt : H1.IsListIter s.heap.objs.size l 0 := by
    rw [← hH]
    exact ⟨_, Heap.get?_push_size _ rfl, rfl, rfl⟩
  have keep1 : ∀ b o, s.heap.get? b = some o → H1.get? b = some o := fun b o e => by
    rw [← hH]
    exact Heap.get?_push_of_some _ e
  refine wpAny_pure ⟨plainId_quiet PySem.F.plain_min_loop _, ?_⟩
  have W := Walks.list (prog := prog) (w := w) (A := A.in1) calm s.heap.objs.size l (Nat.ne_of_lt lt) vs.toArray
  have many : vs.toArray.size = vs.length := List.size_toArray ..
  have hcell : (H1.push { cls := .type "list", dict := none, data := .seq #[] 0, slots := #[] }).get? H1.objs.size = some { cls := .type "list", dict := none, data := .seq #[] 0, slots := #[] } := Heap.get?_push_size _ rfl
  have keep2 : ∀ b o, H1.get? b = some o → (H1.push { cls := .type "list", dict := none, data := .seq #[] 0, slots := #[] }).get? b = some o := fun b o e => Heap.get?_push_of_some _ e
  refine codeAny_builtin PySem.F.entry_min_loop ?_
  rw [Around.under_plainId PySem.F.plain_min_loop _]
  show wpAny _ A.in1 (seqItems? (.ref H1.objs.size) >>= _) _ _ { s with heap := H1.push { cls := .type "list", dict := none, data := .seq #[] 0, slots := #[] } }
  refine wpAny_bind (wpAny_seqItems hcell rfl ?_)
  show wpAny _ A.in1 (tryCatch (pyNext (.ref s.heap.objs.size)) _ >>= _) _ _ _
  refine wpAny_bind (wpAny_tryCatch (W.item 0 _ _ _ (by rw [many]; exact some1) ⟨atIt.at fun o e => keep2 _ _ e, let ⟨o, ho, r⟩ := lst; ⟨o, keep2 _ _ (keep1 _ _ ho), r⟩⟩ fun v h' tk ev iter1 k1 => ?_))
  have ev1 : vs[0]? = some v := by simpa using ev
  have off : H1.objs.size ≠ s.heap.objs.size := by omega
  have hc1 := k1 H1.objs.size _ (by simpa using off) hcell
  show wpAny _ A.in1 (updateSeq H1.objs.size (fun _ => #[v, v]) >>= _) _ _ _
  refine wpAny_bind ?_
  refine wpAny_updateSeq hc1 rfl ?_
  rw [named]
  refine wpAny_pure ⟨plainId_quiet PySem.F.plain_min_loop _, pm_min_turn calm (Nat.ne_of_lt lt) (Nat.le_refl _) lst cmp H1.objs.size (by omega) off _ 0 _ v _ rfl some1 (fun b o e => ?_) ?_ ev1 (Heap.get?_update_self _ hc1 rfl) fun v2 h2 tk2 a1 a2 => fin v2 h2 tk2 a1 a2⟩
  · have z := Heap.lt_size e
    refine (Heap.get?_update_other _ _ (Nat.ne_of_gt (show b < H1.objs.size by rw [size1]; exact Nat.lt_succ_of_lt z))).trans (k1 b o (fun m => ?_) (keep2 _ _ (keep1 _ _ e)))
    rw [List.mem_singleton.mp m] at z
    exact absurd z (Nat.lt_irrefl _)
  · exact iter1.1.at fun o e => (Heap.get?_update_other _ _ off).trans e
end

section
variable {prog : Program} {w : World} {A : Around} {l it : Addr} {vs : List Value} {h0 : Heap} {bt : Nat → Nat → Bool}
theorem pm_max_turn {Fin : Result → Shared → Prop} (calm : A.handled = none) (away : l ≠ it) (itNew : h0.objs.size ≤ it) (lst : h0.IsList l vs.toArray) (cmp : CmpK prog w A.in1 h0 .Gt vs bt) (cell : Addr) (cellNew : h0.objs.size ≤ cell) (cellIt : cell ≠ it) :
    ∀ (left j : Nat) (s : Shared) (best : Value) (ep : Nat), vs.length - (j + 1) = left → j + 1 ≤ vs.length → (∀ b o, h0.get? b = some o → s.heap.get? b = some o) → s.heap.IsListIter it l (j + 1) → vs[argBest bt j]? = some best →
    s.heap.get? cell = some { cls := .type "list", dict := none, data := .seq #[best, best] ep, slots := #[] } →
    (∀ v h' tk, vs[argBest bt (vs.length - 1)]? = some v → (∀ b o, h0.get? b = some o → h'.get? b = some o) → Fin (.ok (.ret v)) { s with heap := h', toks := tk }) →
    codeAny (model prog w) A (.builtin "max.loop" ⟨[.ref it, .none, .ref cell], []⟩) Fin s := by
  have W := Walks.list (prog := prog) (w := w) (A := A.in1) calm it l away vs.toArray
  have many : vs.toArray.size = vs.length := List.size_toArray ..
  have named : (toString "max" ++ toString ".loop" : String) = "max.loop" := by decide
  have old : ∀ {b : Addr} {o : Obj}, h0.get? b = some o → b ∉ [it] ∧ b ≠ cell := fun {b o} e => by
    have z := Heap.lt_size e
    refine ⟨fun m => ?_, fun m => ?_⟩
    · rw [List.mem_singleton.mp m] at z
      exact absurd z (Nat.not_lt.mpr itNew)
    · rw [m] at z
      exact absurd z (Nat.not_lt.mpr cellNew)
  intro left
  induction left with
  | zero =>
    intro j s best ep e1 e2 keep iter eb hc fin
    have whole : j + 1 = vs.length := by omega
    refine codeAny_builtin PySem.F.entry_max_loop ?_
    rw [Around.under_plainId PySem.F.plain_max_loop _]
    show wpAny _ A.in1 (seqItems? (.ref cell) >>= _) _ _ s
    refine wpAny_bind (wpAny_seqItems hc rfl ?_)
    show wpAny _ A.in1 (tryCatch (pyNext (.ref it)) _ >>= _) _ _ s
    refine wpAny_bind (wpAny_tryCatch (W.done s _ _ ⟨by rw [many, ← whole]; exact iter, let ⟨o, ho, r⟩ := lst; ⟨o, keep _ _ ho, r⟩⟩ fun h' tk k1 => ?_))
    have hc1 := k1 cell _ (by simpa using cellIt) hc
    show wpAny _ A.in1 (updateSeq cell (fun _ => #[]) >>= _) _ _ _
    refine wpAny_bind ?_
    refine wpAny_updateSeq hc1 rfl (wpAny_bind (wpAny_letGo (wpAny_pure ?_)))
    refine fin best _ tk (by rw [← whole]; exact eb) fun b o e => ?_
    exact (Heap.get?_update_other _ _ (Ne.symm (old e).2)).trans (k1 b o (old e).1 (keep b o e))
  | succ left ih =>
    intro j s best ep e1 e2 keep iter eb hc fin
    have more : j + 1 < vs.length := by omega
    refine codeAny_builtin PySem.F.entry_max_loop ?_
    rw [Around.under_plainId PySem.F.plain_max_loop _]
    show wpAny _ A.in1 (seqItems? (.ref cell) >>= _) _ _ s
    refine wpAny_bind (wpAny_seqItems hc rfl ?_)
    show wpAny _ A.in1 (tryCatch (pyNext (.ref it)) _ >>= _) _ _ s
    refine wpAny_bind (wpAny_tryCatch (W.item (j + 1) s _ _ (by rw [many]; exact more) ⟨iter, let ⟨o, ho, r⟩ := lst; ⟨o, keep _ _ ho, r⟩⟩ fun v h' tk ev iter1 k1 => ?_))
    have ev1 : vs[j + 1]? = some v := by simpa using ev
    have hc1 := k1 cell _ (by simpa using cellIt) hc
    have keep1 : ∀ b o, h0.get? b = some o → h'.get? b = some o := fun b o e => k1 b o (old e).1 (keep b o e)
    show wpAny _ A.in1 (tryCatch (holding [v, v] (richCompare .Gt v best >>= _)) _ >>= _) _ _ _
    refine wpAny_bind (wpAny_tryCatch (wpAny_holding (wpAny_bind (cmp (j + 1) (argBest bt j) v best { s with heap := h', toks := tk } _ _ keep1 ev1 eb ?_))))
    refine wpAny_bind (wpAny_holding (wpAny_truthy_bool ?_))
    refine wpAny_bind (wpAny_letGo (wpAny_pure ?_))
    cases better : bt (j + 1) (argBest bt j) with
    | true =>
      simp only [if_true]
      refine wpAny_bind ?_
      refine wpAny_updateSeq hc1 rfl (wpAny_bind (wpAny_letGo ?_))
      rw [named]
      refine wpAny_pure ⟨plainId_quiet PySem.F.plain_max_loop _, ih (j + 1) _ v _ (by omega) more (fun b o e => ?_) ?_ (by simp only [argBest, better, if_true]; exact ev1) (Heap.get?_update_self _ hc1 rfl) fun v2 h2 tk2 a1 a2 => fin v2 h2 tk2 a1 a2⟩
      · exact (Heap.get?_update_other _ _ (Ne.symm (old e).2)).trans (keep1 b o e)
      · exact iter1.1.at fun o e => (Heap.get?_update_other _ _ cellIt).trans e
    | false =>
      simp only [Bool.false_eq_true, if_false]
      refine wpAny_bind (wpAny_letGo ?_)
      rw [named]
      exact wpAny_pure ⟨plainId_quiet PySem.F.plain_max_loop _, ih (j + 1) _ best ep (by omega) more keep1 iter1.1 (by simp only [argBest, better, Bool.false_eq_true, if_false]; exact eb) hc1 fun v2 h2 tk2 a1 a2 => fin v2 h2 tk2 a1 a2⟩
theorem pm_max {E Q : Value → Shared → Prop} {s : Shared} (calm : A.handled = none) (lst : s.heap.IsList l vs.toArray) (some1 : 0 < vs.length) (cmp : CmpK prog w A.in1 s.heap .Gt vs bt)
    (fin : ∀ v h' tk, vs[argBest bt (vs.length - 1)]? = some v → (∀ b o, s.heap.get? b = some o → h'.get? b = some o) → Q v { s with heap := h', toks := tk }) : wpAny (model prog w) A (call (.builtin "max") [.ref l]) Q E s := by
  have named : (toString "max" ++ toString ".loop" : String) = "max.loop" := by decide
  have lt : l < s.heap.objs.size := let ⟨_, e, _⟩ := lst; Heap.lt_size e
  refine call_function_tree PySem.F.kind_max PySem.F.plain_max PySem.F.entry_max (PySem.F.args_max1 _) ?_
  show wpAny _ A.in1 (Builtin.Builtins.bindParams "max" ["key", "default"] 0 ⟨[], []⟩ >>= _) _ _ s
  refine wpAny_bind (wpAny_of_eq (show Builtin.Builtins.bindParams "max" ["key", "default"] 0 ⟨[], []⟩ = pure [none, none] from rfl) ?_)
  refine wpAny_bind (wpAny_pure ?_)
  refine wpAny_bind (wpAny_pyIter_list lst ?_)
  refine wpAny_bind (wpAny_newObj_type ?_)
  rw [named]
  generalize hH : (s.heap.push { cls := .type "list_iterator", data := .fields #[.ref l, .int 0 0] }) = H1
  have size1 : H1.objs.size = s.heap.objs.size + 1 := by rw [← hH, Heap.size_push]
  have atIt : H1.IsListIter s.heap.objs.size l 0 := by
    rw [← hH]
    exact ⟨_, Heap.get?_push_size _ rfl, rfl, rfl⟩
  have keep1 : ∀ b o, s.heap.get? b = some o → H1.get? b = some o := fun b o e => by
    rw [← hH]
    exact Heap.get?_push_of_some _ e
  refine wpAny_pure ⟨plainId_quiet PySem.F.plain_max_loop _, ?_⟩
  have W := Walks.list (prog := prog) (w := w) (A := A.in1) calm s.heap.objs.size l (Nat.ne_of_lt lt) vs.toArray
  have many : vs.toArray.size = vs.length := List.size_toArray ..
  have hcell : (H1.push { cls := .type "list", dict := none, data := .seq #[] 0, slots := #[] }).get? H1.objs.size = some { cls := .type "list", dict := none, data := .seq #[] 0, slots := #[] } := Heap.get?_push_size _ rfl
  have keep2 : ∀ b o, H1.get? b = some o → (H1.push { cls := .type "list", dict := none, data := .seq #[] 0, slots := #[] }).get? b = some o := fun b o e => Heap.get?_push_of_some _ e
  refine codeAny_builtin PySem.F.entry_max_loop ?_
  rw [Around.under_plainId PySem.F.plain_max_loop _]
  show wpAny _ A.in1 (seqItems? (.ref H1.objs.size) >>= _) _ _ { s with heap := H1.push { cls := .type "list", dict := none, data := .seq #[] 0, slots := #[] } }
  refine wpAny_bind (wpAny_seqItems hcell rfl ?_)
  show wpAny _ A.in1 (tryCatch (pyNext (.ref s.heap.objs.size)) _ >>= _) _ _ _
  refine wpAny_bind (wpAny_tryCatch (W.item 0 _ _ _ (by rw [many]; exact some1) ⟨atIt.at fun o e => keep2 _ _ e, let ⟨o, ho, r⟩ := lst; ⟨o, keep2 _ _ (keep1 _ _ ho), r⟩⟩ fun v h' tk ev iter1 k1 => ?_))
  have ev1 : vs[0]? = some v := by simpa using ev
  have off : H1.objs.size ≠ s.heap.objs.size := by omega
  have hc1 := k1 H1.objs.size _ (by simpa using off) hcell
  show wpAny _ A.in1 (updateSeq H1.objs.size (fun _ => #[v, v]) >>= _) _ _ _
  refine wpAny_bind ?_
  refine wpAny_updateSeq hc1 rfl ?_
  rw [named]
  refine wpAny_pure ⟨plainId_quiet PySem.F.plain_max_loop _, pm_max_turn calm (Nat.ne_of_lt lt) (Nat.le_refl _) lst cmp H1.objs.size (by omega) off _ 0 _ v _ rfl some1 (fun b o e => ?_) ?_ ev1 (Heap.get?_update_self _ hc1 rfl) fun v2 h2 tk2 a1 a2 => fin v2 h2 tk2 a1 a2⟩
  · have z := Heap.lt_size e
    refine (Heap.get?_update_other _ _ (Nat.ne_of_gt (show b < H1.objs.size by rw [size1]; exact Nat.lt_succ_of_lt z))).trans (k1 b o (fun m => ?_) (keep2 _ _ (keep1 _ _ e)))
    rw [List.mem_singleton.mp m] at z
    exact absurd z (Nat.lt_irrefl _)
  · exact iter1.1.at fun o e => (Heap.get?_update_other _ _ off).trans e
end

/-! the order of pairs -/
def lexO (p q : Int × Int) : Bool := decide (p.1 < q.1 ∨ (p.1 = q.1 ∧ p.2 < q.2))
theorem lexO_iff {p q : Int × Int} : lexO p q = true ↔ p.1 < q.1 ∨ (p.1 = q.1 ∧ p.2 < q.2) := decide_eq_true_iff
theorem lexLt2 (a b c d : Int) : HT.lexLt [a, b] [c, d] = lexO (a, b) (c, d) := by
  unfold lexO
  simp only [HT.lexLt]
  by_cases h1 : a = c
  · subst h1
    simp
    omega
  · simp [h1]
theorem argBest_lex (f : Nat → Int × Int) : ∀ n, argBest (fun i j => lexO (f i) (f j)) n ≤ n ∧ ∀ j, j ≤ n → lexO (f j) (f (argBest (fun i j => lexO (f i) (f j)) n)) = false := by
  intro n
  induction n with
  | zero =>
    refine ⟨Nat.le_refl _, fun j hj => ?_⟩
    rw [Nat.le_zero.mp hj]
    refine decide_eq_false ?_
    show ¬ ((f 0).1 < (f 0).1 ∨ ((f 0).1 = (f 0).1 ∧ (f 0).2 < (f 0).2))
    omega
  | succ n ih =>
    obtain ⟨i1, i2⟩ := ih
    unfold argBest
    generalize argBest (fun i j => lexO (f i) (f j)) n = m at i1 i2 ⊢
    cases hb : lexO (f (n + 1)) (f m) with
    | true =>
      rw [if_pos rfl]
      refine ⟨Nat.le_refl _, fun j hj => ?_⟩
      have hm := lexO_iff.mp hb
      by_cases e : j = n + 1
      · subst e
        exact decide_eq_false (by omega)
      · have := of_decide_eq_false (i2 j (by omega))
        exact decide_eq_false (by omega)
    | false =>
      rw [if_neg (by decide)]
      refine ⟨by omega, fun j hj => ?_⟩
      by_cases e : j = n + 1
      · rw [e]
        exact hb
      · exact i2 j (by omega)
theorem argBest_gex (f : Nat → Int × Int) : ∀ n, argBest (fun i j => lexO (f j) (f i)) n ≤ n ∧ ∀ j, j ≤ n → lexO (f (argBest (fun i j => lexO (f j) (f i)) n)) (f j) = false := by
  intro n
  induction n with
  | zero =>
    refine ⟨Nat.le_refl _, fun j hj => ?_⟩
    rw [Nat.le_zero.mp hj]
    refine decide_eq_false ?_
    show ¬ ((f 0).1 < (f 0).1 ∨ ((f 0).1 = (f 0).1 ∧ (f 0).2 < (f 0).2))
    omega
  | succ n ih =>
    obtain ⟨i1, i2⟩ := ih
    unfold argBest
    generalize argBest (fun i j => lexO (f j) (f i)) n = m at i1 i2 ⊢
    cases hb : lexO (f m) (f (n + 1)) with
    | true =>
      rw [if_pos rfl]
      refine ⟨Nat.le_refl _, fun j hj => ?_⟩
      have hm := lexO_iff.mp hb
      by_cases e : j = n + 1
      · subst e
        exact decide_eq_false (by omega)
      · have := of_decide_eq_false (i2 j (by omega))
        exact decide_eq_false (by omega)
    | false =>
      rw [if_neg (by decide)]
      refine ⟨by omega, fun j hj => ?_⟩
      by_cases e : j = n + 1
      · rw [e]
        exact hb
      · exact i2 j (by omega)
/-- < and > of two pairs that stand in the heap -/
theorem ints_pair {l : List Value} {x y : Int} (h : IntsAre l [x, y]) : ∃ t u, l = [.int x t, .int y u] := by
  cases h with
  | cons _ t1 r1 =>
    cases r1 with
    | cons _ t2 r2 =>
      cases r2
      exact ⟨t1, t2, rfl⟩
section
variable {prog : Program} {w : World} {A : Around} {s : Shared}
theorem rich_lt_pair {a b : Addr} {x y z u : Int} {Q E : Value → Shared → Prop} (h1 : TS.TupInts s.heap (.ref a) [x, y]) (h2 : TS.TupInts s.heap (.ref b) [z, u]) (hu : A.units < cLine) (q : Q (.bool (lexO (x, y) (z, u))) s) : wpAny (model prog w) A (richCompare .Lt (.ref a) (.ref b)) Q E s := by
  obtain ⟨c, i1, e1, T1, I1⟩ := h1
  obtain ⟨d, i2, e2, T2, I2⟩ := h2
  cases e1
  cases e2
  exact HT.lt_tupInts T1 T2 I1 I2 hu (by rw [lexLt2]; exact q)
theorem rich_gt_pair {a b : Addr} {x y z u : Int} {Q E : Value → Shared → Prop} (h1 : TS.TupInts s.heap (.ref a) [x, y]) (h2 : TS.TupInts s.heap (.ref b) [z, u]) (hu : A.units < cLine) (q : Q (.bool (lexO (z, u) (x, y))) s) : wpAny (model prog w) A (richCompare .Gt (.ref a) (.ref b)) Q E s := by
  obtain ⟨c, i1, e1, T1, I1⟩ := h1
  obtain ⟨d, i2, e2, T2, I2⟩ := h2
  cases e1
  cases e2
  obtain ⟨t1, t2, k1⟩ := ints_pair I1
  obtain ⟨t3, t4, k2⟩ := ints_pair I2
  obtain rfl : i1 = #[.int x t1, .int y t2] := by rw [← Array.toArray_toList (xs := i1), k1]
  obtain rfl : i2 = #[.int z t3, .int u t4] := by rw [← Array.toArray_toList (xs := i2), k2]
  refine Ob.RcOp.tuples_gt (e := fun j => if j = 0 then x == z else y == u) (r := fun j => if j = 0 then decide (x > z) else decide (y > u)) T1 T2 hu (fun j p1 p2 => ?_) (fun j p1 p2 _ => ?_) prog w E Q ?_
  · rcases (show j = 0 ∨ j = 1 by simp at p1; omega) with rfl | rfl
    · exact SeqAt.EqAt.int_int x t1 z t3
    · exact SeqAt.EqAt.int_int y t2 u t4
  · rcases (show j = 0 ∨ j = 1 by simp at p1; omega) with rfl | rfl
    · intro P W E' Q' q'
      exact richCompare_gives (op := .Gt) (typeIs_int _ _ _) (typeIs_int _ _ _) PySem.F.slot_int_gt PySem.F.entry_int_gt (PySem.F.args_int_gt_2 _ _) (gives_int_gt _ _ _ _) (fun x => nomatch x) q'
    · intro P W E' Q' q'
      exact richCompare_gives (op := .Gt) (typeIs_int _ _ _) (typeIs_int _ _ _) PySem.F.slot_int_gt PySem.F.entry_int_gt (PySem.F.args_int_gt_2 _ _) (gives_int_gt _ _ _ _) (fun x => nomatch x) q'
  · have e : Ob.lexAt (fun j => if j = 0 then x == z else y == u) (fun j => if j = 0 then decide (x > z) else decide (y > u)) (decide ((#[Value.int x t1, .int y t2] : Array Value).size > (#[Value.int z t3, .int u t4] : Array Value).size)) 0 (min (#[Value.int x t1, .int y t2] : Array Value).size (#[Value.int z t3, .int u t4] : Array Value).size) = lexO (z, u) (x, y) := by
      show Ob.lexAt _ _ (decide (2 > 2)) 0 2 = _
      simp only [Ob.lexAt, lexO]
      by_cases h1 : x = z
      · subst h1
        by_cases h2 : y = u
        · subst h2
          simp
        · simp [h2]
      · simp [h1]
        omega
    rw [e]
    exact q
end
/-- min(xs), max(xs), xs a list of pairs of ints: an item that no other is beside -/
def rMinP (K : PySem.W.Frag) (f : Int × Int → Int × Int → Bool) : List V → Hp → VK → Prop := fun vs H Q => ∃ (a : Addr) (ks : List (Addr × (Int × Int))), vs = [V.ref a] ∧ SqL K H a (ks.map fun p => V.ref p.1) ∧ (∀ p ∈ ks, SqT K H p.1 [.int p.2.1, .int p.2.2]) ∧ ks ≠ [] ∧
  ∀ p, p ∈ ks → (∀ r ∈ ks, f r.2 p.2 = false) → Q (.ref p.1) H
theorem refs_of_valsP : ∀ {ks : List (Addr × (Int × Int))} {us : List Value}, Vals (ks.map fun p => V.ref p.1) us → us = ks.map fun p => Value.ref p.1
  | [], _, .nil => rfl
  | p :: ks, _, .cons r t => by
    cases r
    rw [refs_of_valsP t] <;> rfl
section
variable {X : Cx}
theorem cmpK_of {pins : List (Addr × Obj)} {σ : St} {H : Hp} {s : Shared} (I : Inv X pins σ H s) {ks : List (Addr × (Int × Int))} (hk : ∀ p ∈ ks, SqT X.K H p.1 [.int p.2.1, .int p.2.2]) {A : Around} (hu : A.units < cLine) :
    CmpK X.prog X.w A s.heap .Lt (ks.map fun p => Value.ref p.1) (fun i j => lexO ((ks.map (·.2)).getD i (0, 0)) ((ks.map (·.2)).getD j (0, 0))) ∧ CmpK X.prog X.w A s.heap .Gt (ks.map fun p => Value.ref p.1) (fun i j => lexO ((ks.map (·.2)).getD j (0, 0)) ((ks.map (·.2)).getD i (0, 0))) := by
  have at_ : ∀ {i : Nat} {u : Value} {s' : Shared}, (∀ b o, s.heap.get? b = some o → s'.heap.get? b = some o) → (ks.map fun p => Value.ref p.1)[i]? = some u → ∃ a, u = .ref a ∧ TS.TupInts s'.heap (.ref a) [((ks.map (·.2)).getD i (0, 0)).1, ((ks.map (·.2)).getD i (0, 0)).2] := by
    intro i u s' keep e
    rw [List.getElem?_map] at e
    obtain ⟨p, e1, rfl⟩ := Option.map_eq_some_iff.mp e
    refine ⟨p.1, rfl, ?_⟩
    have e2 : (ks.map (·.2)).getD i (0, 0) = p.2 := by rw [List.getD_eq_getElem?_getD, List.getElem?_map, e1] <;> rfl
    rw [e2]
    obtain ⟨c, its, ec, ⟨o, ho, hc, n, hd⟩, hi⟩ := tupI_raw I (ns := [p.2.1, p.2.2]) (hk p (List.mem_of_getElem? e1))
    exact ⟨c, its, ec, ⟨o, keep _ _ ho, hc, n, hd⟩, hi⟩
  refine ⟨fun i j u v s' Q E keep eu ev q => ?_, fun i j u v s' Q E keep eu ev q => ?_⟩
  · obtain ⟨a, rfl, ta⟩ := at_ keep eu
    obtain ⟨b, rfl, tb⟩ := at_ keep ev
    exact rich_lt_pair ta tb hu q
  · obtain ⟨a, rfl, ta⟩ := at_ keep eu
    obtain ⟨b, rfl, tb⟩ := at_ keep ev
    exact rich_gt_pair ta tb hu q
theorem getD_map2 {ks : List (Addr × (Int × Int))} {i : Nat} {p : Addr × (Int × Int)} (e : ks[i]? = some p) : (ks.map (·.2)).getD i (0, 0) = p.2 := by rw [List.getD_eq_getElem?_getD, List.getElem?_map, e] <;> rfl
theorem cr_minP (hc : X.calm = true) (hu : X.A.units + 8 < cLine) : CallR X (.builtin "min") (rMinP X.K lexO) := by
  rintro pins s σ H vs us Q I r ⟨a, ks, rfl, hs, hk, hne, q⟩
  obtain ⟨its, rv, hl, _⟩ := I.list hs
  rw [Vals.ref1 r]
  obtain rfl := refs_of_valsP rv
  have pos : 0 < ks.length := List.length_pos_iff.mpr hne
  refine pm_min (I.ok.hd hc) hl.isList (by rw [List.length_map]; exact pos) (cmpK_of I hk (by show X.A.units + 1 < cLine; omega)).1 fun v h' tk ev keep => ?_
  rw [List.getElem?_map] at ev
  obtain ⟨p, e1, rfl⟩ := Option.map_eq_some_iff.mp ev
  rw [List.length_map] at e1
  refine ⟨.ref p.1, H, I.kept keep, rfl, q p (List.mem_of_getElem? e1) fun r hr => ?_⟩
  obtain ⟨j, hj, er⟩ := List.mem_iff_getElem.mp hr
  have z := (argBest_lex (fun i => (ks.map (·.2)).getD i (0, 0)) (ks.length - 1)).2 j (by omega)
  rw [getD_map2 e1, getD_map2 (List.getElem?_eq_some_iff.mpr ⟨hj, er⟩)] at z
  exact z
theorem cr_maxP (hc : X.calm = true) (hu : X.A.units + 8 < cLine) : CallR X (.builtin "max") (rMinP X.K fun p q => lexO q p) := by
  rintro pins s σ H vs us Q I r ⟨a, ks, rfl, hs, hk, hne, q⟩
  obtain ⟨its, rv, hl, _⟩ := I.list hs
  rw [Vals.ref1 r]
  obtain rfl := refs_of_valsP rv
  have pos : 0 < ks.length := List.length_pos_iff.mpr hne
  refine pm_max (I.ok.hd hc) hl.isList (by rw [List.length_map]; exact pos) (cmpK_of I hk (by show X.A.units + 1 < cLine; omega)).2 fun v h' tk ev keep => ?_
  rw [List.getElem?_map] at ev
  obtain ⟨p, e1, rfl⟩ := Option.map_eq_some_iff.mp ev
  rw [List.length_map] at e1
  refine ⟨.ref p.1, H, I.kept keep, rfl, q p (List.mem_of_getElem? e1) fun r hr => ?_⟩
  obtain ⟨j, hj, er⟩ := List.mem_iff_getElem.mp hr
  have z := (argBest_gex (fun i => (ks.map (·.2)).getD i (0, 0)) (ks.length - 1)).2 j (by omega)
  rw [getD_map2 e1, getD_map2 (List.getElem?_eq_some_iff.mpr ⟨hj, er⟩)] at z
  exact z
end
end L2
set_option Elab.async false
set_option linter.all false
set_option maxRecDepth 100000
set_option maxHeartbeats 1000000
set_option exponentiation.threshold 20000
namespace Fen
open PySem PySem.Spec PyProof.Rows L2
/-! points, each with the address of its tuple -/
abbrev Pts := List (Addr × Hull.P)
def refs (ks : Pts) : List V := ks.map fun p => V.ref p.1
def At (K : PySem.W.Frag) (H : Hp) (ks : Pts) : Prop := ∀ p ∈ ks, SqT K H p.1 [.int p.2.1, .int p.2.2]
theorem At.same {K : PySem.W.Frag} {H H' : Hp} {ks : Pts} (h : At K H ks) (s : Same H H') : At K H' ks := fun p hp => s.seqT (h p hp)
theorem At.sub {K : PySem.W.Frag} {H : Hp} {ks ls : Pts} (h : At K H ks) (s : ∀ p ∈ ls, p ∈ ks) : At K H ls := fun p hp => h p (s p hp)
/-- coordinates that can be multiplied -/
def Sm (p : Hull.P) : Prop := p.1.natAbs < 2 ^ 210 ∧ p.2.natAbs < 2 ^ 210
theorem refs_len (ks : Pts) : (refs ks).length = ks.length := List.length_map ..
theorem refs_get {ks : Pts} {i : Nat} {v : V} (h : (refs ks)[i]? = some v) : ∃ p, ks[i]? = some p ∧ v = .ref p.1 := by
  unfold refs at h
  rw [List.getElem?_map] at h
  obtain ⟨p, e, r⟩ := Option.map_eq_some_iff.mp h
  exact ⟨p, e, r.symm⟩
theorem refs_at {ks : Pts} {i : Nat} {p : Addr × Hull.P} (h : ks[i]? = some p) : (refs ks)[i]? = some (.ref p.1) := by
  unfold refs
  rw [List.getElem?_map, h]
  rfl
def popK (r : Hull.P) : Pts → Pts
  | b :: a :: rest => if Hull.turn a.2 b.2 r ≤ 0 then popK r (a :: rest) else b :: a :: rest
  | st => st
def pushK (st : Pts) (r : Addr × Hull.P) : Pts := r :: popK r.2 st
def halfK (ks : Pts) : Pts := ks.foldl pushK []
def hullK (ks : Pts) : Pts := (halfK ks).reverse.dropLast ++ (halfK ks.reverse).reverse.dropLast
theorem popK_one (r : Hull.P) (p : Addr × Hull.P) : popK r [p] = [p] := rfl
theorem popK_go {r : Hull.P} {b a : Addr × Hull.P} {rest : Pts} (h : Hull.turn a.2 b.2 r ≤ 0) : popK r (b :: a :: rest) = popK r (a :: rest) := by
  show (if Hull.turn a.2 b.2 r ≤ 0 then popK r (a :: rest) else b :: a :: rest) = _
  rw [if_pos h]
theorem popK_stay {r : Hull.P} {b a : Addr × Hull.P} {rest : Pts} (h : ¬ Hull.turn a.2 b.2 r ≤ 0) : popK r (b :: a :: rest) = b :: a :: rest := by
  show (if Hull.turn a.2 b.2 r ≤ 0 then popK r (a :: rest) else b :: a :: rest) = _
  rw [if_neg h]
theorem popK_snd (r : Hull.P) : ∀ st : Pts, (popK r st).map (·.2) = Hull.pop r (st.map (·.2))
  | [] => rfl
  | [p] => rfl
  | b :: a :: rest => by
    by_cases h : Hull.turn a.2 b.2 r ≤ 0
    · rw [popK_go h, popK_snd r (a :: rest)]
      show _ = (if Hull.turn a.2 b.2 r ≤ 0 then Hull.pop r ((a :: rest).map (·.2)) else _)
      rw [if_pos h]
    · rw [popK_stay h]
      show _ = (if Hull.turn a.2 b.2 r ≤ 0 then Hull.pop r ((a :: rest).map (·.2)) else _)
      rw [if_neg h]
      rfl
theorem popK_sub (r : Hull.P) : ∀ st : Pts, ∀ p ∈ popK r st, p ∈ st
  | [], p, hp => hp
  | [q], p, hp => hp
  | b :: a :: rest, p, hp => by
    by_cases h : Hull.turn a.2 b.2 r ≤ 0
    · rw [popK_go h] at hp
      exact List.mem_cons_of_mem _ (popK_sub r (a :: rest) p hp)
    · rw [popK_stay h] at hp
      exact hp
theorem popK_len (r : Hull.P) : ∀ st : Pts, (popK r st).length ≤ st.length
  | [] => Nat.le_refl _
  | [q] => Nat.le_refl _
  | b :: a :: rest => by
    by_cases h : Hull.turn a.2 b.2 r ≤ 0
    · rw [popK_go h]
      exact Nat.le_trans (popK_len r (a :: rest)) (by simp)
    · rw [popK_stay h]
      exact Nat.le_refl _
theorem fold_snd : ∀ (ks st : Pts), (ks.foldl pushK st).map (·.2) = (ks.map (·.2)).foldl Hull.push (st.map (·.2))
  | [], st => rfl
  | k :: ks, st => by
    show (ks.foldl pushK (pushK st k)).map (·.2) = (ks.map (·.2)).foldl Hull.push (Hull.push (st.map (·.2)) k.2)
    rw [fold_snd ks]
    show List.foldl Hull.push (k.2 :: (popK k.2 st).map (·.2)) _ = _
    rw [popK_snd]
    rfl
theorem half_snd (ks : Pts) : (halfK ks).map (·.2) = Hull.half (ks.map (·.2)) := fold_snd ks []
theorem fold_sub : ∀ (ks st : Pts), ∀ p ∈ ks.foldl pushK st, p ∈ ks ∨ p ∈ st
  | [], st, p, h => .inr h
  | k :: ks, st, p, h => by
    rcases fold_sub ks (pushK st k) p h with z | z
    · exact .inl (List.mem_cons_of_mem _ z)
    · rcases List.mem_cons.mp z with rfl | z
      · exact .inl List.mem_cons_self
      · exact .inr (popK_sub _ _ _ z)
theorem half_sub (ks : Pts) : ∀ p ∈ halfK ks, p ∈ ks := fun p h => (fold_sub ks [] p h).elim id fun z => nomatch z
theorem fold_len : ∀ (ks st : Pts), (ks.foldl pushK st).length ≤ ks.length + st.length
  | [], st => by simp
  | k :: ks, st => by
    have h := fold_len ks (pushK st k)
    have h2 : (pushK st k).length ≤ st.length + 1 := Nat.succ_le_succ (popK_len k.2 st)
    have h3 : (k :: ks).length = ks.length + 1 := rfl
    show (ks.foldl pushK (pushK st k)).length ≤ _
    omega
theorem half_len (ks : Pts) : (halfK ks).length ≤ ks.length := fold_len ks []
theorem half_snoc (ks : Pts) (p : Addr × Hull.P) : halfK (ks ++ [p]) = pushK (halfK ks) p := by
  unfold halfK
  rw [List.foldl_append]
  rfl
theorem take_succ_at {α : Type} {l : List α} {i : Nat} {x : α} (h : l[i]? = some x) : l.take (i + 1) = l.take i ++ [x] := by rw [List.take_succ, h] <;> rfl
theorem hullK_snd (ks : Pts) : (hullK ks).map (·.2) = Hull.hull (ks.map (·.2)) := by
  unfold hullK Hull.hull
  rw [List.map_append, ← half_snd, ← List.map_reverse (l := ks), ← half_snd]
  simp [List.map_reverse, List.map_dropLast]
theorem hullK_sub (ks : Pts) : ∀ p ∈ hullK ks, p ∈ ks := fun p h => by
  rcases List.mem_append.mp h with z | z
  · exact half_sub ks p (List.mem_reverse.mp (List.dropLast_subset _ z))
  · exact List.mem_reverse.mp (half_sub ks.reverse p (List.mem_reverse.mp (List.dropLast_subset _ z)))
/-- the lists as they stand in the heap -/
theorem refs_last {ks : Pts} {p : Addr × Hull.P} : (refs (p :: ks).reverse)[(refs (p :: ks).reverse).length - 1]? = some (.ref p.1) := by
  have e : refs (p :: ks).reverse = refs ks.reverse ++ [.ref p.1] := by simp [refs]
  rw [e, List.length_append, List.length_singleton, Nat.add_sub_cancel, List.getElem?_append_right (Nat.le_refl _), Nat.sub_self]
  rfl
theorem refs_drop {ks : Pts} {p : Addr × Hull.P} : (refs (p :: ks).reverse).dropLast = refs ks.reverse := by
  have e : refs (p :: ks).reverse = refs ks.reverse ++ [.ref p.1] := by simp [refs]
  rw [e, List.dropLast_concat]
theorem at_1 {ks : Pts} {p : Addr × Hull.P} : atI (refs (p :: ks).reverse) (-1) = some (.ref p.1) := by
  have e : refs (p :: ks).reverse = refs ks.reverse ++ [.ref p.1] := by simp [refs]
  rw [e]
  exact atI_last _ _
theorem atI_2 (xs : List V) (u v : V) : atI (xs ++ [u] ++ [v]) (-2) = some u := by
  have l : (xs ++ [u] ++ [v]).length = xs.length + 2 := by simp
  have e : ixN (xs ++ [u] ++ [v]).length (-2) = some xs.length := by
    rw [l]
    unfold ixN
    have c : ((-2 : Int) + ((xs.length + 2 : Nat) : Int)).toNat = xs.length := by omega
    simp
    omega
  unfold atI
  rw [e]
  show (xs ++ [u] ++ [v])[xs.length]? = some u
  rw [List.append_assoc, List.getElem?_append_right (Nat.le_refl _), Nat.sub_self]
  rfl
theorem at_2 {ks : Pts} {p q : Addr × Hull.P} : atI (refs (p :: q :: ks).reverse) (-2) = some (.ref q.1) := by
  have e : refs (p :: q :: ks).reverse = (refs ks.reverse ++ [.ref q.1]) ++ [.ref p.1] := by simp [refs]
  rw [e]
  exact atI_2 _ _ _
/-- a turn -/
def spTurn (K : PySem.W.Frag) : Sp := fun vs H Q _ => ∃ (a b c : Addr) (p q r : Hull.P), vs = [.ref a, .ref b, .ref c] ∧ SqT K H a [.int p.1, .int p.2] ∧ SqT K H b [.int q.1, .int q.2] ∧ SqT K H c [.int r.1, .int r.2] ∧ Sm p ∧ Sm q ∧ Sm r ∧ Q (.int (Hull.turn p q r)) H
/-- the chain over points -/
def spHalf (K : PySem.W.Frag) : Sp := fun vs H Q _ => ∃ (a : Addr) (ks : Pts), vs = [.ref a] ∧ SqL K H a (refs ks) ∧ At K H ks ∧ (∀ p ∈ ks, Sm p.2) ∧ ks.length ≤ 1000 ∧ ∀ H' w, Same H H' → H w = none → H' w = some (.lst (refs (halfK ks).reverse)) → Q (.ref w) H'
theorem dif_small {x y : Int} (h1 : x.natAbs < 2 ^ 210) (h2 : y.natAbs < 2 ^ 210) : (x - y).natAbs < 2 ^ 212 := by
  have e : (2 : Nat) ^ 212 = 4 * 2 ^ 210 := by decide
  omega
end Fen
set_option Elab.async false
set_option linter.all false
set_option maxRecDepth 100000
set_option maxHeartbeats 1000000
set_option exponentiation.threshold 20000
namespace Fen
open PySem PySem.Spec PyProof.Rows L2
def enc (p : Addr × Hull.P) : Addr × List Int := (p.1, [p.2.1, p.2.2])
def dec (q : Addr × List Int) : Addr × Hull.P := (q.1, prOf q.2)
theorem dec_enc (p : Addr × Hull.P) : dec (enc p) = p := rfl
theorem refs_enc (ks : Pts) : (ks.map enc).map (fun p => V.ref p.1) = refs ks := by
  unfold refs
  rw [List.map_map]
  rfl
theorem asc_pts {ks : Pts} {L M : List (Addr × List Int)} (h1 : ∀ p ∈ L, p ∈ ks.map enc) (h2 : ∀ p ∈ ks.map enc, p.2 ∈ L.map (·.2)) (pm : M.Perm L) (nd : (M.map (·.2)).Nodup) (pw : M.Pairwise (fun q r => SrtO.lexB (prOf r.2) (prOf q.2) = false)) :
    M.map (fun q => V.ref q.1) = refs (M.map dec) ∧ (∀ p ∈ M.map dec, p ∈ ks) ∧ ((M.map dec).map (·.2)).Pairwise Hull.Lt ∧ ∀ x, x ∈ (M.map dec).map (·.2) ↔ x ∈ ks.map (·.2) := by
  have sub : ∀ q ∈ M, ∃ p ∈ ks, q = enc p := fun q hq => by
    obtain ⟨p, hp, e⟩ := List.mem_map.mp (h1 q (pm.mem_iff.mp hq))
    exact ⟨p, hp, e.symm⟩
  refine ⟨?_, fun p hp => ?_, ?_, fun x => ⟨fun hx => ?_, fun hx => ?_⟩⟩
  · unfold refs
    rw [List.map_map]
    rfl
  · obtain ⟨q, hq, rfl⟩ := List.mem_map.mp hp
    obtain ⟨p, hp2, rfl⟩ := sub q hq
    exact hp2
  · rw [List.map_map, List.pairwise_map]
    have both := List.Pairwise.and (List.pairwise_map.mp nd) pw
    refine List.Pairwise.imp_of_mem (fun {q r} hq hr z => ?_) both
    obtain ⟨p, _, rfl⟩ := sub q hq
    obtain ⟨p', _, rfl⟩ := sub r hr
    obtain ⟨ne, le⟩ := z
    have le2 := SrtO.lexB_no.mp le
    rcases Hull.Lt.total p.2 p'.2 with h | h | h
    · exact h
    · exact absurd (show [p.2.1, p.2.2] = [p'.2.1, p'.2.2] by rw [h]) ne
    · exact absurd h le2
  · obtain ⟨p, hp, rfl⟩ := List.mem_map.mp hx
    obtain ⟨q, hq, rfl⟩ := List.mem_map.mp hp
    obtain ⟨p, hp2, rfl⟩ := sub q hq
    exact List.mem_map.mpr ⟨p, hp2, rfl⟩
  · obtain ⟨p, hp, rfl⟩ := List.mem_map.mp hx
    obtain ⟨q, hq, e⟩ := List.mem_map.mp (h2 (enc p) (List.mem_map.mpr ⟨p, hp, rfl⟩))
    refine List.mem_map.mpr ⟨dec q, List.mem_map.mpr ⟨q, pm.mem_iff.mpr hq, rfl⟩, ?_⟩
    show prOf q.2 = p.2
    rw [e]
    rfl
/-- an ascending list is told by its members -/
theorem asc_uniq : ∀ {s t : List Hull.P}, s.Pairwise Hull.Lt → t.Pairwise Hull.Lt → (∀ x, x ∈ s ↔ x ∈ t) → s = t
  | [], [], _, _, _ => rfl
  | [], b :: t, _, _, h => absurd ((h b).mpr List.mem_cons_self) (by simp)
  | a :: s, [], _, _, h => absurd ((h a).mp List.mem_cons_self) (by simp)
  | a :: s, b :: t, hs, ht, h => by
    obtain ⟨s1, s2⟩ := List.pairwise_cons.mp hs
    obtain ⟨t1, t2⟩ := List.pairwise_cons.mp ht
    have e : a = b := by
      rcases List.mem_cons.mp ((h a).mp List.mem_cons_self) with z | z
      · exact z
      · rcases List.mem_cons.mp ((h b).mpr List.mem_cons_self) with y | y
        · exact y.symm
        · exact absurd ((t1 a z).trans (s1 b y)) Hull.Lt.irrefl
    subst e
    have h' : ∀ x, x ∈ s ↔ x ∈ t := fun x => by
      have hx := h x
      rw [List.mem_cons, List.mem_cons] at hx
      constructor
      · intro m
        rcases hx.mp (.inr m) with z | z
        · exact absurd (s1 x m) (fun l => l.ne z.symm)
        · exact z
      · intro m
        rcases hx.mpr (.inr m) with z | z
        · exact absurd (t1 x m) (fun l => l.ne z.symm)
        · exact z
    rw [asc_uniq s2 t2 h']
/-- the corners around an ascending list -/
def hul (s : List Hull.P) : List Hull.P := if s.length = 1 then s else Hull.hull s
theorem hull_two {a b : Hull.P} : Hull.hull [a, b] = [a, b] := by simp [Hull.hull, Hull.half, Hull.push, Hull.pop]
theorem hull_nil : Hull.hull [] = [] := rfl
theorem hul_few {s : List Hull.P} (h : s.length < 3) : hul s = s := by
  rcases s with _ | ⟨a, _ | ⟨b, _ | ⟨c, r⟩⟩⟩
  · rfl
  · rfl
  · exact hull_two
  · simp at h
    omega
/-- the promise of a def that tells the corners around points -/
def spHul (K : PySem.W.Frag) : Sp := fun vs H Q _ => ∃ (a : Addr) (ks : Pts), vs = [.ref a] ∧ SqL K H a (refs ks) ∧ At K H ks ∧ (∀ p ∈ ks, Sm p.2) ∧ ks.length < 64 ∧
  ∀ H' w (hs : Pts) (s : List Hull.P), Same H H' → H w = none → H' w = some (.lst (refs hs)) → (∀ p ∈ hs, p ∈ ks) → s.Pairwise Hull.Lt → (∀ x, x ∈ s ↔ x ∈ ks.map (·.2)) → hs.map (·.2) = hul s → Q (.ref w) H'
end Fen
set_option Elab.async false
set_option linter.all false
set_option maxRecDepth 100000
set_option maxHeartbeats 2000000
/-! repr of data: a fixed text of the data, while no repr is under way -/
namespace L2
open PySem PySem.Spec PyProof.Rows
def rReprD (K : PySem.W.Frag) : List V → Hp → VK → Prop := fun xs H Q => ∃ (a : Addr) (d : PyData), xs = [.ref a] ∧ Dp K H (.ref a) d ∧ d.showable = true ∧ d.hasDict = false ∧ d.shown.length ≤ sizeLine ∧ d.depth ≤ 20 ∧ Q (.str d.shown) H
theorem call_reprD {X : Cx} {k : Nat} (hgd : X.A.guards = some []) (hr : Room k X.A) : CallR X (.builtin "repr") (rReprD X.K) := by
  intro pins s σ H xs us Q I r h
  obtain ⟨a, d, rfl, hd, h1, h2, h3, h4, q⟩ := h
  obtain ⟨u, rfl, ru⟩ := vals1 r
  obtain rfl : u = Value.ref a := ru
  obtain ⟨as, rd⟩ := Dp.reads I d (.ref a) (.ref a) hd rfl
  have hu := hr.un
  exact PySem.repr_of_reads' rd h1 (fun z => by rw [h2] at z; cases z) hgd (by omega) (fun _ _ e => e) (fun h' u tk k => ⟨.str _, H, I.kept k, ⟨_, rfl⟩, q⟩) h3
end L2
set_option Elab.async false
set_option linter.all false
set_option maxRecDepth 100000
set_option maxHeartbeats 1000000
set_option exponentiation.threshold 20000
namespace Fen
open PySem PySem.Spec PyProof.Rows L2
/-! points and fences as data -/
def ptD (p : Hull.P) : PyData := .tuple [.int p.1, .int p.2]
def ptsD (ps : List Hull.P) : PyData := .list (ps.map ptD)
def fenD (b : Int) (ps : List Hull.P) : PyData := .tuple [.int b, ptsD ps, .list []]
theorem dp_pt {K : PySem.W.Frag} {H : Hp} {a : Addr} {p : Hull.P} (h : SqT K H a [.int p.1, .int p.2]) : Dp K H (.ref a) (ptD p) := .tup h (.cons (.int _) (.cons (.int _) .nil))
theorem dp_all {K : PySem.W.Frag} {H : Hp} : ∀ {ks : Pts}, At K H ks → DpAll K H (refs ks) ((ks.map (·.2)).map ptD)
  | [], _ => .nil
  | p :: ks, h => .cons (dp_pt (h p List.mem_cons_self)) (dp_all fun q hq => h q (List.mem_cons_of_mem _ hq))
theorem dp_pts {K : PySem.W.Frag} {H : Hp} {a : Addr} {ks : Pts} (hS : SqL K H a (refs ks)) (hT : At K H ks) : Dp K H (.ref a) (ptsD (ks.map (·.2))) := .lst hS (dp_all hT)
theorem pts_lay : ∀ ps : List Hull.P, PyData.canLayAll0 (ps.map ptD) = true ∧ PyData.depthAll (ps.map ptD) ≤ 1
  | [] => ⟨rfl, by decide⟩
  | p :: ps => by
    have h := pts_lay ps
    refine ⟨by simp [PyData.canLayAll0, PyData.canLay0, ptD, h.1], ?_⟩
    simp only [List.map_cons, PyData.depthAll, ptD, PyData.depth]
    have := h.2
    omega
theorem shaped_pt (p : Hull.P) : SeqAt.shaped (ptD p) = true := by
  unfold SeqAt.shaped
  simp [ptD, PyData.canLay0, PyData.canLayAll0, PyData.depth, PyData.depthAll]
theorem shaped_pts (ps : List Hull.P) : SeqAt.shaped (ptsD ps) = true := by
  unfold SeqAt.shaped ptsD
  simp only [PyData.canLay0, PyData.depth, (pts_lay ps).1, Bool.true_and]
  exact decide_eq_true (by have := (pts_lay ps).2; omega)
theorem shaped_fen (b : Int) (ps : List Hull.P) : SeqAt.shaped (fenD b ps) = true := by
  have h := pts_lay ps
  unfold SeqAt.shaped fenD ptsD
  simp only [PyData.canLay0, PyData.canLayAll0, PyData.depth, PyData.depthAll, h.1, Bool.true_and, Bool.and_true]
  exact decide_eq_true (by have := h.2; omega)
theorem eqv_self {d : PyData} (h : SeqAt.shaped d = true) : PyData.eqv d d = true := SeqAt.eqv_refl _ (SeqAt.canLay_of_shaped h)
theorem eqv_nil (ps : List Hull.P) : PyData.eqv (ptsD ps) (.list []) = ps.isEmpty := by
  cases ps with
  | nil => exact eqv_self (shaped_pts [])
  | cons p ps => simp [ptsD, PyData.eqv, PyData.eqvAll]
theorem any_mem {p : Hull.P} {ps : List Hull.P} (h : p ∈ ps) : ((ps.map ptD).any fun z => PyData.eqv z (ptD p)) = true := List.any_eq_true.mpr ⟨ptD p, List.mem_map.mpr ⟨p, h, rfl⟩, eqv_self (shaped_pt p)⟩
/-- their texts -/
theorem int_show {i : Int} (h : i.natAbs < 10 ^ 31) : (PyData.int i).showable = true ∧ (PyData.int i).shown.length ≤ 40 := by
  have lg : i.natAbs.log2 < 1920 := Nat.lt_of_lt_of_le (PySem.Flt.log2_lt_of (by decide) (Nat.lt_trans h (by decide : 10 ^ 31 < 2 ^ 110))) (by decide)
  refine ⟨by simp [PyData.showable, lg], ?_⟩
  show (Str.ofString (toString i)).length ≤ 40
  rw [PySem.ofString_length]
  exact Nat.le_trans (PySem.int_text_length_le10 (k := 31) (by decide) h) (by decide)
def Sh (p : Hull.P) : Prop := p.1.natAbs < 10 ^ 31 ∧ p.2.natAbs < 10 ^ 31
theorem pt_show {p : Hull.P} (h : Sh p) : (ptD p).showable = true ∧ (ptD p).hasDict = false ∧ (ptD p).shown.length ≤ 87 := by
  obtain ⟨a1, a2⟩ := int_show h.1
  obtain ⟨b1, b2⟩ := int_show h.2
  refine ⟨by
    simp [PyData.showable] at a1 b1
    simp [ptD, PyData.showable, PyData.showableAll, a1, b1], rfl, ?_⟩
  have z := tupleText_len_le (PyData.shownAll [.int p.1, .int p.2])
  simp only [PyData.shownAll, List.map_cons, List.map_nil, List.sum_cons, List.sum_nil, List.length_cons, List.length_nil] at z
  show (tupleText (PyData.shownAll [.int p.1, .int p.2])).length ≤ 87
  simp only [PyData.shownAll]
  omega
theorem pts_show : ∀ {ps : List Hull.P}, (∀ p ∈ ps, Sh p) → PyData.showableAll (ps.map ptD) = true ∧ PyData.hasDictAll (ps.map ptD) = false ∧ ((PyData.shownAll (ps.map ptD)).map (·.length)).sum + 2 * (PyData.shownAll (ps.map ptD)).length ≤ 89 * ps.length
  | [], _ => ⟨rfl, rfl, by simp [PyData.shownAll]⟩
  | p :: ps, h => by
    obtain ⟨a1, a2, a3⟩ := pt_show (h p List.mem_cons_self)
    obtain ⟨b1, b2, b3⟩ := pts_show fun q hq => h q (List.mem_cons_of_mem _ hq)
    refine ⟨by simp [PyData.showableAll, a1, b1], by simp [PyData.hasDictAll, a2, b2], ?_⟩
    simp only [List.map_cons, PyData.shownAll, List.sum_cons, List.length_cons]
    omega
theorem fen_show {b : Int} {ps : List Hull.P} (hb : b.natAbs < 10 ^ 31) (h : ∀ p ∈ ps, Sh p) (l : ps.length ≤ 20) : (fenD b ps).showable = true ∧ (fenD b ps).hasDict = false ∧ (fenD b ps).shown.length ≤ sizeLine ∧ (fenD b ps).depth ≤ 20 := by
  obtain ⟨a1, a2⟩ := int_show hb
  obtain ⟨b1, b2, b3⟩ := pts_show h
  refine ⟨by
    simp [PyData.showable] at a1
    simp [fenD, ptsD, PyData.showable, PyData.showableAll, a1, b1], by simp [fenD, ptsD, PyData.hasDict, PyData.hasDictAll, b2], ?_, ?_⟩
  · have z1 := listText_len_le (PyData.shownAll (ps.map ptD))
    have z2 := tupleText_len_le (PyData.shownAll [.int b, ptsD ps, .list []])
    have z3 : (PyData.shown (.list [])).length ≤ 3 := by decide
    refine sz20 (Nat.le_trans z2 ?_)
    have z4 : (PyData.shown (ptsD ps)).length ≤ 89 * ps.length + 3 := Nat.le_trans z1 (by omega)
    simp only [PyData.shownAll, List.map_cons, List.map_nil, List.sum_cons, List.sum_nil, List.length_cons, List.length_nil]
    omega
  · have := (pts_lay ps).2
    simp only [fenD, ptsD, PyData.depth, PyData.depthAll]
    omega
end Fen
set_option Elab.async false
set_option linter.all false
set_option maxRecDepth 100000
set_option maxHeartbeats 1000000
set_option exponentiation.threshold 20000
namespace K38
open PySem PySem.Spec PyProof.Rows L2 Fen
def topS (i : Nat) : Stmt := PySem.Challenge.pw_growfences_k38_lines_that_meet_fences.main.body.getD i (.Pass ⟨0, 0, 0, 0⟩)
abbrev sTurnP : Stmt := topS 6
theorem scTurnP : FnScope ["one", "two", "three"] ["one", "two", "three"] (defScope sTurnP) := ⟨rfl, rfl, rfl, by decide +kernel, rfl, by decide +kernel, by decide +kernel⟩
section
variable {P : Program} {w : World} {K : PySem.W.Frag} {mg : Str → Option Value} {base : Heap}
theorem ok_TurnP {f : Addr} {fd : FuncData} {k : Nat} (F : Fun K "turn" "turn" sTurnP f fd) : FnOk P w K mg base CX0 (k + 1) f fd ["one", "two", "three"] (spTurn K) := by
  refine F.ok scTurnP (fun vs H Q E h => ?_) (fun cdv A outer s H vs Q E hr h => ?_)
  · obtain ⟨a, b, c, p, q, r, rfl, _⟩ := h
    rfl
  · obtain ⟨a, b, c, p, q, r, rfl, ha, hb, hc, sp, sq, sr, k⟩ := h
    refine ⟨_, pss_one (ps_ret (pe_op op_sub (pe_op op_mulW (pe_op op_sub (pe_ix ix_tup (pv 1) pe_int (fun _ _ => rfl)) (pe_ix ix_tup (pv 0) pe_int (fun _ _ => rfl))) (pe_op op_sub (pe_ix ix_tup (pv 2) pe_int (fun _ _ => rfl)) (pe_ix ix_tup (pv 0) pe_int (fun _ _ => rfl)))) (pe_op op_mulW (pe_op op_sub (pe_ix ix_tup (pv 1) pe_int (fun _ _ => rfl)) (pe_ix ix_tup (pv 0) pe_int (fun _ _ => rfl))) (pe_op op_sub (pe_ix ix_tup (pv 2) pe_int (fun _ _ => rfl)) (pe_ix ix_tup (pv 0) pe_int (fun _ _ => rfl)))))), ?_⟩
    refine ⟨.ref b, rfl, b, _, 0, .int q.1, rfl, rfl, hb, rfl, .ref a, rfl, a, _, 0, .int p.1, rfl, rfl, ha, rfl, _, _, rfl, rfl, .ref c, rfl, c, _, 1, .int r.2, rfl, rfl, hc, rfl, .ref a, rfl, a, _, 1, .int p.2, rfl, rfl, ha, rfl, _, _, rfl, rfl, _, _, rfl, rfl, wide_mul (dif_small sq.1 sp.1) (dif_small sr.2 sp.2) (by decide) (by decide) (by decide), .ref b, rfl, b, _, 1, .int q.2, rfl, rfl, hb, rfl, .ref a, rfl, a, _, 1, .int p.2, rfl, rfl, ha, rfl, _, _, rfl, rfl, .ref c, rfl, c, _, 0, .int r.1, rfl, rfl, hc, rfl, .ref a, rfl, a, _, 0, .int p.1, rfl, rfl, ha, rfl, _, _, rfl, rfl, _, _, rfl, rfl, wide_mul (dif_small sq.2 sp.2) (dif_small sr.1 sp.1) (by decide) (by decide) (by decide), _, _, rfl, rfl, k⟩
end
end K38
set_option Elab.async false
set_option linter.all false
set_option maxRecDepth 100000
set_option maxHeartbeats 1000000
set_option exponentiation.threshold 20000
namespace K38
open PySem PySem.Spec PyProof.Rows L2 Fen
abbrev sInt : Stmt := topS 14
abbrev sBet : Stmt := topS 15
abbrev sIsP : Stmt := topS 16
abbrev sIsC : Stmt := topS 17
abbrev sIsB : Stmt := topS 18
abbrev sChB : Stmt := topS 22
theorem scInt : FnScope ["value"] ["value"] (defScope sInt) := ⟨rfl, rfl, rfl, by decide +kernel, rfl, by decide +kernel, by decide +kernel⟩
theorem scBet : FnScope ["value", "least", "greatest"] ["value", "least", "greatest"] (defScope sBet) := ⟨rfl, rfl, rfl, by decide +kernel, rfl, by decide +kernel, by decide +kernel⟩
theorem scIsP : FnScope ["value"] ["value"] (defScope sIsP) := ⟨rfl, rfl, rfl, by decide +kernel, rfl, by decide +kernel, by decide +kernel⟩
theorem scIsC : FnScope ["value"] ["value"] (defScope sIsC) := ⟨rfl, rfl, rfl, by decide +kernel, rfl, by decide +kernel, by decide +kernel⟩
theorem scIsB : FnScope ["value"] ["value"] (defScope sIsB) := ⟨rfl, rfl, rfl, by decide +kernel, rfl, by decide +kernel, by decide +kernel⟩
theorem scChB : FnScope ["value"] ["value"] (defScope sChB) := ⟨rfl, rfl, rfl, by decide +kernel, rfl, by decide +kernel, by decide +kernel⟩
/-- within the range of corners -/
def Co (p : Hull.P) : Prop := -(10 : Int) ^ 30 ≤ p.1 ∧ p.1 ≤ 10 ^ 30 ∧ -(10 : Int) ^ 30 ≤ p.2 ∧ p.2 ≤ 10 ^ 30
theorem Co.sm {p : Hull.P} (h : Co p) : Sm p := by
  obtain ⟨a, b, c, d⟩ := h
  have e : (10 : Int) ^ 30 < 2 ^ 210 := by decide
  have e2 : ((2 : Int) ^ 210) = ((2 ^ 210 : Nat) : Int) := by decide
  unfold Sm
  generalize hL : (10 : Int) ^ 30 = L at *
  rw [e2] at e
  generalize (2 : Nat) ^ 210 = M at *
  omega
section
variable {P : Program} {w : World} {K : PySem.W.Frag} {mg : Str → Option Value} {base : Heap}
/-- what the program's text says of names -/
structure Nms (mg : Str → Option Value) : Prop where
  mii : mg "isinstance" = none
  mint : mg "int" = none
  mbool : mg "bool" = none
  mtup : mg "tuple" = none
  mlst : mg "list" = none
  mlen : mg "len" = none
  menum : mg "enumerate" = none
  lim : ∃ t, mg "LIMIT" = some (.int (10 ^ 30) t)
  gb : ∃ t, mg "GREATEST_BOTTOM" = some (.int 30 t)
  mc : ∃ t, mg "MOST_CORNERS" = some (.int 10 t)
def spInt : Sp := fun vs H Q _ => ∃ i : Int, vs = [.int i] ∧ Q (.bl true) H
theorem kit_ii {K : PySem.W.Frag} : PySem.W.kitOne K (.type "int") (.type "int") = some true := kit_ty (by decide +kernel)
theorem kit_ib {K : PySem.W.Frag} : PySem.W.kitOne K (.type "int") (.type "bool") = some false := kit_ty (by decide +kernel)
theorem kit_tt {K : PySem.W.Frag} : PySem.W.kitOne K (.type "tuple") (.type "tuple") = some true := kit_ty (by decide +kernel)
theorem kit_ll {K : PySem.W.Frag} : PySem.W.kitOne K (.type "list") (.type "list") = some true := kit_ty (by decide +kernel)
theorem ok_int {f : Addr} {fd : FuncData} {k : Nat} (F : Fun K "is_integer" "is_integer" sInt f fd) (T : Nms mg) : FnOk P w K mg base CX0 (k + 1) f fd ["value"] spInt := by
  refine F.ok scInt (fun vs H Q E h => ?_) (fun cdv A outer s H vs Q E hr h => ?_)
  · obtain ⟨i, rfl, _⟩ := h
    rfl
  · obtain ⟨i, rfl, q⟩ := h
    refine ⟨_, pss_one (ps_ret (pe_and (pe_callB call_isi (by rfl) T.mii (by decide +kernel) (pa_cons (pv 0) (pa_cons (pe_bltn (v := .ty "int") (by rfl) T.mint (by decide +kernel) rfl) pa_nil)))
      (pe_and1 (pe_not (pe_callB call_isi (by rfl) T.mii (by decide +kernel) (pa_cons (pv 0) (pa_cons (pe_bltn (v := .ty "bool") (by rfl) T.mbool (by decide +kernel) rfl) pa_nil))))))), ?_⟩
    refine ⟨_, rfl, .int i, .ty "int", .type "int", .type "int", true, rfl, .ty _, .base (.int i), kit_ii, true, rfl, ?_⟩
    rw [if_pos rfl]
    exact ⟨_, rfl, .int i, .ty "bool", .type "int", .type "bool", false, rfl, .ty _, .base (.int i), kit_ib, false, rfl, q⟩
def spBet : Sp := fun vs H Q _ => ∃ i lo hi : Int, vs = [.int i, .int lo, .int hi] ∧ lo ≤ i ∧ i ≤ hi ∧ Q (.bl true) H
theorem ok_bet {f fI : Addr} {fd fdI : FuncData} {k : Nat} (F : Fun K "is_between" "is_between" sBet f fd) (FI : Fun K "is_integer" "is_integer" sInt fI fdI) (bI : Binds K fdI ["value"] []) (gI : mg "is_integer" = some (.ref fI)) (T : Nms mg) : FnOk P w K mg base CX0 (k + 1 + 1) f fd ["value", "least", "greatest"] spBet := by
  have OI : FnOk P w K mg base CX0 1 fI fdI ["value"] spInt := ok_int FI T
  refine F.ok scBet (fun vs H Q E h => ?_) (fun cdv A outer s H vs Q E hr h => ?_)
  · obtain ⟨i, lo, hi, rfl, _⟩ := h
    rfl
  · obtain ⟨i, lo, hi, rfl, h1, h2, q⟩ := h
    refine ⟨_, pss_one (ps_ret (pe_and (pe_call OI (hr.mono (by omega)) (by rfl) gI FI.kp bI .nil pass0 (pa_cons (pv 0) pa_nil)) (pe_and1 (pe_chain op_le op_le (pv 1) (pv 0) (pv 2))))), ?_⟩
    refine ⟨_, rfl, i, rfl, true, rfl, ?_⟩
    rw [if_pos rfl]
    refine ⟨_, rfl, _, rfl, _, _, rfl, rfl, _, rfl, ?_⟩
    rw [if_pos (decide_eq_true h1)]
    refine ⟨_, rfl, _, _, rfl, rfl, ?_⟩
    exact (show Q (.bl (decide (i ≤ hi))) H by rw [decide_eq_true h2]; exact q)
def spIsP (K : PySem.W.Frag) : Sp := fun vs H Q _ => ∃ (a : Addr) (i j : Int), vs = [.ref a] ∧ SqT K H a [.int i, .int j] ∧ Q (.bl true) H
theorem ok_isP {f fI : Addr} {fd fdI : FuncData} {k : Nat} (F : Fun K "is_point" "is_point" sIsP f fd) (FI : Fun K "is_integer" "is_integer" sInt fI fdI) (bI : Binds K fdI ["value"] []) (gI : mg "is_integer" = some (.ref fI)) (T : Nms mg) : FnOk P w K mg base CX0 (k + 1 + 1) f fd ["value"] (spIsP K) := by
  have OI : FnOk P w K mg base CX0 1 fI fdI ["value"] spInt := ok_int FI T
  refine F.ok scIsP (fun vs H Q E h => ?_) (fun cdv A outer s H vs Q E hr h => ?_)
  · obtain ⟨a, i, j, rfl, _⟩ := h
    rfl
  · obtain ⟨a, i, j, rfl, hT, q⟩ := h
    have h1 : Room 1 (A.deeper (envOfC "is_point" (defScope sIsP) s.heap.objs.size f cdv)) := hr.mono (by omega)
    refine ⟨_, pss_one (ps_ret (pe_and (pe_callB call_isi (by rfl) T.mii (by decide +kernel) (pa_cons (pv 0) (pa_cons (pe_bltn (v := .ty "tuple") (by rfl) T.mtup (by decide +kernel) rfl) pa_nil)))
      (pe_and (pe_cmpR op_eq (pe_callB call_len_seq (by rfl) T.mlen PySem.boot_len (pa_cons (pv 0) pa_nil)) pe_int (nomark _))
      (pe_and (pe_call OI h1 (by rfl) gI FI.kp bI .nil pass0 (pa_cons (pe_ix ix_tup (pv 0) pe_int (fun _ _ => rfl)) pa_nil))
      (pe_and1 (pe_call OI h1 (by rfl) gI FI.kp bI .nil pass0 (pa_cons (pe_ix ix_tup (pv 0) pe_int (fun _ _ => rfl)) pa_nil))))))), ?_⟩
    refine ⟨_, rfl, .ref a, .ty "tuple", .type "tuple", .type "tuple", true, rfl, .ty _, ty_tup hT, kit_tt, true, rfl, ?_⟩
    rw [if_pos rfl]
    refine ⟨.ref a, rfl, a, _, rfl, .inr hT, rfl, _, rfl, ?_⟩
    refine iteT ?_
    refine ⟨.ref a, rfl, a, _, 0, .int i, rfl, rfl, hT, rfl, i, rfl, true, rfl, ?_⟩
    rw [if_pos rfl]
    exact ⟨.ref a, rfl, a, _, 1, .int j, rfl, rfl, hT, rfl, j, rfl, q⟩
def spIsC (K : PySem.W.Frag) : Sp := fun vs H Q _ => ∃ (a : Addr) (p : Hull.P), vs = [.ref a] ∧ SqT K H a [.int p.1, .int p.2] ∧ Co p ∧ Q (.bl true) H
theorem ok_isC {f fI : Addr} {fd fdI : FuncData} {k : Nat} (F : Fun K "is_corner" "is_corner" sIsC f fd) (OI : FnOk P w K mg base CX0 (k + 1) fI fdI ["value"] (spIsP K)) (kI : PySem.W.keepIn K (.ref fI) = true) (bI : Binds K fdI ["value"] []) (gI : mg "is_point" = some (.ref fI)) (T : Nms mg) : FnOk P w K mg base CX0 (k + 1 + 1) f fd ["value"] (spIsC K) := by
  obtain ⟨t, lim⟩ := T.lim
  refine F.ok scIsC (fun vs H Q E h => ?_) (fun cdv A outer s H vs Q E hr h => ?_)
  · obtain ⟨a, p, rfl, _⟩ := h
    rfl
  · obtain ⟨a, p, rfl, hT, ⟨c1, c2, c3, c4⟩, q⟩ := h
    refine ⟨_, pss_one (ps_ret (pe_and (pe_call OI hr (by rfl) gI kI bI .nil pass0 (pa_cons (pv 0) pa_nil))
      (pe_and (pe_chain op_le op_le (pe_un un_neg (pe_glob (v := .int (10 ^ 30)) (by rfl) lim ⟨_, rfl⟩)) (pe_ix ix_tup (pv 0) pe_int (fun _ _ => rfl)) (pe_glob (v := .int (10 ^ 30)) (by rfl) lim ⟨_, rfl⟩))
      (pe_and1 (pe_chain op_le op_le (pe_un un_neg (pe_glob (v := .int (10 ^ 30)) (by rfl) lim ⟨_, rfl⟩)) (pe_ix ix_tup (pv 0) pe_int (fun _ _ => rfl)) (pe_glob (v := .int (10 ^ 30)) (by rfl) lim ⟨_, rfl⟩)))))), ?_⟩
    refine ⟨_, rfl, a, p.1, p.2, rfl, hT, true, rfl, ?_⟩
    rw [if_pos rfl]
    refine ⟨_, rfl, .ref a, rfl, a, _, 0, .int p.1, rfl, rfl, hT, rfl, _, _, rfl, rfl, _, rfl, ?_⟩
    rw [if_pos (decide_eq_true c1)]
    refine ⟨_, _, rfl, rfl, _, rfl, ?_⟩
    rw [if_pos (decide_eq_true c2)]
    refine ⟨_, rfl, .ref a, rfl, a, _, 1, .int p.2, rfl, rfl, hT, rfl, _, _, rfl, rfl, _, rfl, ?_⟩
    rw [if_pos (decide_eq_true c3)]
    exact ⟨_, _, rfl, rfl, (show Q (.bl (decide (p.2 ≤ 10 ^ 30))) H by rw [decide_eq_true c4]; exact q)⟩
def spIsB : Sp := fun vs H Q _ => ∃ i : Int, vs = [.int i] ∧ 1 ≤ i ∧ i ≤ 30 ∧ Q (.bl true) H
theorem ok_isB {f fI : Addr} {fd fdI : FuncData} {k : Nat} (F : Fun K "is_bottom" "is_bottom" sIsB f fd) (OI : FnOk P w K mg base CX0 (k + 1) fI fdI ["value", "least", "greatest"] spBet) (kI : PySem.W.keepIn K (.ref fI) = true) (bI : Binds K fdI ["value", "least", "greatest"] []) (gI : mg "is_between" = some (.ref fI)) (T : Nms mg) : FnOk P w K mg base CX0 (k + 1 + 1) f fd ["value"] spIsB := by
  obtain ⟨t, gb⟩ := T.gb
  refine F.ok scIsB (fun vs H Q E h => ?_) (fun cdv A outer s H vs Q E hr h => ?_)
  · obtain ⟨i, rfl, _⟩ := h
    rfl
  · obtain ⟨i, rfl, h1, h2, q⟩ := h
    refine ⟨_, pss_one (ps_ret (pe_call OI hr (by rfl) gI kI bI .nil pass0 (pa_cons (pv 0) (pa_cons pe_int (pa_cons (pe_glob (v := .int 30) (by rfl) gb ⟨_, rfl⟩) pa_nil))))), ?_⟩
    exact ⟨_, rfl, i, 1, 30, rfl, h1, h2, q⟩
def spChB : Sp := fun vs H Q _ => ∃ i : Int, vs = [.int i] ∧ 1 ≤ i ∧ i ≤ 30 ∧ Q .non H
theorem ok_chB {f fI : Addr} {fd fdI : FuncData} {k : Nat} (F : Fun K "check_bottom" "check_bottom" sChB f fd) (OI : FnOk P w K mg base CX0 (k + 1) fI fdI ["value"] spIsB) (kI : PySem.W.keepIn K (.ref fI) = true) (bI : Binds K fdI ["value"] []) (gI : mg "is_bottom" = some (.ref fI)) : FnOk P w K mg base CX0 (k + 1 + 1) f fd ["value"] spChB := by
  refine F.ok scChB (fun vs H Q E h => ?_) (fun cdv A outer s H vs Q E hr h => ?_)
  · obtain ⟨i, rfl, _⟩ := h
    rfl
  · obtain ⟨i, rfl, h1, h2, q⟩ := h
    refine ⟨_, pss_one (ps_if (pt_not (pt_val (pe_call OI hr (by rfl) gI kI bI .nil pass0 (pa_cons (pv 0) pa_nil)))) (pss_one ps_no) pss_nil), ?_⟩
    refine ⟨_, rfl, i, rfl, h1, h2, true, rfl, ?_⟩
    exact iteF q
end
end K38
set_option Elab.async false
set_option linter.all false
set_option maxRecDepth 100000
set_option maxHeartbeats 1000000
namespace Fen
open Hull (P turn Lt half push pop hull Poly)
theorem pop_some (r : P) : ∀ st : List P, st ≠ [] → pop r st ≠ []
  | [], h => absurd rfl h
  | [q], _ => by simp [pop]
  | b :: a :: rest, _ => by
    unfold pop
    split
    · exact pop_some r (a :: rest) (by simp)
    · simp
theorem pop_last (r : P) : ∀ st : List P, (pop r st).getLast? = st.getLast?
  | [] => rfl
  | [q] => rfl
  | b :: a :: rest => by
    unfold pop
    split
    · rw [pop_last r (a :: rest)]
      simp
    · rfl
theorem fold_last : ∀ (ps st : List P), st ≠ [] → (ps.foldl push st).getLast? = st.getLast? ∧ ps.foldl push st ≠ []
  | [], st, h => ⟨rfl, h⟩
  | r :: ps, st, h => by
    have e : push st r = r :: pop r st := rfl
    obtain ⟨h1, h2⟩ := fold_last ps (push st r) (by rw [e]; simp)
    refine ⟨?_, h2⟩
    show (ps.foldl push (push st r)).getLast? = _
    rw [h1, e, List.getLast?_cons_of_ne_nil (pop_some r st h), pop_last]
theorem half_last {m : P} {rest : List P} : (half (m :: rest)).getLast? = some m := (fold_last rest [m] (by simp)).1
theorem half_two {m x : P} {rest : List P} : 2 ≤ (half (m :: (rest ++ [x]))).length := by
  have e : half (m :: (rest ++ [x])) = x :: pop x (rest.foldl push [m]) := by
    show (rest ++ [x]).foldl push [m] = _
    rw [List.foldl_append]
    rfl
  have z := pop_some x (rest.foldl push [m]) (fold_last rest [m] (by simp)).2
  rw [e]
  have : 0 < (pop x (rest.foldl push [m])).length := List.length_pos_iff.mpr z
  simp only [List.length_cons]
  omega
theorem mem_dropLast {l : List P} {x : P} (h : l.getLast? = some x) (h2 : 2 ≤ l.length) : x ∈ l.reverse.dropLast := by
  obtain ⟨l', rfl⟩ : ∃ l', l = l' ++ [x] := by
    have := List.getLast?_eq_some_iff.mp h
    exact this
  rw [List.reverse_append]
  have : l'.reverse ≠ [] := by
    intro z
    rw [List.reverse_eq_nil_iff] at z
    rw [z] at h2
    simp at h2
  show x ∈ ([x] ++ l'.reverse).dropLast
  rw [List.dropLast_append_of_ne_nil this]
  exact List.mem_append_left _ (by simp)
/-- the least and the greatest are corners -/
theorem ends_in {m M : P} {mid : List P} : m ∈ hull (m :: (mid ++ [M])) ∧ M ∈ hull (m :: (mid ++ [M])) := by
  unfold hull
  refine ⟨List.mem_append_left _ (mem_dropLast half_last half_two), List.mem_append_right _ ?_⟩
  have e : (m :: (mid ++ [M])).reverse = M :: (mid.reverse ++ [m]) := by simp
  rw [e]
  exact mem_dropLast half_last half_two
structure Around (s c : List P) : Prop where
  le : ∃ m, c[0]? = some m ∧ m ∈ s ∧ ∀ x ∈ s, x ≠ m → Lt m x
  sub : ∀ x ∈ c, x ∈ s
  cs : (c.length = 1 ∧ ∃ m, c = [m] ∧ ∀ x ∈ s, x = m) ∨ (∃ a b, c = [a, b] ∧ b ∈ s ∧ (∀ x ∈ s, x ≠ b → Lt x b) ∧ ∀ x ∈ s, turn a b x = 0) ∨
    (3 ≤ c.length ∧ ∀ i a b d, i < c.length → c[i]? = some a → c[(i + 1) % c.length]? = some b → c[(i + 2) % c.length]? = some d → 0 < turn a b d ∧ ∀ x ∈ s, 0 ≤ turn a b x)
theorem around {s : List P} (hs : s.Pairwise Lt) (h1 : 1 ≤ s.length) : Around s (hul s) := by
  by_cases h : s.length = 1
  · obtain ⟨m, rfl⟩ : ∃ m, s = [m] := List.length_eq_one_iff.mp h
    have e : hul [m] = [m] := rfl
    rw [e]
    refine ⟨⟨m, rfl, by simp, fun x hx n => absurd (List.mem_singleton.mp hx) n⟩, fun x hx => hx, .inl ⟨rfl, m, rfl, fun x hx => List.mem_singleton.mp hx⟩⟩
  · have h2 : 2 ≤ s.length := by omega
    have e : hul s = hull s := if_neg h
    rw [e]
    have Y := Hull.poly hs h2
    obtain ⟨m, mid, M, rfl⟩ : ∃ m mid M, s = m :: (mid ++ [M]) := by
      cases s with
      | nil => simp at h2
      | cons m rest =>
        rcases Hull.last_cases rest with rfl | ⟨l', x, rfl⟩
        · simp at h2
        · exact ⟨m, l', x, rfl⟩
    obtain ⟨pm, pr⟩ := List.pairwise_cons.mp hs
    obtain ⟨_, _, pM⟩ := List.pairwise_append.mp pr
    have least : ∀ x ∈ m :: (mid ++ [M]), x ≠ m → Lt m x := fun x hx n => by
      rcases List.mem_cons.mp hx with z | z
      · exact absurd z n
      · exact pm x z
    have most : ∀ x ∈ m :: (mid ++ [M]), x ≠ M → Lt x M := fun x hx n => by
      rcases List.mem_cons.mp hx with z | z
      · rw [z]
        exact pm M (by simp)
      · rcases List.mem_append.mp z with y | y
        · exact pM x y M (by simp)
        · exact absurd (List.mem_singleton.mp y) n
    obtain ⟨m', e0, e1, _⟩ := Y.first
    obtain rfl : m = m' := Option.some.inj e1
    obtain ⟨inm, inM⟩ := ends_in (m := m) (mid := mid) (M := M)
    have mM : Lt m M := pm M (by simp)
    have two := Y.two
    refine ⟨⟨m, e0, by simp, least⟩, Y.mem, .inr ?_⟩
    generalize hull (m :: (mid ++ [M])) = c at *
    by_cases h3 : c.length = 2
    · left
      obtain ⟨a, b, rfl⟩ : ∃ a b, c = [a, b] := by
        rcases c with _ | ⟨a, _ | ⟨b, _ | ⟨d, r⟩⟩⟩
        · simp at h3
        · simp at h3
        · exact ⟨a, b, rfl⟩
        · simp at h3
      obtain rfl : a = m := Option.some.inj e0
      have eb : b = M := by
        rcases List.mem_cons.mp inM with z | z
        · exact absurd (z ▸ mM) Lt.irrefl
        · exact (List.mem_singleton.mp z).symm
      subst eb
      refine ⟨a, b, rfl, by simp, most, fun x hx => ?_⟩
      have w0 := Y.weak 0 (by simp) x hx
      have w1 := Y.weak 1 (by simp) x hx
      have w0' : 0 ≤ turn a b x := w0
      have w1' : 0 ≤ turn b a x := by simpa using w1
      rw [Hull.turn_swap] at w1'
      omega
    · right
      refine ⟨by omega, fun i a b d hi ea eb ed => ⟨?_, fun x hx => ?_⟩⟩
      · have ja : c[i] = a := Option.some.inj ((List.getElem?_eq_getElem hi).symm.trans ea)
        have lb : (i + 1) % c.length < c.length := Nat.mod_lt _ (by omega)
        have ld : (i + 2) % c.length < c.length := Nat.mod_lt _ (by omega)
        have jb : c[(i + 1) % c.length] = b := Option.some.inj ((List.getElem?_eq_getElem lb).symm.trans eb)
        have jd : c[(i + 2) % c.length] = d := Option.some.inj ((List.getElem?_eq_getElem ld).symm.trans ed)
        have n1 : (i + 2) % c.length ≠ i := fun z => by
          by_cases q : i + 2 < c.length
          · rw [Nat.mod_eq_of_lt q] at z
            omega
          · have : (i + 2) % c.length = i + 2 - c.length := by rw [Nat.mod_eq_sub_mod (by omega), Nat.mod_eq_of_lt (by omega)]
            omega
        have n2 : (i + 2) % c.length ≠ (i + 1) % c.length := fun z => by
          by_cases q : i + 2 < c.length
          · rw [Nat.mod_eq_of_lt q, Nat.mod_eq_of_lt (by omega)] at z
            omega
          · have e2 : (i + 2) % c.length = i + 2 - c.length := by rw [Nat.mod_eq_sub_mod (by omega), Nat.mod_eq_of_lt (by omega)]
            by_cases q1 : i + 1 < c.length
            · rw [Nat.mod_eq_of_lt q1] at z
              omega
            · have e1 : (i + 1) % c.length = i + 1 - c.length := by rw [Nat.mod_eq_sub_mod (by omega), Nat.mod_eq_of_lt (by omega)]
              omega
        have z := Y.strict i ((i + 2) % c.length) hi ld n1 n2
        rw [ja, jb, jd] at z
        exact z
      · have ja : c[i] = a := Option.some.inj ((List.getElem?_eq_getElem hi).symm.trans ea)
        have lb : (i + 1) % c.length < c.length := Nat.mod_lt _ (by omega)
        have jb : c[(i + 1) % c.length] = b := Option.some.inj ((List.getElem?_eq_getElem lb).symm.trans eb)
        have z := Y.weak i hi x hx
        rw [ja, jb] at z
        exact z
end Fen
set_option Elab.async false
set_option linter.all false
set_option maxRecDepth 100000
/-! gcd of three -/
namespace L2
open PySem PySem.Spec PyProof.Rows
theorem gcd3_args (x y z : Value) : argsOk "math.gcd" ⟨[x, y, z], []⟩ := by
  unfold argsOk
  kernel_rfl
theorem gcd3_run (a : Int) (t : Tok) (b : Int) (u : Tok) (c : Int) (v : Tok) : Gives (Builtin.«math.gcd» ⟨[.int a t, .int b u, .int c v], []⟩) (.int (((((Nat.gcd 0 a.natAbs).gcd b.natAbs).gcd c.natAbs : Nat) : Int))) :=
  .of_wp fun M A E s Q k => by
    obtain ⟨h0, g0, d0, n0, o0⟩ := s
    wp_walk
    exact ⟨_, rfl, k⟩
/-- the greatest divisor that three have in common -/
def g3 (a b c : Int) : Int := (((a.natAbs.gcd b.natAbs).gcd c.natAbs : Nat) : Int)
def rGcd3 : List V → Hp → VK → Prop := fun vs H Q => ∃ a b c : Int, vs = [.int a, .int b, .int c] ∧ Q (.int (g3 a b c)) H
theorem cr_gcd3 {X : Cx} : CallR X (.builtin "math.gcd") rGcd3 := by
  rintro pins s σ H vs us Q I r ⟨a, b, c, rfl, q⟩
  obtain ⟨w1, rest, rfl, f1, r2⟩ : ∃ u rest, us = u :: rest ∧ RelV (.int a) u ∧ Vals [.int b, .int c] rest := by
    cases r with
    | cons r rr => exact ⟨_, _, rfl, r, rr⟩
  obtain ⟨w2, w3, rfl, f2, f3⟩ := vals2 r2
  obtain ⟨t1, rfl⟩ := f1
  obtain ⟨t2, rfl⟩ := f2
  obtain ⟨t3, rfl⟩ := f3
  have g := gcd3_run a t1 b t2 c t3
  rw [Nat.gcd_zero_left] at g
  exact call_function_meets PySem.W.MGF.kind_gcd PySem.W.MGF.plain_gcd PySem.W.MGF.entry_gcd (gcd3_args _ _ _) g.meets ⟨.int _, H, I.tok _, ⟨_, rfl⟩, q⟩
end L2
set_option Elab.async false
set_option linter.all false
set_option maxRecDepth 100000
set_option maxHeartbeats 1000000
namespace Fen
open Hull (P turn Lt)
/-! what fences are -/
structure Out (cs : List P) : Prop where
  first : ∃ m, cs[0]? = some m ∧ ∀ x ∈ cs, x ≠ m → Lt m x
  left : ∀ i j a b d, i < cs.length → j < cs.length → cs[i]? = some a → cs[(i + 1) % cs.length]? = some b → cs[j]? = some d → j ≠ i → j ≠ (i + 1) % cs.length → 0 < turn a b d
def Shape (cs : List P) : Prop := cs.length = 1 ∨ (∃ a b, cs = [a, b] ∧ Lt a b) ∨ (3 ≤ cs.length ∧ Out cs)
def tot (cs : List P) : Nat := if cs.length = 1 then 0 else cs.length
theorem shape_hul {s : List P} (hs : s.Pairwise Lt) (h1 : 1 ≤ s.length) : Shape (hul s) ∧ 1 ≤ (hul s).length ∧ ∀ x ∈ hul s, x ∈ s := by
  by_cases h : s.length = 1
  · have e : hul s = s := if_pos h
    rw [e]
    exact ⟨.inl h, h1, fun x hx => hx⟩
  · have e : hul s = Hull.hull s := if_neg h
    have Y := Hull.poly hs (by omega)
    rw [e]
    have two := Y.two
    refine ⟨.inr ?_, by omega, Y.mem⟩
    obtain ⟨m, e0, _, least⟩ := Y.first
    by_cases h2 : (Hull.hull s).length = 2
    · left
      obtain ⟨a, b, e2⟩ : ∃ a b, Hull.hull s = [a, b] := by
        generalize Hull.hull s = c at h2
        rcases c with _ | ⟨a, _ | ⟨b, _ | ⟨d, r⟩⟩⟩
        · simp at h2
        · simp at h2
        · exact ⟨a, b, rfl⟩
        · simp at h2
      refine ⟨a, b, e2, ?_⟩
      have nd := Y.nodup
      rw [e2] at e0 least nd
      obtain rfl : a = m := Option.some.inj e0
      exact least b (by simp) (fun z => by
        rw [z] at nd
        simp at nd)
    · right
      refine ⟨by omega, ⟨m, e0, least⟩, fun i j a b d hi hj ea eb ed n1 n2 => ?_⟩
      have ja : (Hull.hull s)[i] = a := Option.some.inj ((List.getElem?_eq_getElem hi).symm.trans ea)
      have lb : (i + 1) % (Hull.hull s).length < (Hull.hull s).length := Nat.mod_lt _ (by omega)
      have jb : (Hull.hull s)[(i + 1) % (Hull.hull s).length] = b := Option.some.inj ((List.getElem?_eq_getElem lb).symm.trans eb)
      have jd : (Hull.hull s)[j] = d := Option.some.inj ((List.getElem?_eq_getElem hj).symm.trans ed)
      have z := Y.strict i j hi hj n1 n2
      rw [ja, jb, jd] at z
      exact z
/-- how many corners are strictly left of a side -/
theorem range_two {n i i' : Nat} (h1 : i < n) (h2 : i' < n) (h : i ≠ i') : ((List.range n).filter fun j => decide (j ≠ i) && decide (j ≠ i')).length = n - 2 := by
  have nd : (List.range n).Nodup := List.nodup_range
  have e1 : (List.range n).erase i = (List.range n).filter (fun j => j != i) := nd.erase_eq_filter i
  have e2 : ((List.range n).erase i).erase i' = ((List.range n).erase i).filter (fun j => j != i') := (nd.erase i).erase_eq_filter i'
  have m2 : i' ∈ (List.range n).erase i := (List.mem_erase_of_ne (Ne.symm h)).mpr (List.mem_range.mpr h2)
  have l1 := List.length_erase_of_mem (List.mem_range.mpr h1)
  have l2 := List.length_erase_of_mem m2
  have l3 : (((List.range n).erase i).erase i').length = n - 1 - 1 := by rw [l2, l1, List.length_range]
  rw [e2, e1, List.filter_filter] at l3
  have e3 : (fun j => decide (j ≠ i) && decide (j ≠ i')) = fun j => (j != i') && (j != i) := by
    funext j
    by_cases a : j = i <;> by_cases b : j = i' <;> simp [a, b]
  rw [e3, l3]
  omega
theorem left_count {cs : List P} (h3 : 3 ≤ cs.length) (O : Out cs) {i : Nat} {a b : P} (hi : i < cs.length) (ea : cs[i]? = some a) (eb : cs[(i + 1) % cs.length]? = some b) : (cs.filter fun x => decide (0 < turn a b x)).length = cs.length - 2 := by
  have lb : (i + 1) % cs.length < cs.length := Nat.mod_lt _ (by omega)
  have ne : i ≠ (i + 1) % cs.length := fun z => by
    by_cases q : i + 1 < cs.length
    · rw [Nat.mod_eq_of_lt q] at z
      omega
    · have : (i + 1) % cs.length = i + 1 - cs.length := by rw [Nat.mod_eq_sub_mod (by omega), Nat.mod_eq_of_lt (by omega)]
      omega
  have em : cs = (List.range cs.length).map fun j => cs.getD j (0, 0) := by
    refine List.ext_getElem? fun j => ?_
    rw [List.getElem?_map]
    by_cases h : j < cs.length
    · rw [List.getElem?_range h, List.getElem?_eq_getElem h]
      simp [List.getD_eq_getElem?_getD, List.getElem?_eq_getElem h]
    · rw [List.getElem?_eq_none (by omega), List.getElem?_eq_none (by rw [List.length_range]; omega)]
      rfl
  have step : (cs.filter fun x => decide (0 < turn a b x)).length = (((List.range cs.length).map fun j => cs.getD j (0, 0)).filter fun x => decide (0 < turn a b x)).length := by rw [← em]
  rw [step, List.filter_map, List.length_map, ← range_two hi lb ne]
  congr 1
  refine List.filter_congr fun j hj => ?_
  have lj : j < cs.length := List.mem_range.mp hj
  obtain ⟨d, ed⟩ : ∃ d, cs[j]? = some d := ⟨_, List.getElem?_eq_getElem lj⟩
  have gd : cs.getD j (0, 0) = d := by rw [List.getD_eq_getElem?_getD, ed]; rfl
  show decide (0 < turn a b (cs.getD j (0, 0))) = _
  rw [gd]
  by_cases q1 : j = i
  · subst q1
    have : d = a := Option.some.inj (ed.symm.trans ea)
    subst this
    rw [Hull.turn_aba]
    simp
  · by_cases q2 : j = (i + 1) % cs.length
    · subst q2
      have : d = b := Option.some.inj (ed.symm.trans eb)
      subst this
      rw [Hull.turn_abb]
      simp
    · rw [decide_eq_true (O.left i j a b d hi lj ea eb ed q1 q2)]
      simp [q1, q2]
end Fen
set_option Elab.async false
set_option linter.all false
set_option maxRecDepth 100000
set_option maxHeartbeats 1000000
set_option exponentiation.threshold 20000
namespace Fen
open PySem PySem.Spec PyProof.Rows L2
def Cor (p : Hull.P) : Prop := -(10 : Int) ^ 30 ≤ p.1 ∧ p.1 ≤ 10 ^ 30 ∧ -(10 : Int) ^ 30 ≤ p.2 ∧ p.2 ≤ 10 ^ 30
theorem Cor.sm {p : Hull.P} (h : Cor p) : Sm p := by
  obtain ⟨a, b, c, d⟩ := h
  have e : (10 : Int) ^ 30 < 2 ^ 210 := by decide
  have e2 : ((2 : Int) ^ 210) = ((2 ^ 210 : Nat) : Int) := by decide
  unfold Sm
  generalize hL : (10 : Int) ^ 30 = L at *
  rw [e2] at e
  generalize (2 : Nat) ^ 210 = M at *
  omega
theorem Cor.sh {p : Hull.P} (h : Cor p) : Sh p := by
  obtain ⟨a, b, c, d⟩ := h
  have e : (10 : Int) ^ 30 = 1000000000000000000000000000000 := by decide
  have e2 : (10 : Nat) ^ 31 = 10000000000000000000000000000000 := by decide
  rw [e] at a b c d
  unfold Sh
  rw [e2]
  omega
/-- a fence: bottom, corners, open sides -/
structure IsF (b : Int) (cs : List Hull.P) (os : List Int) : Prop where
  b1 : 1 ≤ b
  b2 : b ≤ 30
  l1 : 1 ≤ cs.length
  l2 : cs.length ≤ 10
  co : ∀ p ∈ cs, Cor p
  sh : Shape cs
  up : os.Pairwise (· < ·)
  inn : ∀ o ∈ os, 0 ≤ o ∧ o < tot cs
theorem up_len : ∀ (os : List Int) (lo n : Int), os.Pairwise (· < ·) → (∀ o ∈ os, lo ≤ o ∧ o < n) → (os.length : Int) ≤ n - lo ∨ os = []
  | [], _, _, _, _ => .inr rfl
  | o :: os, lo, n, h, k => by
    left
    obtain ⟨h1, h2⟩ := List.pairwise_cons.mp h
    have ko := k o List.mem_cons_self
    rcases up_len os (o + 1) n h2 (fun x hx => ⟨h1 x hx, (k x (List.mem_cons_of_mem _ hx)).2⟩) with z | z
    · simp only [List.length_cons]
      omega
    · rw [z]
      simp
      omega
theorem IsF.few {b : Int} {cs : List Hull.P} {os : List Int} (f : IsF b cs os) : os.length ≤ 10 := by
  have t : tot cs ≤ 10 := by
    unfold tot
    have := f.l2
    split <;> omega
  rcases up_len os 0 (tot cs) f.up f.inn with z | z
  · omega
  · rw [z]
    simp
/-- the fence as it stands -/
structure FAt (K : PySem.W.Frag) (H : Hp) (t c o : Addr) (b : Int) (ks : Pts) (os : List Int) : Prop where
  tup : SqT K H t [.int b, .ref c, .ref o]
  cor : SqL K H c (refs ks)
  pts : At K H ks
  sid : SqL K H o (os.map V.int)
theorem FAt.same {K : PySem.W.Frag} {H H' : Hp} {t c o : Addr} {b : Int} {ks : Pts} {os : List Int} (f : FAt K H t c o b ks os) (s : Same H H') : FAt K H' t c o b ks os := ⟨s.seqT f.tup, s.seq f.cor, f.pts.same s, s.seq f.sid⟩
def fD (b : Int) (cs : List Hull.P) (os : List Int) : PyData := .tuple [.int b, ptsD cs, .list (os.map PyData.int)]
theorem dp_intl {K : PySem.W.Frag} {H : Hp} : ∀ ns : List Int, DpAll K H (ns.map V.int) (ns.map PyData.int)
  | [] => .nil
  | n :: r => .cons (.int n) (dp_intl r)
theorem FAt.dp {K : PySem.W.Frag} {H : Hp} {t c o : Addr} {b : Int} {ks : Pts} {os : List Int} (f : FAt K H t c o b ks os) : Dp K H (.ref t) (fD b (ks.map (·.2)) os) :=
  .tup f.tup (.cons (.int b) (.cons (dp_pts f.cor f.pts) (.cons (.lst f.sid (dp_intl os)) .nil)))
theorem ints_lay : ∀ l : List Int, PyData.canLayAll0 (l.map PyData.int) = true ∧ PyData.depthAll (l.map PyData.int) ≤ 1
  | [] => ⟨rfl, by decide⟩
  | b :: r => ⟨by simp [PyData.canLayAll0, PyData.canLay0, (ints_lay r).1], by have := (ints_lay r).2; simp only [List.map_cons, PyData.depthAll, PyData.depth]; omega⟩
theorem fD_lay (b : Int) (cs : List Hull.P) (os : List Int) : (fD b cs os).canLay0 = true ∧ (fD b cs os).depth ≤ 4 := by
  have h := pts_lay cs
  have g := ints_lay os
  refine ⟨?_, ?_⟩
  · simp only [fD, ptsD, PyData.canLay0, PyData.canLayAll0, h.1, g.1, Bool.true_and, Bool.and_true]
  · simp only [fD, ptsD, PyData.depth, PyData.depthAll]
    have := h.2
    have := g.2
    omega
theorem shaped_f (b : Int) (cs : List Hull.P) (os : List Int) : SeqAt.shaped (fD b cs os) = true := by
  unfold SeqAt.shaped
  rw [(fD_lay b cs os).1, Bool.true_and]
  exact decide_eq_true (by have := (fD_lay b cs os).2; omega)
theorem ints_show : ∀ {os : List Int}, (∀ o ∈ os, o.natAbs < 10 ^ 31) → PyData.showableAll (os.map PyData.int) = true ∧ PyData.hasDictAll (os.map PyData.int) = false ∧ ((PyData.shownAll (os.map PyData.int)).map (·.length)).sum + 2 * (PyData.shownAll (os.map PyData.int)).length ≤ 42 * os.length
  | [], _ => ⟨rfl, rfl, by simp [PyData.shownAll]⟩
  | p :: ps, h => by
    obtain ⟨a1, a2⟩ := int_show (h p List.mem_cons_self)
    obtain ⟨b1, b2, b3⟩ := ints_show fun q hq => h q (List.mem_cons_of_mem _ hq)
    refine ⟨by simp only [List.map_cons, PyData.showableAll, a1, b1, Bool.true_and], by simp [PyData.hasDictAll, PyData.hasDict, b2], ?_⟩
    simp only [List.map_cons, PyData.shownAll, List.sum_cons, List.length_cons]
    omega
/-- what repr asks of a fence -/
structure Rp (d : PyData) (n : Nat) : Prop where
  sh : d.showable = true
  nd : d.hasDict = false
  len : d.shown.length ≤ n
  dep : d.depth ≤ 5
theorem IsF.rp {b : Int} {cs : List Hull.P} {os : List Int} (f : IsF b cs os) : Rp (fD b cs os) 1500 := by
  have e31 : (10 : Nat) ^ 31 = 10000000000000000000000000000000 := by decide
  obtain ⟨a1, a2⟩ := int_show (i := b) (by have := f.b1; have := f.b2; omega)
  obtain ⟨b1, b2, b3⟩ := pts_show (ps := cs) fun p hp => (f.co p hp).sh
  have t10 : tot cs ≤ 10 := by
    unfold tot
    have := f.l2
    split <;> omega
  obtain ⟨c1, c2, c3⟩ := ints_show (os := os) fun o ho => by have := f.inn o ho; omega
  have few := f.few
  have l2 := f.l2
  refine ⟨by simp only [fD, ptsD, PyData.showable, PyData.showableAll, b1, c1, Bool.true_and, Bool.and_true]; simpa [PyData.showable] using a1, by simp [fD, ptsD, PyData.hasDict, PyData.hasDictAll, b2, c2], ?_, ?_⟩
  · have z1 := listText_len_le (PyData.shownAll (cs.map ptD))
    have z2 := tupleText_len_le (PyData.shownAll [.int b, ptsD cs, .list (os.map PyData.int)])
    have z3 := listText_len_le (PyData.shownAll (os.map PyData.int))
    have z4 : (PyData.shown (ptsD cs)).length ≤ 89 * cs.length + 3 := Nat.le_trans z1 (by omega)
    have z5 : (PyData.shown (.list (os.map PyData.int))).length ≤ 42 * os.length + 3 := Nat.le_trans z3 (by omega)
    refine Nat.le_trans z2 ?_
    simp only [PyData.shownAll, List.map_cons, List.map_nil, List.sum_cons, List.sum_nil, List.length_cons, List.length_nil]
    omega
  · exact Nat.le_trans (fD_lay b cs os).2 (by decide)
end Fen
set_option Elab.async false
set_option linter.all false
set_option maxRecDepth 100000
set_option maxHeartbeats 1000000
set_option exponentiation.threshold 20000
namespace K38
open PySem PySem.Spec PyProof.Rows L2 Fen
abbrev sNx : Stmt := topS 7
abbrev sLs : Stmt := topS 8
abbrev sOut : Stmt := topS 9
abbrev sCs : Stmt := topS 19
abbrev sTot : Stmt := topS 20
abbrev sSd : Stmt := topS 21
abbrev sChk : Stmt := topS 23
theorem scNx : FnScope ["corners", "side"] ["corners", "side"] (defScope sNx) := ⟨rfl, rfl, rfl, by decide +kernel, rfl, by decide +kernel, by decide +kernel⟩
abbrev nLs : List Str := ["corners", "side", "tail", "head", "left", "corner"]
theorem scLs : FnScope nLs ["corners", "side"] (defScope sLs) := ⟨rfl, rfl, rfl, by decide +kernel, rfl, by decide +kernel, by decide +kernel⟩
abbrev nOut : List Str := ["corners", "side"]
theorem scOut : FnScope nOut ["corners"] (defScope sOut) := ⟨rfl, rfl, rfl, by decide +kernel, rfl, by decide +kernel, by decide +kernel⟩
abbrev nCs : List Str := ["value", "corner"]
theorem scCs : FnScope nCs ["value"] (defScope sCs) := ⟨rfl, rfl, rfl, by decide +kernel, rfl, by decide +kernel, by decide +kernel⟩
theorem scTot : FnScope ["corners"] ["corners"] (defScope sTot) := ⟨rfl, rfl, rfl, by decide +kernel, rfl, by decide +kernel, by decide +kernel⟩
theorem scSd : FnScope ["value", "total", "least", "side"] ["value", "total"] (defScope sSd) := ⟨rfl, rfl, rfl, by decide +kernel, rfl, by decide +kernel, by decide +kernel⟩
theorem scChk : FnScope ["value", "bottom", "corners", "sides"] ["value"] (defScope sChk) := ⟨rfl, rfl, rfl, by decide +kernel, rfl, by decide +kernel, by decide +kernel⟩
section
variable {P : Program} {w : World} {K : PySem.W.Frag} {mg : Str → Option Value} {base : Heap}
structure Nm2 (mg : Str → Option Value) : Prop where
  mmin : mg "min" = none
  mmax : mg "max" = none
  mzip : mg "zip" = none
  mall : mg "all" = none
  mrange : mg "range" = none
  mabs : mg "abs" = none
  msum : mg "sum" = none
  mrepr : mg "repr" = none
  msorted : mg "sorted" = none
def spNx (K : PySem.W.Frag) : Sp := fun vs H Q _ => ∃ (c : Addr) (ks : Pts) (i : Nat) (p : Addr × Hull.P), vs = [.ref c, .int i] ∧ SqL K H c (refs ks) ∧ ks[(i + 1) % ks.length]? = some p ∧ Q (.ref p.1) H
theorem ok_nx {f : Addr} {fd : FuncData} {k : Nat} (F : Fun K "next_corner" "next_corner" sNx f fd) (T : Nms mg) : FnOk P w K mg base CX0 (k + 1) f fd ["corners", "side"] (spNx K) := by
  refine F.ok scNx (fun vs H Q E h => ?_) (fun cdv A outer s H vs Q E hr h => ?_)
  · obtain ⟨c, ks, i, p, rfl, _⟩ := h
    rfl
  · obtain ⟨c, ks, i, p, rfl, hS, hp, q⟩ := h
    have l1 : 0 < ks.length := by
      have := (List.getElem?_eq_some_iff.mp hp).1
      omega
    refine ⟨_, pss_one (ps_ret (pe_ix ix_list (pv 0) (pe_op op_mod (pe_op op_add (pv 1) pe_int) (pe_callB call_len_seq (by rfl) T.mlen PySem.boot_len (pa_cons (pv 0) pa_nil))) (fun _ _ => rfl))), ?_⟩
    refine ⟨.ref c, rfl, _, rfl, _, _, rfl, rfl, .ref c, rfl, c, _, rfl, .inl hS, _, _, rfl, rfl, ?_, c, _, (((i + 1) % ks.length : Nat) : Int), .ref p.1, rfl, ?_, hS, atI_nat (refs_at hp), q⟩
    · rw [refs_len]
      omega
    · rw [refs_len]
      show V.int _ = V.int _
      congr 1
def spLs (K : PySem.W.Frag) : Sp := fun vs H Q _ => ∃ (c : Addr) (ks : Pts) (i : Nat), vs = [.ref c, .int i] ∧ SqL K H c (refs ks) ∧ At K H ks ∧ (∀ p ∈ ks, Sm p.2) ∧ 3 ≤ ks.length ∧ ks.length ≤ 10 ∧ Out (ks.map (·.2)) ∧ i < ks.length ∧ ∀ H', Same H H' → Q (.bl true) H'
theorem ok_ls {f fT fN : Addr} {fd fdT fdN : FuncData} {k : Nat} (F : Fun K "is_left_of_side" "is_left_of_side" sLs f fd) (FT : Fun K "turn" "turn" sTurnP fT fdT) (bT : Binds K fdT ["one", "two", "three"] []) (gT : mg "turn" = some (.ref fT))
    (FN : Fun K "next_corner" "next_corner" sNx fN fdN) (bN : Binds K fdN ["corners", "side"] []) (gN : mg "next_corner" = some (.ref fN)) (T : Nms mg) : FnOk P w K mg base CX0 (k + 1 + 1) f fd ["corners", "side"] (spLs K) := by
  have OT : FnOk P w K mg base CX0 1 fT fdT ["one", "two", "three"] (spTurn K) := ok_TurnP FT
  have ON : FnOk P w K mg base CX0 1 fN fdN ["corners", "side"] (spNx K) := ok_nx FN T
  refine F.ok scLs (fun vs H Q E h => ?_) (fun cdv A outer s H vs Q E hr h => ?_)
  · obtain ⟨c, ks, i, rfl, _⟩ := h
    rfl
  · obtain ⟨c, ks, i, rfl, hS, hT, small, l3, l10, O, hi, q⟩ := h
    have h1 : Room 1 (A.deeper (envOfC "is_left_of_side" (defScope sLs) s.heap.objs.size f cdv)) := hr.mono (by omega)
    refine ⟨_, pss_cons (ps_asg (pe_tup (pa_cons (pe_ix ix_list (pv 0) (pv 1) (fun _ _ => rfl)) (pa_cons (pe_call ON h1 (by rfl) gN FN.kp bN .nil pass0 (pa_cons (pv 0) (pa_cons (pv 1) pa_nil))) pa_nil))) (pg_tup rfl (pgs_cons (pg_name (i := 2) scLs.nd rfl (.inr rfl)) (pgs_cons (pg_name (i := 3) scLs.nd rfl (.inr rfl)) pgs_nil))))
      (pss_cons (ps_setLc (i := 4) (own := [("corner", 5)]) (g := gName 5) (tt := _) rfl scLs.nd rfl rfl (sw_true rfl rfl rfl (by decide +kernel)) (pi_list (pv 0)) (blkOk_by (N := nLs) (sc := defScope sLs) (by decide +kernel)) (fun _ _ _ _ _ => pg_name (i := 5) scLs.nd rfl (Or.inl rfl))
          (fun _ _ _ _ _ => pts_one (pt_cmpR op_gt (pe_call OT h1 (by rfl) gT FT.kp bT .nil pass0 (pa_cons (pv 2) (pa_cons (pv 3) (pa_cons (pv 5) pa_nil)))) pe_int (nomark _))) (fun _ _ _ _ _ => pv 5))
      (pss_one (ps_ret (pe_cmpR op_eq (pe_callB call_len_seq (by rfl) T.mlen PySem.boot_len (pa_cons (pv 4) pa_nil)) (pe_op op_sub (pe_callB call_len_seq (by rfl) T.mlen PySem.boot_len (pa_cons (pv 0) pa_nil)) pe_int) (nomark _))))), ?_⟩
    have lb : (i + 1) % ks.length < ks.length := Nat.mod_lt _ (by omega)
    obtain ⟨p, hp⟩ : ∃ p, ks[i]? = some p := ⟨_, List.getElem?_eq_getElem hi⟩
    obtain ⟨r, hr2⟩ : ∃ r, ks[(i + 1) % ks.length]? = some r := ⟨_, List.getElem?_eq_getElem lb⟩
    have mp := List.mem_of_getElem? hp
    have mr := List.mem_of_getElem? hr2
    refine ⟨.ref c, rfl, _, rfl, c, _, (i : Int), .ref p.1, rfl, rfl, hS, atI_nat (refs_at hp), .ref c, rfl, _, rfl, c, ks, i, r, rfl, hS, hr2, by show 2 ≤ sizeLine; decide, fun t nt => ?_⟩
    have s1 : Same H (upd H t (.tup [.ref p.1, .ref r.1])) := same_new nt
    refine ⟨t, _, rfl, SqT.of upd_same, rfl, .ref p.1, [.ref r.1], rfl, .ref r.1, [], rfl, rfl, ?_⟩
    generalize upd H t (.tup [.ref p.1, .ref r.1]) = H1 at s1 ⊢
    refine ⟨.ref c, rfl, c, rfl, ⟨_, s1.seq hS⟩, fun D nD => ?_⟩
    refine lc_list (K := K) (a := c) (xs := refs ks) (fun j H' => Same H1 H' ∧ H' D = some (.lst (refs ((ks.take j).filter fun x => decide (0 < Hull.turn p.2 r.2 x.2))))) ⟨same_new nD, upd_same⟩ (fun j H' _ z => (s1.trans z.1).seq hS) (fun j v H' hv z => ?_) fun H2 z => ?_
    · obtain ⟨x, hx, rfl⟩ := refs_get hv
      have mx := List.mem_of_getElem? hx
      have sz := s1.trans z.1
      have Tz := hT.same sz
      refine ⟨rfl, .ref p.1, rfl, .ref r.1, rfl, .ref x.1, rfl, p.1, r.1, x.1, p.2, r.2, x.2, rfl, Tz p mp, Tz r mr, Tz x mx, small p mp, small r mr, small x mx, _, _, rfl, rfl, _, rfl, ite2 (fun d => ?_) (fun d => ?_)⟩
      · have d1 : 0 < Hull.turn p.2 r.2 x.2 := of_decide_eq_true d
        refine ⟨_, rfl, _, z.2, ?_, ?_, ?_⟩
        · rw [refs_len]
          have := List.length_filter_le (fun x : Addr × Hull.P => decide (0 < Hull.turn p.2 r.2 x.2)) (ks.take j)
          have h2 : (ks.take j).length ≤ ks.length := by rw [List.length_take]; omega
          exact Nat.lt_of_lt_of_le (show _ < 11 by omega) (by decide)
        · exact fun b o e => by
            have nb : b ≠ D := fun y => by rw [y, nD] at e; cases e
            rw [upd_ne nb]
            exact z.1 b o e
        · rw [upd_same, take_succ_at hx, List.filter_append]
          simp [refs, d1]
      · have d1 : ¬ 0 < Hull.turn p.2 r.2 x.2 := fun y => d (decide_eq_true y)
        refine ⟨z.1, ?_⟩
        rw [z.2, take_succ_at hx, List.filter_append]
        simp [d1]
    · obtain ⟨s2', hD⟩ := z
      have s2 := s1.trans s2'
      rw [refs_len, List.take_length] at hD
      have cnt := left_count (cs := ks.map (·.2)) (by rw [List.length_map]; exact l3) O (i := i) (a := p.2) (b := r.2) (by rw [List.length_map]; exact hi) (by rw [List.getElem?_map, hp]; rfl) (by rw [List.length_map, List.getElem?_map, hr2]; rfl)
      rw [List.filter_map, List.length_map, List.length_map] at cnt
      have lf : (refs (ks.filter fun x => decide (0 < Hull.turn p.2 r.2 x.2))).length = ks.length - 2 := by
        rw [refs_len]
        exact cnt
      refine ⟨_, rfl, D, _, rfl, .inl (SqL.of hD), .ref c, rfl, c, _, rfl, .inl (s2.seq hS), _, _, rfl, rfl, rfl, ?_⟩
      rw [lf, refs_len, decide_eq_true (show V.int ((ks.length - 2 : Nat) : Int) = V.int ((ks.length : Int) - 2) from by congr 1; omega)]
      exact q _ s2
def spOut (K : PySem.W.Frag) : Sp := fun vs H Q _ => ∃ (c : Addr) (ks : Pts), vs = [.ref c] ∧ SqL K H c (refs ks) ∧ At K H ks ∧ (∀ p ∈ ks, Sm p.2) ∧ 3 ≤ ks.length ∧ ks.length ≤ 10 ∧ Out (ks.map (·.2)) ∧ ∀ H', Same H H' → Q (.bl true) H'
theorem ok_out {f fL : Addr} {fd fdL : FuncData} {k : Nat} (F : Fun K "is_outline" "is_outline" sOut f fd) (OL : FnOk P w K mg base CX0 (k + 1) fL fdL ["corners", "side"] (spLs K)) (kL : PySem.W.keepIn K (.ref fL) = true) (bL : Binds K fdL ["corners", "side"] []) (gL : mg "is_left_of_side" = some (.ref fL)) (T : Nms mg) (T2 : Nm2 mg) :
    FnOk P w K mg base CX0 (k + 1 + 1) f fd ["corners"] (spOut K) := by
  refine F.ok scOut (fun vs H Q E h => ?_) (fun cdv A outer s H vs Q E hr h => ?_)
  · obtain ⟨c, ks, rfl, _⟩ := h
    rfl
  · obtain ⟨c, ks, rfl, hS, hT, small, l3, l10, O, q⟩ := h
    have hu8 : (A.deeper (envOfC "is_outline" (defScope sOut) s.heap.objs.size f cdv)).units + 8 < cLine := by have := hr.un; omega
    refine ⟨_, pss_cons (ps_if (pt_cmpR (op_neD (hu_of64 hr)) (pe_callB (cr_minP rfl hu8) (by rfl) T2.mmin (by decide +kernel) (pa_cons (pv 0) pa_nil)) (pe_ix ix_list (pv 0) pe_int (fun _ _ => rfl)) (nomark _)) (pss_one (ps_ret pe_bl)) pss_nil)
      (pss_one (ps_ret (pe_callB (cr_all rfl) (by rfl) T2.mall (by decide +kernel) (pa_cons (pe_lc (own := [("side", 1)]) (g := gName 1) (tt := tYes) rfl scOut.nd (pi_range1 rfl T2.mrange (pa_cons (pe_callB call_len_seq (by rfl) T.mlen PySem.boot_len (pa_cons (pv 0) pa_nil)) pa_nil)) (blkOk_by (N := nOut) (sc := defScope sOut) (by decide +kernel)) (fun _ _ _ _ _ => pg_name (i := 1) scOut.nd rfl (Or.inl rfl)) (fun _ _ _ _ _ => pts_nil)
          (fun _ _ _ _ _ => pe_call OL hr (by rfl) gL kL bL .nil pass0 (pa_cons (pv 0) (pa_cons (pv 1) pa_nil)))) pa_nil)))), ?_⟩
    obtain ⟨⟨m, e0, least⟩, _⟩ := id O
    obtain ⟨p0, hp0, em⟩ : ∃ p, ks[0]? = some p ∧ p.2 = m := by
      rw [List.getElem?_map] at e0
      exact Option.map_eq_some_iff.mp e0
    have m0 := List.mem_of_getElem? hp0
    refine ⟨.ref c, rfl, c, ks, rfl, hS, hT, fun z => by rw [z] at l3; simp at l3, fun p hp hb => ?_⟩
    have ep : p.2 = p0.2 := by
      rw [em]
      refine Classical.byContradiction fun n => ?_
      have z := least p.2 (List.mem_map.mpr ⟨p, hp, rfl⟩) n
      have y := hb p0 m0
      rw [em, lexO_iff.mpr z] at y
      cases y
    refine ⟨.ref c, rfl, c, _, 0, .ref p0.1, rfl, rfl, hS, atI_nat (j := 0) (refs_at hp0), ptD p.2, ptD p0.2, dp_pt (hT p hp), dp_pt (hT p0 m0), shaped_pt _, shaped_pt _, _, rfl, ?_⟩
    rw [ep, eqv_self (shaped_pt _)]
    refine iteF ?_
    refine ⟨.ref c, rfl, c, _, rfl, .inl hS, _, rfl, by rw [refs_len]; omega, by rw [refs_len]; omega, fun D nD => ?_⟩
    refine lc_range (lo := 0) (n := ((refs ks).length : Int).toNat) (fun j H' => Same H H' ∧ H' D = some (.lst ((List.replicate j true).map V.bl))) ⟨same_new nD, upd_same⟩ ?_ ?_
    · rintro j H' hj ⟨sz, hD⟩
      have hj2 : j < ks.length := by rw [refs_len] at hj; omega
      refine ⟨rfl, yesT ?_⟩
      refine ⟨.ref c, rfl, _, rfl, c, ks, j, by simp, sz.seq hS, hT.same sz, small, l3, l10, O, hj2, fun H'' s'' => ?_⟩
      refine ⟨_, s'' _ _ hD, by simp; exact Nat.lt_of_lt_of_le (show j < 11 by omega) (by decide), fun b o e => ?_, ?_⟩
      · have nb : b ≠ D := fun y => by rw [y, nD] at e; cases e
        rw [upd_ne nb]
        exact (sz.trans s'') b o e
      · rw [upd_same, List.replicate_succ', List.map_append]
        rfl
    · rintro H' ⟨sz, hD⟩
      refine ⟨D, List.replicate _ true, rfl, SqL.of hD, ?_⟩
      rw [show (List.replicate ((refs ks).length : Int).toNat true).all id = true by simp]
      exact q _ sz
end
end K38
set_option Elab.async false
set_option linter.all false
set_option maxRecDepth 100000
set_option maxHeartbeats 1000000
set_option exponentiation.threshold 20000
namespace K38
open PySem PySem.Spec PyProof.Rows L2 Fen
section
variable {P : Program} {w : World} {K : PySem.W.Frag} {mg : Str → Option Value} {base : Heap}
def spCs (K : PySem.W.Frag) : Sp := fun vs H Q _ => ∃ (c : Addr) (ks : Pts), vs = [.ref c] ∧ SqL K H c (refs ks) ∧ At K H ks ∧ (∀ p ∈ ks, Cor p.2) ∧ 1 ≤ ks.length ∧ ks.length ≤ 10 ∧ Shape (ks.map (·.2)) ∧ ∀ H', Same H H' → Q (.bl true) H'
theorem ok_cs {f fC fO : Addr} {fd fdC fdO : FuncData} {k : Nat} (F : Fun K "are_corners" "are_corners" sCs f fd) (OC : FnOk P w K mg base CX0 (k + 1) fC fdC ["value"] (spIsC K)) (kC : PySem.W.keepIn K (.ref fC) = true) (bC : Binds K fdC ["value"] []) (gC : mg "is_corner" = some (.ref fC))
    (OO : FnOk P w K mg base CX0 (k + 1) fO fdO ["corners"] (spOut K)) (kO : PySem.W.keepIn K (.ref fO) = true) (bO : Binds K fdO ["corners"] []) (gO : mg "is_outline" = some (.ref fO)) (T : Nms mg) (T2 : Nm2 mg) : FnOk P w K mg base CX0 (k + 1 + 1) f fd ["value"] (spCs K) := by
  obtain ⟨t, mc⟩ := T.mc
  refine F.ok scCs (fun vs H Q E h => ?_) (fun cdv A outer s H vs Q E hr h => ?_)
  · obtain ⟨c, ks, rfl, _⟩ := h
    rfl
  · obtain ⟨c, ks, rfl, hS, hT, co, l1, l2, S, q⟩ := h
    have hu : (A.deeper (envOfC "are_corners" (defScope sCs) s.heap.objs.size f cdv)).units < cLine := by have := hr.un; omega
    refine ⟨_, pss_cons (ps_if (PW.pt (pw_or (pt_not (pt_val (pe_callB call_isi (by rfl) T.mii (by decide +kernel) (pa_cons (pv 0) (pa_cons (pe_bltn (v := .ty "list") (by rfl) T.mlst (by decide +kernel) rfl) pa_nil)))))
        (pw_or1 (pt_not (pt_chain op_le op_le pe_int (pe_callB call_len_seq (by rfl) T.mlen PySem.boot_len (pa_cons (pv 0) pa_nil)) (pe_glob (v := .int 10) (by rfl) mc ⟨_, rfl⟩)))))) (pss_one (ps_ret pe_bl)) pss_nil)
      (pss_cons (ps_if (pt_not (pt_val (pe_callB (cr_all rfl) (by rfl) T2.mall (by decide +kernel) (pa_cons (pe_lc (own := [("corner", 1)]) (g := gName 1) (tt := tYes) rfl scCs.nd (pi_list (pv 0)) (blkOk_by (N := nCs) (sc := defScope sCs) (by decide +kernel)) (fun _ _ _ _ _ => pg_name (i := 1) scCs.nd rfl (Or.inl rfl)) (fun _ _ _ _ _ => pts_nil)
          (fun _ _ _ _ _ => pe_call OC hr (by rfl) gC kC bC .nil pass0 (pa_cons (pv 1) pa_nil))) pa_nil)))) (pss_one (ps_ret pe_bl)) pss_nil)
      (pss_cons (ps_if (pt_cmpR op_eq (pe_callB call_len_seq (by rfl) T.mlen PySem.boot_len (pa_cons (pv 0) pa_nil)) pe_int (nomark _)) (pss_one (ps_ret pe_bl)) pss_nil)
      (pss_cons (ps_if (pt_cmpR op_eq (pe_callB call_len_seq (by rfl) T.mlen PySem.boot_len (pa_cons (pv 0) pa_nil)) pe_int (nomark _)) (pss_one (ps_ret (pe_cmpR (op_ltT hu) (pe_ix ix_list (pv 0) pe_int (fun _ _ => rfl)) (pe_ix ix_list (pv 0) pe_int (fun _ _ => rfl)) (nomark _)))) pss_nil)
      (pss_one (ps_ret (pe_call OO hr (by rfl) gO kO bO .nil pass0 (pa_cons (pv 0) pa_nil))))))), ?_⟩
    refine ⟨_, rfl, .ref c, .ty "list", .type "list", .type "list", true, rfl, .ty _, ty_lst hS, kit_ll, true, rfl, ?_⟩
    refine iteF ?_
    refine ⟨.ref c, rfl, c, _, rfl, .inl hS, _, _, rfl, rfl, _, rfl, ?_⟩
    rw [refs_len, if_pos (decide_eq_true (show (1 : Int) ≤ (ks.length : Int) by omega))]
    refine ⟨_, _, rfl, rfl, _, rfl, ?_⟩
    rw [decide_eq_true (show (ks.length : Int) ≤ 10 by omega)]
    refine iteF ?_
    refine ⟨.ref c, rfl, c, rfl, ⟨_, hS⟩, fun D nD => ?_⟩
    refine lc_list (K := K) (a := c) (xs := refs ks) (fun j H' => Same H H' ∧ H' D = some (.lst ((List.replicate j true).map V.bl))) ⟨same_new nD, upd_same⟩ (fun j H' _ z => z.1.seq hS) (fun j v H' hv z => ?_) fun H1 z => ?_
    · obtain ⟨x, hx, rfl⟩ := refs_get hv
      have mx := List.mem_of_getElem? hx
      have jl : j < ks.length := (List.getElem?_eq_some_iff.mp hx).1
      obtain ⟨sz, hD⟩ := z
      refine ⟨rfl, yesT ?_⟩
      refine ⟨.ref x.1, rfl, x.1, x.2, rfl, (hT.same sz) x mx, co x mx, _, hD, by simp; exact Nat.lt_of_lt_of_le (show j < 11 by omega) (by decide), fun b o e => ?_, ?_⟩
      · have nb : b ≠ D := fun y => by rw [y, nD] at e; cases e
        rw [upd_ne nb]
        exact sz b o e
      · rw [upd_same, List.replicate_succ', List.map_append]
        rfl
    obtain ⟨s1, hD⟩ := z
    refine ⟨D, List.replicate _ true, rfl, SqL.of hD, _, rfl, ?_⟩
    rw [show (List.replicate (refs ks).length true).all id = true by simp]
    refine iteF ?_
    have hS1 := s1.seq hS
    have hT1 := hT.same s1
    refine ⟨.ref c, rfl, c, _, rfl, .inl hS1, rfl, _, rfl, ite2 (fun d => ?_) (fun d => ?_)⟩
    · exact q _ s1
    rw [refs_len] at d
    have d1 : ks.length ≠ 1 := fun z => d (decide_eq_true (by rw [z]; rfl))
    refine ⟨.ref c, rfl, c, _, rfl, .inl hS1, rfl, _, rfl, ite2 (fun e => ?_) (fun e => ?_)⟩
    · rw [refs_len] at e
      have e1 : (ks.length : Int) = 2 := V.int.inj (of_decide_eq_true e)
      obtain ⟨x, y, rfl⟩ : ∃ x y, ks = [x, y] := by
        rcases ks with _ | ⟨x, _ | ⟨y, _ | ⟨z, r⟩⟩⟩
        · simp at e1
        · simp at e1
        · exact ⟨x, y, rfl⟩
        · simp at e1
          omega
      have lt : Hull.Lt x.2 y.2 := by
        rcases S with z | ⟨a, b, z, lt⟩ | ⟨z, _⟩
        · simp at z
        · have z1 := (List.cons.inj z)
          have z2 := List.cons.inj z1.2
          have q1 : x.2 = a := z1.1
          have q2 : y.2 = b := z2.1
          rw [q1, q2]
          exact lt
        · simp at z
      refine ⟨.ref c, rfl, c, _, 0, .ref x.1, rfl, rfl, hS1, atI_nat (j := 0) rfl, .ref c, rfl, c, _, 1, .ref y.1, rfl, rfl, hS1, atI_nat (j := 1) rfl, x.1, y.1, [x.2.1, x.2.2], [y.2.1, y.2.2], rfl, rfl, hT1 x (by simp), hT1 y (by simp), ?_⟩
      rw [lexLt2, lexO_iff.mpr lt]
      exact q _ s1
    · rw [refs_len] at e
      have e1 : ks.length ≠ 2 := fun z => e (decide_eq_true (by rw [z]; rfl))
      have l3 : 3 ≤ ks.length := by omega
      have O : Out (ks.map (·.2)) := by
        rcases S with z | ⟨a, b, z, lt⟩ | ⟨_, O⟩
        · rw [List.length_map] at z
          omega
        · have := congrArg List.length z
          rw [List.length_map] at this
          simp at this
          omega
        · exact O
      exact ⟨.ref c, rfl, c, ks, rfl, hS1, hT1, fun p hp => (co p hp).sm, l3, l2, O, fun H' s' => q _ (s1.trans s')⟩
def spTot (K : PySem.W.Frag) : Sp := fun vs H Q _ => ∃ (c : Addr) (ks : Pts), vs = [.ref c] ∧ SqL K H c (refs ks) ∧ Q (.int (tot (ks.map (·.2)))) H
theorem ok_tot {f : Addr} {fd : FuncData} {k : Nat} (F : Fun K "side_total" "side_total" sTot f fd) (T : Nms mg) : FnOk P w K mg base CX0 (k + 1) f fd ["corners"] (spTot K) := by
  refine F.ok scTot (fun vs H Q E h => ?_) (fun cdv A outer s H vs Q E hr h => ?_)
  · obtain ⟨c, ks, rfl, _⟩ := h
    rfl
  · obtain ⟨c, ks, rfl, hS, q⟩ := h
    refine ⟨_, pss_cons (ps_if (pt_cmpR op_eq (pe_callB call_len_seq (by rfl) T.mlen PySem.boot_len (pa_cons (pv 0) pa_nil)) pe_int (nomark _)) (pss_one (ps_ret pe_int)) pss_nil)
      (pss_one (ps_ret (pe_callB call_len_seq (by rfl) T.mlen PySem.boot_len (pa_cons (pv 0) pa_nil)))), ?_⟩
    unfold tot at q
    rw [List.length_map] at q
    refine ⟨.ref c, rfl, c, _, rfl, .inl hS, rfl, _, rfl, ite2 (fun d => ?_) (fun d => ?_)⟩
    · rw [refs_len] at d
      have d1 : (ks.length : Int) = 1 := V.int.inj (of_decide_eq_true d)
      rw [if_pos (by omega)] at q
      exact q
    · rw [refs_len] at d
      have d1 : ks.length ≠ 1 := fun z => d (decide_eq_true (by rw [z]; rfl))
      rw [if_neg d1] at q
      refine ⟨.ref c, rfl, c, _, rfl, .inl hS, ?_⟩
      rw [refs_len]
      exact q
def spSd (K : PySem.W.Frag) : Sp := fun vs H Q _ => ∃ (o : Addr) (os : List Int) (n : Int), vs = [.ref o, .int n] ∧ SqL K H o (os.map V.int) ∧ os.Pairwise (· < ·) ∧ (∀ x ∈ os, 0 ≤ x ∧ x < n) ∧ Q (.bl true) H
theorem ok_sd {f fB : Addr} {fd fdB : FuncData} {k : Nat} (F : Fun K "are_open_sides" "are_open_sides" sSd f fd) (OB : FnOk P w K mg base CX0 (k + 1) fB fdB ["value", "least", "greatest"] spBet) (kB : PySem.W.keepIn K (.ref fB) = true) (bB : Binds K fdB ["value", "least", "greatest"] []) (gB : mg "is_between" = some (.ref fB)) (T : Nms mg) : FnOk P w K mg base CX0 (k + 1 + 1) f fd ["value", "total"] (spSd K) := by
  refine F.ok scSd (fun vs H Q E h => ?_) (fun cdv A outer s H vs Q E hr h => ?_)
  · obtain ⟨o, os, n, rfl, _⟩ := h
    rfl
  · obtain ⟨o, os, n, rfl, hS, up, inn, q⟩ := h
    refine ⟨_, pss_cons (ps_if (pt_not (pt_val (pe_callB call_isi (by rfl) T.mii (by decide +kernel) (pa_cons (pv 0) (pa_cons (pe_bltn (v := .ty "list") (by rfl) T.mlst (by decide +kernel) rfl) pa_nil))))) (pss_one (ps_ret pe_bl)) pss_nil)
      (pss_cons (ps_set (i := 2) scSd.nd rfl (.inl rfl) pe_int)
      (pss_cons (ps_for PassesOwn.never rfl (pi_list (pv 0)) (pg_name (i := 3) scSd.nd rfl (.inl rfl))
        (pss_cons (ps_if (pt_not (pt_val (pe_call OB hr (by rfl) gB kB bB .nil pass0 (pa_cons (pv 3) (pa_cons (pv 2) (pa_cons (pe_op op_sub (pv 1) pe_int) pa_nil)))))) (pss_one (ps_ret pe_bl)) pss_nil)
        (pss_one (ps_set (i := 2) scSd.nd rfl (.inl rfl) (pe_op op_add (pv 3) pe_int)))))
      (pss_one (ps_ret pe_bl)))), ?_⟩
    refine ⟨_, rfl, .ref o, .ty "list", .type "list", .type "list", true, rfl, .ty _, ty_lst hS, kit_ll, true, rfl, ?_⟩
    refine iteF ?_
    refine ⟨.ref o, rfl, o, rfl, ⟨_, hS⟩, ?_⟩
    refine for_list (K := K) (a := o) (xs := os.map V.int) (fun i σ H' => ∃ (least : Int) (y3 : Option V), σ = [some (.ref o), some (.int n), some (.int least), y3] ∧ H' = H ∧ ∀ x ∈ os.drop i, least ≤ x) ⟨0, none, rfl, rfl, fun x hx => (inn x (List.mem_of_mem_drop hx)).1⟩ ?_ ?_ ?_
    · rintro i σ H' _ ⟨_, _, _, rfl, _⟩
      exact hS
    · rintro i v σ H' hv ⟨least, y3, rfl, rfl, lo⟩
      rw [List.getElem?_map] at hv
      obtain ⟨x, hx, rfl⟩ := Option.map_eq_some_iff.mp hv
      have il : i < os.length := (List.getElem?_eq_some_iff.mp hx).1
      have ed : os.drop i = x :: os.drop (i + 1) := by
        rw [List.drop_eq_getElem_cons il, show os[i] = x from Option.some.inj ((List.getElem?_eq_getElem il).symm.trans hx)]
      have mx := List.mem_of_getElem? hx
      have upd' : (x :: os.drop (i + 1)).Pairwise (· < ·) := by
        rw [← ed]
        exact List.Pairwise.sublist (List.drop_sublist i os) up
      refine ⟨_, rfl, _, rfl, _, rfl, _, _, rfl, rfl, x, least, n - 1, rfl, lo x (by rw [ed]; exact List.mem_cons_self), by have := (inn x mx).2; omega, true, rfl, ?_⟩
      refine iteF ?_
      refine ⟨_, rfl, _, _, rfl, rfl, x + 1, _, rfl, rfl, fun y hy => ?_⟩
      have := (List.pairwise_cons.mp upd').1 y hy
      omega
    · rintro σ H' ⟨least, y3, rfl, rfl, lo⟩
      exact q
def spChk (K : PySem.W.Frag) : Sp := fun vs H Q _ => ∃ (t c o : Addr) (b : Int) (ks : Pts) (os : List Int), vs = [.ref t] ∧ FAt K H t c o b ks os ∧ IsF b (ks.map (·.2)) os ∧ ∀ H', Same H H' → Q .non H'
theorem ok_chk {f fB fC fT fS : Addr} {fd fdB fdC fdT fdS : FuncData} {k : Nat} (F : Fun K "check_fence" "check_fence" sChk f fd) (T : Nms mg)
    (OB : FnOk P w K mg base CX0 (k + 1) fB fdB ["value"] spChB) (kB : PySem.W.keepIn K (.ref fB) = true) (bB : Binds K fdB ["value"] []) (gB : mg "check_bottom" = some (.ref fB))
    (OC : FnOk P w K mg base CX0 (k + 1) fC fdC ["value"] (spCs K)) (kC : PySem.W.keepIn K (.ref fC) = true) (bC : Binds K fdC ["value"] []) (gC : mg "are_corners" = some (.ref fC))
    (OT : FnOk P w K mg base CX0 (k + 1) fT fdT ["corners"] (spTot K)) (kT : PySem.W.keepIn K (.ref fT) = true) (bT : Binds K fdT ["corners"] []) (gT : mg "side_total" = some (.ref fT))
    (OS : FnOk P w K mg base CX0 (k + 1) fS fdS ["value", "total"] (spSd K)) (kS : PySem.W.keepIn K (.ref fS) = true) (bS : Binds K fdS ["value", "total"] []) (gS : mg "are_open_sides" = some (.ref fS)) :
    FnOk P w K mg base CX0 (k + 1 + 1) f fd ["value"] (spChk K) := by
  refine F.ok scChk (fun vs H Q E h => ?_) (fun cdv A outer s H vs Q E hr h => ?_)
  · obtain ⟨t, c, o, b, ks, os, rfl, _⟩ := h
    rfl
  · obtain ⟨t, c, o, b, ks, os, rfl, fa, isf, q⟩ := h
    refine ⟨_, pss_cons (ps_if (PW.pt (pw_or (pt_not (pt_val (pe_callB call_isi (by rfl) T.mii (by decide +kernel) (pa_cons (pv 0) (pa_cons (pe_bltn (v := .ty "tuple") (by rfl) T.mtup (by decide +kernel) rfl) pa_nil)))))
        (pw_or1 (pt_cmpR op_ne (pe_callB call_len_seq (by rfl) T.mlen PySem.boot_len (pa_cons (pv 0) pa_nil)) pe_int (nomark _))))) (pss_one ps_no) pss_nil)
      (pss_cons (ps_asg (pv 0) (pg_tup rfl (pgs_cons (pg_name (i := 1) scChk.nd rfl (.inl rfl)) (pgs_cons (pg_name (i := 2) scChk.nd rfl (.inl rfl)) (pgs_cons (pg_name (i := 3) scChk.nd rfl (.inl rfl)) pgs_nil)))))
      (pss_cons (ps_expr (pe_call OB hr (by rfl) gB kB bB .nil pass0 (pa_cons (pv 1) pa_nil)))
      (pss_cons (ps_if (pt_not (pt_val (pe_call OC hr (by rfl) gC kC bC .nil pass0 (pa_cons (pv 2) pa_nil)))) (pss_one ps_no) pss_nil)
      (pss_one (ps_if (pt_not (pt_val (pe_call OS hr (by rfl) gS kS bS .nil pass0 (pa_cons (pv 3) (pa_cons (pe_call OT hr (by rfl) gT kT bT .nil pass0 (pa_cons (pv 2) pa_nil)) pa_nil))))) (pss_one ps_no) pss_nil))))), ?_⟩
    refine ⟨_, rfl, .ref t, .ty "tuple", .type "tuple", .type "tuple", true, rfl, .ty _, ty_tup fa.tup, kit_tt, true, rfl, ?_⟩
    refine iteF ?_
    refine ⟨.ref t, rfl, t, _, rfl, .inr fa.tup, rfl, false, rfl, iteF ?_⟩
    refine ⟨.ref t, rfl, t, _, rfl, fa.tup, rfl, .int b, [.ref c, .ref o], rfl, .ref c, [.ref o], rfl, .ref o, [], rfl, rfl, ?_⟩
    refine ⟨_, rfl, b, rfl, isf.b1, isf.b2, ?_⟩
    have ll : (ks.map (·.2)).length = ks.length := List.length_map ..
    refine ⟨.ref c, rfl, c, ks, rfl, fa.cor, fa.pts, fun p hp => isf.co _ (List.mem_map.mpr ⟨p, hp, rfl⟩), by rw [← ll]; exact isf.l1, by rw [← ll]; exact isf.l2, isf.sh, fun H1 s1 => ⟨true, rfl, iteF ?_⟩⟩
    refine ⟨.ref o, rfl, .ref c, rfl, c, ks, rfl, s1.seq fa.cor, o, os, _, rfl, s1.seq fa.sid, isf.up, isf.inn, true, rfl, iteF ?_⟩
    exact q _ s1
end
end K38
set_option Elab.async false
set_option linter.all false
set_option maxRecDepth 100000
set_option maxHeartbeats 1000000
set_option exponentiation.threshold 20000
namespace Fen
open L2
open Hull (P turn Lt)
/-! common divisors -/
theorem g3_dvd (a b c : Int) : g3 a b c ∣ a ∧ g3 a b c ∣ b ∧ g3 a b c ∣ c := by
  have e : ∀ z : Int, ((a.natAbs.gcd b.natAbs).gcd c.natAbs) ∣ z.natAbs → g3 a b c ∣ z := fun z h => Int.natAbs_dvd_natAbs.mp (by show ((((a.natAbs.gcd b.natAbs).gcd c.natAbs : Nat) : Int)).natAbs ∣ z.natAbs; rw [Int.natAbs_natCast]; exact h)
  exact ⟨e a (Nat.dvd_trans (Nat.gcd_dvd_left _ _) (Nat.gcd_dvd_left _ _)), e b (Nat.dvd_trans (Nat.gcd_dvd_left _ _) (Nat.gcd_dvd_right _ _)), e c (Nat.gcd_dvd_right _ _)⟩
theorem g3_pos {a b c : Int} (h : 0 < a) : 0 < g3 a b c := by
  have h1 : 0 < a.natAbs.gcd b.natAbs := Nat.gcd_pos_of_pos_left _ (by omega)
  have h2 : 0 < (a.natAbs.gcd b.natAbs).gcd c.natAbs := Nat.gcd_pos_of_pos_left _ h1
  unfold g3
  omega
theorem g3_mul (a b c : Int) {t : Int} (h : 0 ≤ t) : g3 (a * t) (b * t) (c * t) = g3 a b c * t := by
  unfold g3
  rw [Int.natAbs_mul, Int.natAbs_mul, Int.natAbs_mul, Nat.gcd_mul_right, Nat.gcd_mul_right]
  push_cast
  congr 1
  omega
def gF (b : Int) (cs : List P) : Int := cs.foldl (fun g p => g3 g p.1 p.2) b
theorem gF_pos : ∀ (cs : List P) {b : Int}, 0 < b → 0 < gF b cs
  | [], _, h => h
  | p :: cs, b, h => gF_pos cs (b := g3 b p.1 p.2) (g3_pos h)
theorem gF_dvd : ∀ (cs : List P) (b : Int), gF b cs ∣ b ∧ ∀ p ∈ cs, gF b cs ∣ p.1 ∧ gF b cs ∣ p.2
  | [], b => ⟨Int.dvd_refl b, fun p hp => nomatch hp⟩
  | p :: cs, b => by
    obtain ⟨h1, h2⟩ := gF_dvd cs (g3 b p.1 p.2)
    obtain ⟨k1, k2, k3⟩ := g3_dvd b p.1 p.2
    have e : gF b (p :: cs) = gF (g3 b p.1 p.2) cs := rfl
    rw [e]
    refine ⟨Int.dvd_trans h1 k1, fun q hq => ?_⟩
    rcases List.mem_cons.mp hq with rfl | z
    · exact ⟨Int.dvd_trans h1 k2, Int.dvd_trans h1 k3⟩
    · exact h2 q z
def sc (t : Int) (p : P) : P := (p.1 * t, p.2 * t)
def dv (g : Int) (p : P) : P := (p.1 / g, p.2 / g)
theorem gF_mul : ∀ (cs : List P) (b : Int) {t : Int}, 0 ≤ t → gF (b * t) (cs.map (sc t)) = gF b cs * t
  | [], _, _, _ => rfl
  | p :: cs, b, t, h => by
    show gF (g3 (b * t) (p.1 * t) (p.2 * t)) (cs.map (sc t)) = gF (g3 b p.1 p.2) cs * t
    rw [g3_mul _ _ _ h, gF_mul cs _ h]
theorem gF_le {cs : List P} {b : Int} (h : 0 < b) : gF b cs ≤ b := Int.le_of_dvd h (gF_dvd cs b).1
theorem sc_dv {g : Int} {p : P} (h : g ∣ p.1 ∧ g ∣ p.2) : sc g (dv g p) = p := by
  unfold sc dv
  rw [Int.ediv_mul_cancel h.1, Int.ediv_mul_cancel h.2]
theorem dv_sc {g : Int} (h : g ≠ 0) (p : P) : dv g (sc g p) = p := by
  unfold sc dv
  rw [Int.mul_ediv_cancel _ h, Int.mul_ediv_cancel _ h]
/-- the fence with its lowest bottom -/
def lowB (b : Int) (cs : List P) : Int := b / gF b cs
def lowC (b : Int) (cs : List P) : List P := cs.map (dv (gF b cs))
theorem low_back (b : Int) (cs : List P) : lowB b cs * gF b cs = b ∧ (lowC b cs).map (sc (gF b cs)) = cs := by
  obtain ⟨h1, h2⟩ := gF_dvd cs b
  refine ⟨Int.ediv_mul_cancel h1, ?_⟩
  unfold lowC
  rw [List.map_map]
  refine (List.map_congr_left fun p hp => ?_).trans (List.map_id cs)
  exact sc_dv (h2 p hp)
theorem gF_low {b : Int} (h : 0 < b) (cs : List P) : gF (lowB b cs) (lowC b cs) = 1 := by
  obtain ⟨e1, e2⟩ := low_back b cs
  have gp := gF_pos cs h
  have z := gF_mul (lowC b cs) (lowB b cs) (t := gF b cs) (by omega)
  rw [e1, e2] at z
  have z2 : 1 * gF b cs = gF (lowB b cs) (lowC b cs) * gF b cs := by rw [Int.one_mul]; exact z
  exact (Int.eq_of_mul_eq_mul_right (by omega) z2).symm
/-- lowest again, and of multiples -/
theorem low_mul {b t : Int} {cs : List P} (g1 : gF b cs = 1) (ht : 0 < t) : lowB (b * t) (cs.map (sc t)) = b ∧ lowC (b * t) (cs.map (sc t)) = cs := by
  have e : gF (b * t) (cs.map (sc t)) = t := by rw [gF_mul cs b (by omega), g1, Int.one_mul]
  unfold lowB lowC
  rw [e, Int.mul_ediv_cancel _ (by omega), List.map_map]
  refine ⟨rfl, (List.map_congr_left fun p _ => ?_).trans (List.map_id cs)⟩
  exact dv_sc (by omega) p
theorem low_one {b : Int} {cs : List P} (g1 : gF b cs = 1) : lowB b cs = b ∧ lowC b cs = cs := by
  unfold lowB lowC
  rw [g1, Int.ediv_one]
  refine ⟨rfl, (List.map_congr_left fun p _ => ?_).trans (List.map_id cs)⟩
  unfold dv
  rw [Int.ediv_one, Int.ediv_one]
  rfl
/-! shapes, made greater -/
theorem turn_sc (t : Int) (a b c : P) : turn (sc t a) (sc t b) (sc t c) = t * t * turn a b c := by
  unfold turn sc
  grind
theorem lt_sc {t : Int} (ht : 0 < t) {a b : P} : Lt (sc t a) (sc t b) ↔ Lt a b := by
  unfold Lt sc
  have e : ∀ x y : Int, x * t < y * t ↔ x < y := fun x y => ⟨fun h => Int.lt_of_mul_lt_mul_right h (by omega), fun h => Int.mul_lt_mul_of_pos_right h ht⟩
  have e2 : ∀ x y : Int, x * t = y * t ↔ x = y := fun x y => ⟨fun h => Int.eq_of_mul_eq_mul_right (by omega) h, fun h => by rw [h]⟩
  dsimp only
  rw [e, e, e2]
theorem sc_inj {t : Int} (ht : 0 < t) {a b : P} (h : sc t a = sc t b) : a = b := by
  rw [← dv_sc (show t ≠ 0 by omega) a, h, dv_sc (by omega)]
theorem shape_sc {t : Int} (ht : 0 < t) {cs : List P} : Shape (cs.map (sc t)) ↔ Shape cs := by
  have tt : 0 < t * t := Int.mul_pos ht ht
  unfold Shape
  rw [List.length_map]
  constructor
  · rintro (h | ⟨a, b, e, h⟩ | ⟨h, O⟩)
    · exact .inl h
    · rcases cs with _ | ⟨x, _ | ⟨y, _ | ⟨z, r⟩⟩⟩
      · cases e
      · cases e
      · refine .inr (.inl ⟨x, y, rfl, ?_⟩)
        obtain ⟨e1, e2⟩ := List.cons.inj e
        obtain ⟨e2, _⟩ := List.cons.inj e2
        rw [← e1, ← e2] at h
        exact (lt_sc ht).mp h
      · simp at e
    · refine .inr (.inr ⟨h, ?_, fun i j a b d hi hj ea eb ed n1 n2 => ?_⟩)
      · obtain ⟨m, e0, l⟩ := O.first
        rw [List.getElem?_map] at e0
        obtain ⟨x, ex, rfl⟩ := Option.map_eq_some_iff.mp e0
        exact ⟨x, ex, fun y hy n => (lt_sc ht).mp (l (sc t y) (List.mem_map.mpr ⟨y, hy, rfl⟩) fun z => n (sc_inj ht z))⟩
      · have z := O.left i j (sc t a) (sc t b) (sc t d) (by rw [List.length_map]; exact hi) (by rw [List.length_map]; exact hj) (by rw [List.getElem?_map, ea]; rfl) (by rw [List.length_map, List.getElem?_map, eb]; rfl) (by rw [List.getElem?_map, ed]; rfl) n1 (by rw [List.length_map]; exact n2)
        rw [turn_sc] at z
        exact Int.not_le.mp fun y => by
          have := Int.mul_le_mul_of_nonneg_left y (show 0 ≤ t * t by omega)
          omega
  · rintro (h | ⟨a, b, rfl, h⟩ | ⟨h, O⟩)
    · exact .inl h
    · exact .inr (.inl ⟨sc t a, sc t b, rfl, (lt_sc ht).mpr h⟩)
    · refine .inr (.inr ⟨h, ?_, fun i j a b d hi hj ea eb ed n1 n2 => ?_⟩)
      · obtain ⟨m, e0, l⟩ := O.first
        refine ⟨sc t m, by rw [List.getElem?_map, e0]; rfl, fun y hy n => ?_⟩
        obtain ⟨x, hx, rfl⟩ := List.mem_map.mp hy
        exact (lt_sc ht).mpr (l x hx fun z => n (by rw [z]))
      · rw [List.length_map] at hi hj eb n2
        rw [List.getElem?_map] at ea eb ed
        obtain ⟨x, ex, rfl⟩ := Option.map_eq_some_iff.mp ea
        obtain ⟨y, ey, rfl⟩ := Option.map_eq_some_iff.mp eb
        obtain ⟨z, ez, rfl⟩ := Option.map_eq_some_iff.mp ed
        rw [turn_sc]
        exact Int.mul_pos tt (O.left i j x y z hi hj ex ey ez n1 n2)
theorem tot_map (f : P → P) (cs : List P) : tot (cs.map f) = tot cs := by
  unfold tot
  rw [List.length_map]
theorem IsF.low {b : Int} {cs : List P} {os : List Int} (f : IsF b cs os) : IsF (lowB b cs) (lowC b cs) os := by
  have b0 : 0 < b := by have := f.b1; omega
  have gp := gF_pos cs b0
  obtain ⟨e1, e2⟩ := low_back b cs
  have lb : 0 < lowB b cs := by
    refine Int.not_le.mp fun z => ?_
    have := Int.mul_le_mul_of_nonneg_right z (show 0 ≤ gF b cs by omega)
    omega
  refine ⟨by omega, ?_, by unfold lowC; rw [List.length_map]; exact f.l1, by unfold lowC; rw [List.length_map]; exact f.l2, fun p hp => ?_, ?_, f.up, fun o ho => ?_⟩
  · have h1 : lowB b cs * 1 ≤ lowB b cs * gF b cs := Int.mul_le_mul_of_nonneg_left (by omega) (by omega)
    have := f.b2
    omega
  · obtain ⟨q, hq, rfl⟩ := List.mem_map.mp hp
    obtain ⟨c1, c2, c3, c4⟩ := f.co q hq
    have d : ∀ x : Int, -(10 : Int) ^ 30 ≤ x → x ≤ 10 ^ 30 → -(10 : Int) ^ 30 ≤ x / gF b cs ∧ x / gF b cs ≤ 10 ^ 30 := fun x h1 h2 => by
      refine ⟨?_, ?_⟩
      · refine (Int.le_ediv_iff_mul_le gp).mpr ?_
        have z : -(10 : Int) ^ 30 * gF b cs ≤ -(10 : Int) ^ 30 * 1 := Int.mul_le_mul_of_nonpos_left (by decide) (by omega)
        omega
      · by_cases x0 : 0 ≤ x
        · exact Int.le_trans (Int.ediv_le_self _ x0) h2
        · have z : x / gF b cs < 0 := Int.ediv_neg_of_neg_of_pos (by omega) gp
          exact Int.le_trans (Int.le_of_lt z) (by decide)
    exact ⟨(d _ c1 c2).1, (d _ c1 c2).2, (d _ c3 c4).1, (d _ c3 c4).2⟩
  · have z := f.sh
    rw [← e2] at z
    exact (shape_sc gp).mp z
  · have := f.inn o ho
    unfold lowC
    rw [tot_map]
    exact this
end Fen
set_option Elab.async false
set_option linter.all false
set_option maxRecDepth 100000
set_option maxHeartbeats 1000000
/-! what is judged: a list of corners is that of its own hull just if it is an outline -/
namespace Fen
open Hull (P turn Lt)
noncomputable def B (p : Prop) : Bool := @decide p (Classical.propDecidable p)
theorem B_true {p : Prop} (h : p) : B p = true := by unfold B; exact @decide_eq_true p (Classical.propDecidable p) h
theorem B_false {p : Prop} (h : ¬ p) : B p = false := by unfold B; exact @decide_eq_false p (Classical.propDecidable p) h
theorem B_iff {p : Prop} : B p = true ↔ p := ⟨fun h => Classical.byContradiction fun n => (by rw [B_false n] at h; exact Bool.noConfusion h), B_true⟩
theorem B_congr {p q : Prop} (h : p ↔ q) : B p = B q := by
  by_cases hq : q
  · rw [B_true hq, B_true (h.mpr hq)]
  · rw [B_false hq, B_false fun z => hq (h.mp z)]
theorem Out.nodup {cs : List P} (h3 : 3 ≤ cs.length) (O : Out cs) {i j : Nat} {a : P} (hi : i < cs.length) (hj : j < cs.length) (ei : cs[i]? = some a) (ej : cs[j]? = some a) : i = j := by
  refine Classical.byContradiction fun ne => ?_
  by_cases hn : j = (i + 1) % cs.length
  · have lb : (j + 1) % cs.length < cs.length := Nat.mod_lt _ (by omega)
    have n1 : i ≠ (j + 1) % cs.length := by
      intro z
      by_cases q : i + 1 < cs.length
      · rw [Nat.mod_eq_of_lt q] at hn
        subst hn
        by_cases q2 : i + 1 + 1 < cs.length
        · rw [Nat.mod_eq_of_lt q2] at z
          omega
        · rw [show i + 1 + 1 = cs.length by omega, Nat.mod_self] at z
          omega
      · rw [show i + 1 = cs.length by omega, Nat.mod_self] at hn
        subst hn
        rw [Nat.mod_eq_of_lt (by omega)] at z
        omega
    have z := O.left j i a _ a hj hi ej (List.getElem?_eq_getElem lb) ei ne n1
    rw [Hull.turn_aba] at z
    exact absurd z (Int.lt_irrefl 0)
  · have lb : (i + 1) % cs.length < cs.length := Nat.mod_lt _ (by omega)
    have z := O.left i j a _ a hi hj ei (List.getElem?_eq_getElem lb) ej (fun e => ne e.symm) hn
    rw [Hull.turn_aba] at z
    exact absurd z (Int.lt_irrefl 0)
theorem nodup_le {α : Type} [DecidableEq α] : ∀ (l D : List α), l.Nodup → (∀ x ∈ l, x ∈ D) → l.length ≤ D.length
  | [], _, _, _ => Nat.zero_le _
  | x :: l, D, hn, hs => by
    obtain ⟨n1, n2⟩ := List.nodup_cons.mp hn
    have ih := nodup_le l (D.erase x) n2 fun y hy => (List.mem_erase_of_ne (fun (e : y = x) => n1 (by rw [← e]; exact hy))).mpr (hs y (List.mem_cons_of_mem _ hy))
    have e := List.length_erase_of_mem (hs x List.mem_cons_self)
    have := List.length_pos_of_mem (hs x List.mem_cons_self)
    rw [List.length_cons]
    omega
theorem out_hul {cs s : List P} (h3 : 3 ≤ cs.length) (O : Out cs) (asc : s.Pairwise Lt) (mem : ∀ x, x ∈ s ↔ x ∈ cs) : hul s = cs := by
  obtain ⟨⟨m, e0, least⟩, left⟩ := id O
  have nd : cs.Nodup := by
    refine List.pairwise_iff_getElem.mpr fun i j hi hj hij e => ?_
    have := O.nodup h3 hi hj (List.getElem?_eq_getElem hi) ((List.getElem?_eq_getElem hj).trans (by rw [e]))
    omega
  have ls : 3 ≤ s.length := by
    have z := nodup_le cs s nd fun x hx => (mem x).mpr hx
    omega
  have e : hul s = Hull.hull s := if_neg (by omega)
  rw [e]
  have Y := Hull.poly asc (by omega)
  generalize Hull.hull s = h at Y
  have l2 := Y.two
  obtain ⟨m', f0, f1, f2⟩ := Y.first
  have em : m' = m := by
    have a1 : m' ∈ cs := (mem m').mp (Y.mem m' (List.mem_of_getElem? f0))
    have a2 : m ∈ s := (mem m).mpr (List.mem_of_getElem? e0)
    refine Classical.byContradiction fun ne => ?_
    have b1 := least m' a1 ne
    have b2 : m' = m ∨ Lt m' m := by
      cases s with
      | nil => simp at ls
      | cons x r =>
        have ex : x = m' := Option.some.inj f1
        subst ex
        rcases List.mem_cons.mp a2 with z | z
        · exact .inl z.symm
        · exact .inr ((List.pairwise_cons.mp asc).1 m z)
    rcases b2 with b2 | b2
    · exact ne b2
    · exact b1.asymm b2
  subst em
  have step : ∀ i, cs[i % cs.length]? = h[i % h.length]? := by
    intro i
    induction i with
    | zero => rw [Nat.zero_mod, Nat.zero_mod, e0, f0]
    | succ i ih =>
      have c1 : i % cs.length < cs.length := Nat.mod_lt _ (by omega)
      have c2 : i % h.length < h.length := Nat.mod_lt _ (by omega)
      have c3 : (i % cs.length + 1) % cs.length < cs.length := Nat.mod_lt _ (by omega)
      have c4 : (i % h.length + 1) % h.length < h.length := Nat.mod_lt _ (by omega)
      obtain ⟨a, ea⟩ : ∃ a, cs[i % cs.length]? = some a := ⟨_, List.getElem?_eq_getElem c1⟩
      obtain ⟨b, eb⟩ : ∃ b, cs[(i % cs.length + 1) % cs.length]? = some b := ⟨_, List.getElem?_eq_getElem c3⟩
      obtain ⟨q, eq⟩ : ∃ q, h[(i % h.length + 1) % h.length]? = some q := ⟨_, List.getElem?_eq_getElem c4⟩
      have ea' : h[i % h.length]? = some a := ih.symm.trans ea
      have g1 : h[i % h.length] = a := Option.some.inj ((List.getElem?_eq_getElem c2).symm.trans ea')
      have g2 : h[(i % h.length + 1) % h.length] = q := Option.some.inj ((List.getElem?_eq_getElem c4).symm.trans eq)
      have e1 : (i + 1) % cs.length = (i % cs.length + 1) % cs.length := (Nat.mod_add_mod i cs.length 1).symm
      have e2 : (i + 1) % h.length = (i % h.length + 1) % h.length := (Nat.mod_add_mod i h.length 1).symm
      rw [e1, e2, eb, eq]
      congr 1
      refine Classical.byContradiction fun ne => ?_
      have qc : q ∈ cs := (mem q).mp (Y.mem q (List.mem_of_getElem? eq))
      obtain ⟨j, ej⟩ := List.mem_iff_getElem?.mp qc
      have hj : j < cs.length := (List.getElem?_eq_some_iff.mp ej).1
      have qa : q ≠ a := fun z => by
        have n1 := Y.nodup
        have y := Hull.nodup_inj n1 (i := (i % h.length + 1) % h.length) (j := i % h.length) (hi := c4) (hj := c2) (by rw [g1, g2, z])
        by_cases w : i % h.length + 1 < h.length
        · rw [Nat.mod_eq_of_lt w] at y
          omega
        · rw [show i % h.length + 1 = h.length by omega, Nat.mod_self] at y
          omega
      have t1 := left (i % cs.length) j a b q c1 hj ea eb ej (fun z => qa (by rw [z] at ej; exact Option.some.inj (ej.symm.trans ea))) (fun z => ne (by rw [z] at ej; exact Option.some.inj (eb.symm.trans ej)))
      have t2 := Y.weak (i % h.length) c2 b ((mem b).mpr (List.mem_of_getElem? eb))
      rw [g1, g2] at t2
      have t3 : turn a b q = - turn a q b := by unfold Hull.turn; grind
      omega
  have lh : h.length ≤ cs.length := nodup_le h cs Y.nodup fun x hx => (mem x).mp (Y.mem x hx)
  have lc : cs.length ≤ h.length := by
    refine Classical.byContradiction fun z => ?_
    have s1 := step h.length
    rw [Nat.mod_self, Nat.mod_eq_of_lt (by omega), f0] at s1
    have := O.nodup h3 (show h.length < cs.length by omega) (show 0 < cs.length by omega) s1 e0
    omega
  refine List.ext_getElem? fun i => ?_
  by_cases hi : i < cs.length
  · have z := step i
    rw [Nat.mod_eq_of_lt hi, Nat.mod_eq_of_lt (by omega)] at z
    exact z.symm
  · rw [List.getElem?_eq_none (by omega), List.getElem?_eq_none (by omega)]
theorem shape_iff {cs s : List P} (l1 : 1 ≤ cs.length) (asc : s.Pairwise Lt) (mem : ∀ x, x ∈ s ↔ x ∈ cs) : hul s = cs ↔ Shape cs := by
  have ls : 1 ≤ s.length := by
    obtain ⟨x, hx⟩ : ∃ x, x ∈ cs := List.exists_mem_of_length_pos (by omega)
    exact List.length_pos_of_mem ((mem x).mpr hx)
  constructor
  · intro h
    rw [← h]
    exact (shape_hul asc ls).1
  · rintro (h | ⟨a, b, rfl, h⟩ | ⟨h3, O⟩)
    · obtain ⟨p, rfl⟩ := List.length_eq_one_iff.mp h
      have e : s = [p] := asc_uniq asc (List.pairwise_singleton _ _) mem
      rw [e]
      rfl
    · have e : s = [a, b] := asc_uniq asc (by simp [h]) mem
      rw [e]
      exact hul_few (by simp)
    · exact out_hul h3 O asc mem
end Fen
namespace Fen
open Hull (P turn Lt)
theorem filter_sub {α : Type} {p q : α → Bool} (h : ∀ x, p x = true → q x = true) : ∀ l : List α, (l.filter p).Sublist (l.filter q)
  | [] => List.Sublist.refl _
  | x :: l => by
    have ih := filter_sub h l
    rw [List.filter_cons, List.filter_cons]
    cases hp : p x with
    | true =>
      rw [if_pos rfl, if_pos (h x hp)]
      exact ih.cons₂ x
    | false =>
      rw [if_neg (by simp)]
      split
      · exact ih.cons x
      · exact ih
/-- how many corners are to the left of side i -/
def leftN (cs : List P) (i : Nat) : Nat := (cs.filter fun x => decide (0 < turn (cs.getD i (0, 0)) (cs.getD ((i + 1) % cs.length) (0, 0)) x)).length
theorem out_iff {cs : List P} (h3 : 3 ≤ cs.length) : Out cs ↔ (∀ x ∈ cs, x ≠ cs.getD 0 (0, 0) → Lt (cs.getD 0 (0, 0)) x) ∧ ∀ i, i < cs.length → leftN cs i = cs.length - 2 := by
  have gd : ∀ {i : Nat} {a : P}, cs[i]? = some a → cs.getD i (0, 0) = a := fun {i a} h => by rw [List.getD_eq_getElem?_getD, h]; rfl
  constructor
  · intro O
    obtain ⟨⟨m, e0, least⟩, left⟩ := id O
    rw [gd e0]
    refine ⟨least, fun i hi => ?_⟩
    have lb : (i + 1) % cs.length < cs.length := Nat.mod_lt _ (by omega)
    unfold leftN
    rw [gd (List.getElem?_eq_getElem hi), gd (List.getElem?_eq_getElem lb)]
    exact left_count h3 O hi (List.getElem?_eq_getElem hi) (List.getElem?_eq_getElem lb)
  · rintro ⟨least, cnt⟩
    have z0 : cs[0]? = some cs[0] := List.getElem?_eq_getElem (by omega)
    rw [gd z0] at least
    refine ⟨⟨_, z0, least⟩, fun i j a b d hi hj ea eb ed n1 n2 => ?_⟩
    have lb : (i + 1) % cs.length < cs.length := Nat.mod_lt _ (by omega)
    have ii : i ≠ (i + 1) % cs.length := fun z => by
      by_cases q : i + 1 < cs.length
      · rw [Nat.mod_eq_of_lt q] at z
        omega
      · rw [show i + 1 = cs.length by omega, Nat.mod_self] at z
        omega
    have c := cnt i hi
    unfold leftN at c
    rw [gd ea, gd eb] at c
    refine Classical.byContradiction fun neg => ?_
    have e : cs = (List.range cs.length).map fun j => cs.getD j (0, 0) := by
      refine List.ext_getElem? fun k => ?_
      rw [List.getElem?_map]
      by_cases hk : k < cs.length
      · rw [List.getElem?_range hk, List.getElem?_eq_getElem hk]
        exact congrArg some (gd (List.getElem?_eq_getElem hk)).symm
      · rw [List.getElem?_eq_none (by omega), List.getElem?_eq_none (by rw [List.length_range]; omega)]
        rfl
    have cc : ((List.range cs.length).filter fun j => decide (0 < turn a b (cs.getD j (0, 0)))).length = cs.length - 2 := by
      have y : (cs.filter fun x => decide (0 < turn a b x)).length = (((List.range cs.length).map fun j => cs.getD j (0, 0)).filter fun x => decide (0 < turn a b x)).length := by rw [← e]
      rw [c, List.filter_map, List.length_map] at y
      exact y.symm
    have r2 := range_two hi lb ii
    have sub : ((List.range cs.length).filter fun j => decide (0 < turn a b (cs.getD j (0, 0)))).Sublist ((List.range cs.length).filter fun j => decide (j ≠ i) && decide (j ≠ (i + 1) % cs.length)) := by
      refine filter_sub (fun j hj => ?_) _
      have t := of_decide_eq_true hj
      have n1 : j ≠ i := fun z => by
        rw [z, gd ea, Hull.turn_aba] at t
        exact absurd t (Int.lt_irrefl 0)
      have n2 : j ≠ (i + 1) % cs.length := fun z => by
        rw [z, gd eb, Hull.turn_abb] at t
        exact absurd t (Int.lt_irrefl 0)
      simp [n1, n2]
    have eqq := sub.eq_of_length (by rw [cc, r2])
    have mj : j ∈ (List.range cs.length).filter fun j => decide (j ≠ i) && decide (j ≠ (i + 1) % cs.length) := List.mem_filter.mpr ⟨List.mem_range.mpr hj, by simp [n1, n2]⟩
    rw [← eqq] at mj
    have := (List.mem_filter.mp mj).2
    rw [gd ed] at this
    exact neg (of_decide_eq_true this)
end Fen
set_option Elab.async false
set_option linter.all false
set_option maxRecDepth 100000
set_option maxHeartbeats 2000000
/-! values of any kind: data, an empty dict, a tuple of such; their repr -/
namespace L2
open PySem PySem.Spec PyProof.Rows
/-- data, or an empty dict -/
inductive We (K : PySem.W.Frag) (H : Hp) : V → PyData → Prop
  | d {v : V} {d : PyData} (h : Dp K H v d) (n : d.hasDict = false) : We K H v d
  | e {a : Addr} (h : H a = some (.dK [])) : We K H (.ref a) (.dict [])
inductive WeAll (K : PySem.W.Frag) (H : Hp) : List V → List PyData → Prop
  | nil : WeAll K H [] []
  | cons {v : V} {vs : List V} {d : PyData} {ds : List PyData} : We K H v d → WeAll K H vs ds → WeAll K H (v :: vs) (d :: ds)
/-- one of these, or a tuple of them -/
inductive Wt (K : PySem.W.Frag) (H : Hp) : V → PyData → Prop
  | el {v : V} {d : PyData} (h : We K H v d) : Wt K H v d
  | tup {a : Addr} {xs : List V} {ds : List PyData} (h : SqT K H a xs) (e : WeAll K H xs ds) : Wt K H (.ref a) (.tuple ds)
section
variable {X : Cx} {pins : List (Addr × Obj)} {σ : St} {H : Hp} {s : Shared}
theorem We.reads (I : Inv X pins σ H s) {v : V} {d : PyData} {u : Value} (h : We X.K H v d) (r : RelV v u) : ∃ as, Reads s.heap u d as ∧ (d.hasDict = true → sysModules ∉ as) := by
  cases h with
  | d h n =>
    obtain ⟨as, q⟩ := Dp.reads I d v u h r
    exact ⟨as, q, fun z => by rw [n] at z; cases z⟩
  | e h =>
    obtain rfl : u = Value.ref _ := r
    obtain ⟨_, sm, vs, kv, o, es, ep, ho, xd, hd, _, pr, _⟩ := dk_of I.hok h
    cases kv
    have l0 : es.toList = [] := List.eq_nil_of_length_eq_zero pr.length
    refine ⟨_, Reads.dict ho xd.1 hd (kvs := []) (as := []) (bs := []) (by rw [l0]; exact .nil) (by rw [l0]; exact .nil), fun _ z => ?_⟩
    rcases List.mem_cons.mp z with z | z
    · rw [← z] at sm
      simp at sm
    · exact nomatch z
theorem WeAll.reads (I : Inv X pins σ H s) : ∀ {vs : List V} {ds : List PyData} {us : List Value}, WeAll X.K H vs ds → Vals vs us → PyData.showableAll ds = true → (∀ t ∈ PyData.shownAll ds, t.length ≤ sizeLine) →
    (∃ as, ReadsAll s.heap us ds as) ∧ ∃ bs, ReadAtMost s.heap (PyData.depthAll ds) bs ∧ ReprAllK X.prog X.w bs s.heap (PyData.depthAll ds) us (PyData.shownAll ds)
  | _, _, _, .nil, r, _, _ => by
    cases r
    exact ⟨⟨_, .nil⟩, [], (fun _ h => nomatch h), by simp only [PyData.shownAll]; exact .nil⟩
  | _, _, _, .cons (d := d) (ds := ds) h hs, r, sh, hz => by
    cases r with
    | cons r rs =>
      have sh' : d.showable = true ∧ PyData.showableAll ds = true := by simpa [PyData.showableAll] using sh
      obtain ⟨as, q, hsm⟩ := h.reads I r
      obtain ⟨⟨as2, q2⟩, c2, hb2, k2⟩ := WeAll.reads I hs rs sh'.2 fun t ht => hz t (by simp only [PyData.shownAll]; exact List.mem_cons_of_mem _ ht)
      obtain ⟨c1, hb1, k1⟩ := ReprK.of_reads (prog := X.prog) (w := X.w) q sh'.1 hsm (hz _ (by simp only [PyData.shownAll]; exact List.mem_cons_self ..))
      refine ⟨⟨_, .cons q q2⟩, c1 ++ c2, fun b hm => ?_, ?_⟩
      · rcases List.mem_append.mp hm with z | z
        · obtain ⟨e, es, re, he⟩ := hb1 b z
          exact ⟨e, es, re, by simp only [PyData.depthAll]; omega⟩
        · obtain ⟨e, es, re, he⟩ := hb2 b z
          exact ⟨e, es, re, by simp only [PyData.depthAll]; omega⟩
      · have m1 := (k1.more (as' := c1 ++ c2) fun b hb => List.mem_append_left _ hb).level_le (d' := PyData.depthAll (d :: ds)) (by simp only [PyData.depthAll]; omega)
        have m2 := k2.more_le (as' := c1 ++ c2) (d' := PyData.depthAll (d :: ds)) (fun b hb => List.mem_append_right _ hb) (by simp only [PyData.depthAll]; omega)
        show ReprAllK _ _ _ _ _ _ (d.shown :: PyData.shownAll ds)
        exact .cons m1 m2
/-- what repr asks of a value -/
structure RpW (d : PyData) : Prop where
  sh : d.showable = true
  len : d.shown.length ≤ sizeLine
  dep : d.depth ≤ 20
def rReprW (K : PySem.W.Frag) : List V → Hp → VK → Prop := fun xs H Q => ∃ (v : V) (d : PyData), xs = [v] ∧ Wt K H v d ∧ RpW d ∧ Q (.str d.shown) H
theorem call_reprW {X : Cx} {k : Nat} (hgd : X.A.guards = some []) (hr : Room k X.A) : CallR X (.builtin "repr") (rReprW X.K) := by
  intro pins s σ H xs us Q I r h
  obtain ⟨v, d, rfl, hd, ⟨h1, h3, h4⟩, q⟩ := h
  obtain ⟨u, rfl, ru⟩ := vals1 r
  have hu := hr.un
  have fin : ∀ h' y tk, (∀ b o, s.heap.get? b = some o → h'.get? b = some o) → EP X pins σ Q (.str d.shown y) { s with heap := h', toks := tk } := fun h' y tk k => ⟨.str _, H, I.kept k, ⟨_, rfl⟩, q⟩
  cases hd with
  | el hd =>
    obtain ⟨as, q1, q2⟩ := hd.reads I ru
    cases q1 with
    | none => exact PySem.P.repr_of_none (fin _ _ _ fun _ _ e => e)
    | bool b => exact PySem.P.repr_of_bool (fin _ _ _ fun _ _ e => e)
    | int i t =>
      refine PySem.P.repr_of_int (by simpa [PyData.showable] using h1) (fin _ _ _ fun _ _ e => e)
    | str x t => exact PySem.P.repr_of_str (fin _ _ _ fun _ _ e => e) h3
    | list a b c e => exact PySem.repr_of_reads' (.list a b c e) h1 q2 hgd (by omega) (fun _ _ e => e) fin h3
    | tuple a b c e => exact PySem.repr_of_reads' (.tuple a b c e) h1 q2 hgd (by omega) (fun _ _ e => e) fin h3
    | dict a b c e g => exact PySem.repr_of_reads' (.dict a b c e g) h1 q2 hgd (by omega) (fun _ _ e => e) fin h3
  | tup hT he =>
    rename_i a xs ds
    obtain rfl : u = Value.ref a := ru
    obtain ⟨its, rv, ⟨o, ho, hc, n, hd⟩, _⟩ := I.tuple hT
    have z : (tupleText (PyData.shownAll ds)).length ≤ sizeLine := by simpa only [PyData.shown] using h3
    obtain ⟨⟨as, q1⟩, bs, hb, hk⟩ := he.reads I rv (by simpa [PyData.showable] using h1) fun t ht => Nat.le_trans (tupleText_mem_le ht) z
    have hna : a ∉ bs := not_mem_of_deeper (Reads.tuple ho hc hd q1) (by simp only [PyData.depth]; omega) hb
    simp only [PyData.depth] at h4
    simp only [PyData.shown] at fin
    exact call_repr_slot (by omega) ⟨o, ho, hc⟩ F.slot_tuple_repr (call_tuple_reprK ho hc hd hna hk (A := X.A.in1) hgd (fun b _ => Clear.nil b) (by show X.A.units + 1 + _ < cLine; omega) (fun _ _ e => e) (fun h' y tk k => ⟨_, _, rfl, fin h' y tk k⟩) z)
end
end L2
set_option Elab.async false
set_option linter.all false
set_option maxRecDepth 100000
set_option maxHeartbeats 1000000
set_option exponentiation.threshold 20000
namespace L2
open PySem PySem.Spec PyProof.Rows
/-- the written part named: within a comprehension -/
theorem or_K {X : Cx} {f : Value → Value → Sem Value} {r : PySem.W.Frag → R2} (h : OpR X f (r X.K)) (K : PySem.W.Frag) (hK : X.K = K) : OpR X f (r K) := by
  subst hK
  exact h
/-- a reading that says more -/
theorem PS.of {X : Cx} {st : Stmt} {t : TS} (t' : TS) (h : PS X st t) (hi : ∀ D σ H, t' D σ H → t D σ H) : PS X st t' := ⟨fun pins s σ H D I q => h.run pins s σ H D I (hi D σ H q)⟩
theorem PE.of {X : Cx} {e : Expr} {t : TE} (t' : TE) (h : PE X e t) (hi : ∀ σ H Q, t' σ H Q → t σ H Q) : PE X e t' := ⟨fun pins s σ H Q I q => h.run pins s σ H Q I (hi σ H Q q)⟩
theorem SqT.put {K : PySem.W.Frag} {H H' : Hp} {a p : Addr} {xs l : List V} (h : SqT K H a xs) (hp : H p = some (.lst l)) (s : SameX p H H') : SqT K H' a xs := by
  have n : ∀ o, H a = some o → (∀ l, o ≠ .lst l) → a ≠ p := fun o e z y => by
    rw [y, hp] at e
    exact z l (Option.some.inj e).symm
  rcases h with (h | ⟨o, h⟩) | h
  · exact .inl (.inl (s _ _ (n _ h fun l z => nomatch z) h))
  · exact .inl (.inr ⟨o, s _ _ (n _ h fun l z => nomatch z) h⟩)
  · exact .inr h
end L2
namespace Fen
open PySem PySem.Spec PyProof.Rows L2
/-- a new fence -/
structure NewF (K : PySem.W.Frag) (H0 H : Hp) (t c o : Addr) (b : Int) (ks : Pts) (os : List Int) : Prop where
  nt : H0 t = none
  nc : H0 c = none
  no : H0 o = none
  tup : H t = some (.tup [.int b, .ref c, .ref o])
  cor : H c = some (.lst (refs ks))
  pts : At K H ks
  sid : H o = some (.lst (os.map V.int))
  ap : c ≠ o
theorem NewF.fat {K : PySem.W.Frag} {H0 H : Hp} {t c o : Addr} {b : Int} {ks : Pts} {os : List Int} (f : NewF K H0 H t c o b ks os) : FAt K H t c o b ks os := ⟨SqT.of f.tup, SqL.of f.cor, f.pts, SqL.of f.sid⟩
/-- a fence of lists that were made -/
structure FPl (K : PySem.W.Frag) (H : Hp) (t c o : Addr) (b : Int) (ks : Pts) (os : List Int) : Prop where
  tup : H t = some (.tup [.int b, .ref c, .ref o])
  cor : H c = some (.lst (refs ks))
  pts : At K H ks
  sid : H o = some (.lst (os.map V.int))
theorem FPl.fat {K : PySem.W.Frag} {H : Hp} {t c o : Addr} {b : Int} {ks : Pts} {os : List Int} (f : FPl K H t c o b ks os) : FAt K H t c o b ks os := ⟨SqT.of f.tup, SqL.of f.cor, f.pts, SqL.of f.sid⟩
theorem FPl.same {K : PySem.W.Frag} {H H' : Hp} {t c o : Addr} {b : Int} {ks : Pts} {os : List Int} (f : FPl K H t c o b ks os) (s : Same H H') : FPl K H' t c o b ks os := ⟨s _ _ f.tup, s _ _ f.cor, f.pts.same s, s _ _ f.sid⟩
theorem NewF.pl {K : PySem.W.Frag} {H0 H : Hp} {t c o : Addr} {b : Int} {ks : Pts} {os : List Int} (f : NewF K H0 H t c o b ks os) : FPl K H t c o b ks os := ⟨f.tup, f.cor, f.pts, f.sid⟩
theorem NewF.same {K : PySem.W.Frag} {H0 H H' : Hp} {t c o : Addr} {b : Int} {ks : Pts} {os : List Int} (f : NewF K H0 H t c o b ks os) (s : Same H H') : NewF K H0 H' t c o b ks os := ⟨f.nt, f.nc, f.no, s _ _ f.tup, s _ _ f.cor, f.pts.same s, s _ _ f.sid, f.ap⟩
theorem NewF.old {K : PySem.W.Frag} {H1 H0 H : Hp} {t c o : Addr} {b : Int} {ks : Pts} {os : List Int} (f : NewF K H0 H t c o b ks os) (s : Same H1 H0) : NewF K H1 H t c o b ks os := ⟨s.free f.nt, s.free f.nc, s.free f.no, f.tup, f.cor, f.pts, f.sid, f.ap⟩
def rI (n : Nat) : List Int := (List.range n).map fun (i : Nat) => (i : Int)
theorem rgV_rI (n : Nat) : rgV 0 (n : Int) = (rI n).map V.int := by
  unfold rgV rI
  rw [List.map_map, show ((n : Int) - 0).toNat = n by omega]
  refine List.map_congr_left fun i _ => ?_
  show V.int (0 + (i : Int)) = V.int (i : Int)
  rw [Int.zero_add]
theorem rI_up (n : Nat) : (rI n).Pairwise (· < ·) := by
  unfold Fen.rI
  rw [List.pairwise_map]
  exact List.Pairwise.imp (fun {a b} h => by omega) (List.pairwise_lt_range (n := n))
theorem rI_in {n : Nat} {o : Int} (h : o ∈ rI n) : 0 ≤ o ∧ o < n := by
  unfold Fen.rI at h
  obtain ⟨i, hi, rfl⟩ := List.mem_map.mp h
  have := List.mem_range.mp hi
  omega
/-- the other sides -/
def otherS (n : Nat) (os : List Int) : List Int := (rI n).filter fun i => !os.contains i
end Fen
namespace Fen
open PySem PySem.Spec PyProof.Rows L2
/-- within the range of corners -/
def Co (p : Hull.P) : Prop := -(10 : Int) ^ 30 ≤ p.1 ∧ p.1 ≤ 10 ^ 30 ∧ -(10 : Int) ^ 30 ≤ p.2 ∧ p.2 ≤ 10 ^ 30
theorem Co.sm {p : Hull.P} (h : Co p) : Sm p := by
  obtain ⟨a, b, c, d⟩ := h
  have e : (10 : Int) ^ 30 < 2 ^ 210 := by decide
  have e2 : ((2 : Int) ^ 210) = ((2 ^ 210 : Nat) : Int) := by decide
  unfold Sm
  generalize hL : (10 : Int) ^ 30 = L at *
  rw [e2] at e
  generalize (2 : Nat) ^ 210 = M at *
  omega
structure Nms (mg : Str → Option Value) : Prop where
  mii : mg "isinstance" = none
  mint : mg "int" = none
  mbool : mg "bool" = none
  mtup : mg "tuple" = none
  mlst : mg "list" = none
  mlen : mg "len" = none
  menum : mg "enumerate" = none
  lim : ∃ t, mg "LIMIT" = some (.int (10 ^ 30) t)
  gb : ∃ t, mg "GREATEST_BOTTOM" = some (.int 30 t)
  mc : ∃ t, mg "MOST_CORNERS" = some (.int 10 t)
structure Nm2 (mg : Str → Option Value) : Prop where
  mmin : mg "min" = none
  mmax : mg "max" = none
  mzip : mg "zip" = none
  mall : mg "all" = none
  mrange : mg "range" = none
  mabs : mg "abs" = none
  msum : mg "sum" = none
  mrepr : mg "repr" = none
  msorted : mg "sorted" = none
theorem kit_ii {K : PySem.W.Frag} : PySem.W.kitOne K (.type "int") (.type "int") = some true := kit_ty (by decide +kernel)
theorem kit_ib {K : PySem.W.Frag} : PySem.W.kitOne K (.type "int") (.type "bool") = some false := kit_ty (by decide +kernel)
theorem kit_tt {K : PySem.W.Frag} : PySem.W.kitOne K (.type "tuple") (.type "tuple") = some true := kit_ty (by decide +kernel)
theorem kit_ll {K : PySem.W.Frag} : PySem.W.kitOne K (.type "list") (.type "list") = some true := kit_ty (by decide +kernel)
end Fen
namespace Fen
open PySem PySem.Spec PyProof.Rows L2
theorem asc_nodup {s : List Hull.P} (h : s.Pairwise Hull.Lt) : s.Nodup := h.imp fun l => l.ne
theorem hul_len {s D : List Hull.P} (h : s.Pairwise Hull.Lt) (h1 : 1 ≤ s.length) (hs : ∀ x ∈ s, x ∈ D) : (hul s).length ≤ D.length := by
  refine nodup_le _ _ ?_ fun x hx => hs x ((shape_hul h h1).2.2 x hx)
  by_cases e : s.length = 1
  · rw [show hul s = s from if_pos e]
    exact asc_nodup h
  · rw [show hul s = Hull.hull s from if_neg e]
    exact (Hull.poly h (by omega)).nodup
/-- another list is written -/
theorem FAt.upd {K : PySem.W.Frag} {H H' : Hp} {t c o w : Addr} {b : Int} {ks : Pts} {os : List Int} {l : List V} (f : FAt K H t c o b ks os) (hw : H w = some (.lst l)) (s : SameX w H H') (cw : c ≠ w) (ow : o ≠ w) : FAt K H' t c o b ks os := by
  have sq : ∀ {a : Addr} {xs : List V}, a ≠ w → SqL K H a xs → SqL K H' a xs := fun {a xs} n h => by
    rcases h with (h | ⟨u, h⟩) | h
    · exact .inl (.inl (s _ _ n h))
    · exact .inl (.inr ⟨u, s _ _ n h⟩)
    · exact .inr h
  exact ⟨L2.SqT.put f.tup hw s, sq cw f.cor, fun p hp => L2.SqT.put (f.pts p hp) hw s, sq ow f.sid⟩
theorem eqv_pt_eq {p q : Hull.P} (h : PyData.eqv (ptD p) (ptD q) = true) : p = q := by
  obtain ⟨a, b⟩ := p
  obtain ⟨c, d⟩ := q
  simp [ptD, PyData.eqv, PyData.eqvAll] at h
  rw [h.1, h.2]
theorem eqv_ptsAll : ∀ {ps qs : List Hull.P}, PyData.eqvAll (ps.map ptD) (qs.map ptD) = true → ps = qs
  | [], [], _ => rfl
  | [], _ :: _, h => by simp [PyData.eqvAll] at h
  | _ :: _, [], h => by simp [PyData.eqvAll] at h
  | p :: ps, q :: qs, h => by
    rw [List.map_cons, List.map_cons] at h
    simp only [PyData.eqvAll, Bool.and_eq_true] at h
    rw [eqv_pt_eq h.1, eqv_ptsAll h.2]
theorem eqv_pts_eq {ps qs : List Hull.P} (h : PyData.eqv (ptsD ps) (ptsD qs) = true) : ps = qs := by
  refine eqv_ptsAll ?_
  simpa [ptsD, PyData.eqv] using h
theorem getD_snd {ks : Pts} {i : Nat} {p : Addr × Hull.P} (h : ks[i]? = some p) : (ks.map (·.2)).getD i (0, 0) = p.2 := by rw [List.getD_eq_getElem?_getD, List.getElem?_map, h] <;> rfl
end Fen
set_option Elab.async false
set_option linter.all false
set_option maxRecDepth 100000
set_option maxHeartbeats 1000000
set_option exponentiation.threshold 20000
namespace Fen
open PySem PySem.Spec PyProof.Rows L2
/-! written points, lists of them, fences -/
def tPtA (K : PySem.W.Frag) (ps : List Hull.P) : TA := fun σ H Q => ∀ H' ks, Same H H' → At K H' ks → ks.map (·.2) = ps → Q (refs ks) H'
def tPtL (K : PySem.W.Frag) (ps : List Hull.P) : TE := fun σ H Q => ∀ H' f ks, Same H H' → H f = none → H' f = some (.lst (refs ks)) → At K H' ks → ks.map (·.2) = ps → Q (.ref f) H'
theorem PA.of {X : Cx} {es : List Expr} {t : TA} (t' : TA) (h : PA X es t) (hi : ∀ σ H Q, t' σ H Q → t σ H Q) : PA X es t' := ⟨fun pos pins s σ H Q I q => h.run pos pins s σ H Q I (hi σ H Q q)⟩
section
variable {X : Cx} {K : PySem.W.Frag}
theorem pa_ptnil : PA X [] (tPtA K []) := PA.of _ pa_nil fun σ H Q h => h H [] (Same.refl _) (fun p hp => nomatch hp) rfl
theorem pa_pt {e1 e2 : Expr} {es : List Expr} {i j : Int} {ps : List Hull.P} {kk : Nat} {pos : Pos} (h1 : PE X e1 (tC (.int i))) (h2 : PE X e2 (tC (.int j))) (hr : PA X es (tPtA K ps)) (hK : X.K = K := by rfl)
    (n1 : starEach (e1 :: [e2]) X.env = (false, eval e1 X.env) :: starEach [e2] X.env := by rfl) (n2 : starEach (e2 :: []) X.env = (false, eval e2 X.env) :: starEach [] X.env := by rfl)
    (hs : starEach (.Tuple [e1, e2] kk pos :: es) X.env = (false, eval (.Tuple [e1, e2] kk pos) X.env) :: starEach es X.env := by rfl) : PA X (.Tuple [e1, e2] kk pos :: es) (tPtA K ((i, j) :: ps)) := by
  subst hK
  refine PA.of _ (pa_cons (pe_tup (pa_cons h1 (pa_cons h2 pa_nil n2) n1)) hr hs) fun σ H Q h => ?_
  refine ⟨by show 2 ≤ sizeLine; decide, fun t nt => fun H' ks s T e => ?_⟩
  refine h H' ((t, (i, j)) :: ks) ((same_new nt).trans s) (fun p hp => ?_) (by rw [List.map_cons, e])
  rcases List.mem_cons.mp hp with rfl | z
  · exact SqT.of (s _ _ upd_same)
  · exact T p z
theorem pe_ptl {es : List Expr} {ps : List Hull.P} {pos : Pos} (h : PA X es (tPtA K ps)) (hl : ps.length ≤ 4000) : PE X (.List es pos) (tPtL K ps) := by
  refine PE.of _ (pe_lst h) fun σ H Q q => fun H' ks s T e => ⟨?_, fun f nf => ?_⟩
  · have := congrArg List.length e
    rw [List.length_map] at this
    rw [refs_len]
    exact sz20 (by omega)
  · exact q _ f ks (s.trans (same_new nf)) (s.free nf) upd_same (T.same (same_new nf)) e
end
end Fen
namespace Fen
open PySem PySem.Spec PyProof.Rows L2
/-- a fence is there -/
def TFs (K : PySem.W.Frag) (H : Hp) (b : Int) (ps : List Hull.P) (os : List Int) (t : Addr) : Prop := ∃ c o ks, FPl K H t c o b ks os ∧ ks.map (·.2) = ps
theorem TFs.same {K : PySem.W.Frag} {H H' : Hp} {b : Int} {ps : List Hull.P} {os : List Int} {t : Addr} (h : TFs K H b ps os t) (s : Same H H') : TFs K H' b ps os t := by
  obtain ⟨c, o, ks, f, r⟩ := h
  exact ⟨c, o, ks, f.same s, r⟩
theorem TFs.dp {K : PySem.W.Frag} {H : Hp} {b : Int} {ps : List Hull.P} {os : List Int} {t : Addr} (h : TFs K H b ps os t) : Dp K H (.ref t) (fD b ps os) := by
  obtain ⟨c, o, ks, f, rfl⟩ := h
  exact f.fat.dp
def tFenS (K : PySem.W.Frag) (b : Int) (ps : List Hull.P) (os : List Int) : TE := fun σ H Q => ∀ H' t, Same H H' → TFs K H' b ps os t → Q (.ref t) H'
section
variable {X : Cx} {K : PySem.W.Frag}
theorem pe_fenS {e1 e2 : Expr} {es : List Expr} {b : Int} {ps : List Hull.P} {os : List Int} {kk : Nat} {pos lp : Pos} {t3 : L2.TA} (h1 : PE X e1 (tC (.int b))) (h2 : PE X e2 (tPtL K ps)) (h3 : PA X es t3) (hi : ∀ σ H Q, Q (os.map V.int) H → t3 σ H Q) (lo : os.length ≤ 10)
    (n1 : starEach [e1, e2, .List es lp] X.env = (false, eval e1 X.env) :: starEach [e2, .List es lp] X.env := by rfl) (n2 : starEach [e2, .List es lp] X.env = (false, eval e2 X.env) :: starEach [.List es lp] X.env := by rfl)
    (n3 : starEach [.List es lp] X.env = (false, eval (.List es lp) X.env) :: starEach [] X.env := by rfl) : PE X (.Tuple [e1, e2, .List es lp] kk pos) (tFenS K b ps os) := by
  refine PE.of _ (pe_tup (pa_cons h1 (pa_cons h2 (pa_cons (pe_lst h3) pa_nil n3) n2) n1)) fun σ H Q h => ?_
  refine fun H1 f ks s1 nf hf T e => hi _ _ _ ⟨by rw [List.length_map]; exact Nat.le_trans lo (by decide), fun x nx => ⟨by show 3 ≤ sizeLine; decide, fun t nt => ?_⟩⟩
  have s2 := (same_new (o := .lst (os.map V.int)) nx).trans (same_new (o := .tup [.int b, .ref f, .ref x]) nt)
  exact h _ t (s1.trans s2) ⟨f, x, ks, ⟨upd_same, s2 _ _ hf, T.same s2, (same_new nt) _ _ upd_same⟩, e⟩
end
theorem pts_push {K : PySem.W.Frag} {H0 H : Hp} {N u : Addr} {near : Pts} {q : Hull.P} (s : Same H0 H) (nN : H0 N = none) (hN : H N = some (.lst (refs near))) (T : At K H near) (nu : H u = none) :
    (upd H u (.tup [.int q.1, .int q.2])) N = some (.lst (refs near)) ∧ Same H0 (upd (upd H u (.tup [.int q.1, .int q.2])) N (.lst (refs near ++ [.ref u]))) ∧ (upd (upd H u (.tup [.int q.1, .int q.2])) N (.lst (refs near ++ [.ref u]))) N = some (.lst (refs (near ++ [(u, q)]))) ∧ At K (upd (upd H u (.tup [.int q.1, .int q.2])) N (.lst (refs near ++ [.ref u]))) (near ++ [(u, q)]) := by
  have s3 := same_new (o := .tup [.int q.1, .int q.2]) nu
  have hN3 := s3 _ _ hN
  have uN : u ≠ N := fun z => by
    rw [z, hN] at nu
    cases nu
  refine ⟨hN3, fun a r e => ?_, ?_, fun r hr => ?_⟩
  · have nb : a ≠ N := fun y => by rw [y, nN] at e; cases e
    rw [upd_ne nb]
    exact (s.trans s3) a r e
  · rw [upd_same]
    simp [refs]
  · rcases List.mem_append.mp hr with z | z
    · exact L2.SqT.put ((T.same s3) r z) hN3 SameX.put
    · rw [List.mem_singleton.mp z]
      refine SqT.of ?_
      rw [upd_ne uN]
      exact upd_same
theorem sz_push {near : Pts} {n : Nat} (h : near.length = n) (l : n ≤ 60) : (refs near).length < sizeLine := by
  rw [refs_len, h]
  exact Nat.lt_of_le_of_lt l (by decide)
end Fen
set_option Elab.async false
set_option linter.all false
set_option maxRecDepth 100000
set_option maxHeartbeats 1000000
/-! values of any kind: their types and parts -/
namespace Fen
open PySem PySem.Spec PyProof.Rows L2
def tyD : PyData → Value
  | .none => .type "NoneType"
  | .bool _ => .type "bool"
  | .int _ => .type "int"
  | .str _ => .type "str"
  | .list _ => .type "list"
  | .tuple _ => .type "tuple"
  | .dict _ => .type "dict"
theorem ty_w {K : PySem.W.Frag} {H : Hp} {v : V} {d : PyData} (h : Wt K H v d) : TyX K H v (tyD d) := by
  cases h with
  | el h =>
    cases h with
    | d h _ =>
      cases h with
      | non => exact .base .non
      | bl b => exact .base (.bl b)
      | int i => exact .base (.int i)
      | str x => exact .base (.str x)
      | lst hs _ => exact ty_lst hs
      | tup hs _ => exact ty_tup hs
    | e h => exact .base (.dK h)
  | tup h _ => exact ty_tup h
def isIn : PyData → Bool
  | .int _ => true
  | .bool _ => true
  | _ => false
def isBo : PyData → Bool
  | .bool _ => true
  | _ => false
def isTu : PyData → Bool
  | .tuple _ => true
  | _ => false
def isLi : PyData → Bool
  | .list _ => true
  | _ => false
theorem kit_in {K : PySem.W.Frag} (d : PyData) : PySem.W.kitOne K (tyD d) (.type "int") = some (isIn d) := by
  cases d <;> first | exact kit_ty (r := true) (by decide +kernel) | exact kit_ty (r := false) (by decide +kernel)
theorem kit_bo {K : PySem.W.Frag} (d : PyData) : PySem.W.kitOne K (tyD d) (.type "bool") = some (isBo d) := by
  cases d <;> first | exact kit_ty (r := true) (by decide +kernel) | exact kit_ty (r := false) (by decide +kernel)
theorem kit_tu {K : PySem.W.Frag} (d : PyData) : PySem.W.kitOne K (tyD d) (.type "tuple") = some (isTu d) := by
  cases d <;> first | exact kit_ty (r := true) (by decide +kernel) | exact kit_ty (r := false) (by decide +kernel)
theorem kit_li {K : PySem.W.Frag} (d : PyData) : PySem.W.kitOne K (tyD d) (.type "list") = some (isLi d) := by
  cases d <;> first | exact kit_ty (r := true) (by decide +kernel) | exact kit_ty (r := false) (by decide +kernel)
theorem we_all {K : PySem.W.Frag} {H : Hp} : ∀ {vs : List V} {ds : List PyData}, DpAll K H vs ds → PyData.hasDictAll ds = false → WeAll K H vs ds
  | _, _, .nil, _ => .nil
  | _, _, .cons h hs, n => by
    simp only [PyData.hasDictAll, Bool.or_eq_false_iff] at n
    exact .cons (.d h n.1) (we_all hs n.2)
theorem tup_w {K : PySem.W.Frag} {H : Hp} {v : V} {ds : List PyData} (h : Wt K H v (.tuple ds)) : ∃ a xs, v = .ref a ∧ SqT K H a xs ∧ WeAll K H xs ds := by
  cases h with
  | el h =>
    cases h with
    | d h n =>
      cases h with
      | tup hs ha => exact ⟨_, _, rfl, hs, we_all ha (by simpa [PyData.hasDict] using n)⟩
  | tup h e => exact ⟨_, _, rfl, h, e⟩
theorem lst_w {K : PySem.W.Frag} {H : Hp} {v : V} {ds : List PyData} (h : Wt K H v (.list ds)) : ∃ a xs, v = .ref a ∧ SqL K H a xs ∧ DpAll K H xs ds ∧ PyData.hasDictAll ds = false := by
  cases h with
  | el h =>
    cases h with
    | d h n =>
      cases h with
      | lst hs ha => exact ⟨_, _, rfl, hs, ha, by simpa [PyData.hasDict] using n⟩
theorem int_w {K : PySem.W.Frag} {H : Hp} {v : V} {i : Int} (h : Wt K H v (.int i)) : v = .int i := by
  cases h with
  | el h =>
    cases h with
    | d h _ =>
      cases h
      rfl
end Fen
namespace L2
open PySem PySem.Spec PyProof.Rows
theorem WeAll.len {K : PySem.W.Frag} {H : Hp} : ∀ {vs : List V} {ds : List PyData}, WeAll K H vs ds → vs.length = ds.length
  | _, _, .nil => rfl
  | _, _, .cons _ h => congrArg Nat.succ h.len
theorem DpAll.len {K : PySem.W.Frag} {H : Hp} : ∀ {vs : List V} {ds : List PyData}, DpAll K H vs ds → vs.length = ds.length
  | _, _, .nil => rfl
  | _, _, .cons _ h => congrArg Nat.succ (DpAll.len h)
theorem DpAll.at {K : PySem.W.Frag} {H : Hp} : ∀ {vs : List V} {ds : List PyData} {i : Nat} {v : V}, DpAll K H vs ds → PyData.hasDictAll ds = false → vs[i]? = some v → ∃ d, ds[i]? = some d ∧ Dp K H v d ∧ d.hasDict = false
  | _, _, 0, _, .cons h hs, n, e => by
    simp only [PyData.hasDictAll, Bool.or_eq_false_iff] at n
    obtain rfl := Option.some.inj e
    exact ⟨_, rfl, h, n.1⟩
  | _, _, i + 1, _, .cons h hs, n, e => by
    simp only [PyData.hasDictAll, Bool.or_eq_false_iff] at n
    exact DpAll.at (i := i) hs n.2 (by simpa using e)
/-- what a heap that grew leaves -/
theorem Dp.same {K : PySem.W.Frag} {H H' : Hp} (s : Same H H') : ∀ {d : PyData} {v : V}, Dp K H v d → Dp K H' v d := by
  have key : ∀ n, (∀ d : PyData, sizeOf d < n → ∀ v, Dp K H v d → Dp K H' v d) := by
    intro n
    induction n with
    | zero => intro d h; omega
    | succ n ih =>
      intro d hd v h
      have all : ∀ ds : List PyData, sizeOf ds < n + 1 → ∀ vs, DpAll K H vs ds → DpAll K H' vs ds := by
        intro ds
        induction ds with
        | nil =>
          intro _ vs h
          cases h
          exact .nil
        | cons d ds ihl =>
          intro hz vs h
          cases h with
          | cons h1 h2 =>
            simp only [List.cons.sizeOf_spec] at hz
            exact .cons (ih d (by omega) _ h1) (ihl (by omega) _ h2)
      cases h with
      | non => exact .non
      | bl b => exact .bl b
      | int i => exact .int i
      | str x => exact .str x
      | lst hs ha =>
        simp only [PyData.list.sizeOf_spec] at hd
        exact .lst (s.seq hs) (all _ (by omega) _ ha)
      | tup hs ha =>
        simp only [PyData.tuple.sizeOf_spec] at hd
        exact .tup (s.seqT hs) (all _ (by omega) _ ha)
  intro d v h
  exact key _ d (Nat.lt_succ_self _) v h
theorem We.same {K : PySem.W.Frag} {H H' : Hp} {v : V} {d : PyData} (h : We K H v d) (s : Same H H') : We K H' v d := by
  cases h with
  | d h n => exact .d (Dp.same s h) n
  | e h => exact .e (s _ _ h)
theorem WeAll.same {K : PySem.W.Frag} {H H' : Hp} (s : Same H H') : ∀ {vs : List V} {ds : List PyData}, WeAll K H vs ds → WeAll K H' vs ds
  | _, _, .nil => .nil
  | _, _, .cons h hs => .cons (h.same s) (WeAll.same s hs)
theorem Wt.same {K : PySem.W.Frag} {H H' : Hp} {v : V} {d : PyData} (h : Wt K H v d) (s : Same H H') : Wt K H' v d := by
  cases h with
  | el h => exact .el (h.same s)
  | tup h e => exact .tup (s.seqT h) (e.same s)
end L2
set_option Elab.async false
set_option linter.all false
set_option maxRecDepth 100000
set_option maxHeartbeats 1000000
set_option exponentiation.threshold 20000
namespace L2
open PySem PySem.Spec PyProof.Rows
/-- one parameter, given by its name -/
def KwOne (K : PySem.W.Frag) (fd : FuncData) (nm : Str) : Prop := ∀ (s : Shared) (u : Value), K.In s.heap → BindsTo s fd ⟨[], [(nm, u)]⟩ [(nm, u)]
section
variable {X : Cx} {CX : CXT} {k : Nat} {f : Addr} {fd : FuncData} {nm : Str} {sp : Sp} {E : XK} {x : Str} {p pos kpos : Pos} {e : Expr} {te : TE}
/-- f(name=e) and nothing else -/
theorem pe_callN (F : FnOk X.prog X.w X.K X.mg X.base CX k f fd [nm] sp) (hr : Room k X.A) (hg : Gl X x) (hm : X.mg x = some (.ref f)) (hk : PySem.W.keepIn X.K (.ref f) = true) (hb : KwOne X.K fd nm) (hx : Passes CX X E)
    (he : PE X e te) (hdb : (x == ("__debug__" : Str)) = false := by decide) : PE X (.Call (.Name x p) [] [⟨some nm, e, kpos⟩] pos) (tCall sp [] E (tCons te tNil)) := by
  refine ⟨fun pins s σ H Q I h => ?_⟩
  refine wpAny_Call_Name_kw (ld_glob I hg hm ?_ hdb)
  have hall : (backToKw pos (keywordEach [⟨some nm, e, kpos⟩] X.env)).all (·.1.isSome) = true := by rfl
  refine PySem.W.callWith_KW0 (h₀ := X.base) (env := X.env) (kws := [⟨some nm, e, kpos⟩]) (pos := pos) I.ok.mod.kin hk hall ?_
  have hkw : PK X [⟨some nm, e, kpos⟩] (tCons te tNil) := pk_cons he pk_nil
  refine thn (hkw.run pos pins s σ H (fun vs H1 => sp (vs ++ []) H1 Q E) I h) fun us s1 ⟨vs, H1, I1, r1, q1⟩ => ?_
  refine ⟨I1.kIn, ?_⟩
  have hl : us.length = 1 := by
    have : (vs ++ []).length = 1 := F.len _ _ _ _ q1
    rw [List.append_nil] at this
    rw [← r1.length]
    exact this
  obtain ⟨u, rfl⟩ : ∃ u, us = [u] := by
    rcases us with _ | ⟨u, _ | ⟨v, r⟩⟩
    · simp at hl
    · exact ⟨u, rfl⟩
    · simp at hl
  have q2 : sp vs H1 Q E := by
    have q3 : sp (vs ++ []) H1 Q E := q1
    rw [List.append_nil] at q3
    exact q3
  show wpAny _ _ (call (.ref f) [] [(nm, u)]) _ _ _
  refine wpAny_call (codeAny_mono (F.run X.A X.stack s1 H1 ⟨[], [(nm, u)]⟩ [u] vs Q E hr I1.env0 (hb s1 u I1.kIn) r1 q2) fun r s' hq => ?_)
  cases r with
  | error e => exact hx pins σ H1 s1 e s' I1 hq
  | ok fl =>
    cases fl with
    | ret u => exact I1.after hq
    | next => exact False.elim hq
    | brk => exact False.elim hq
    | cont => exact False.elim hq
end
/-- a def that is called -/
structure Cal (P : Program) (w : World) (K : PySem.W.Frag) (mg : Str → Option Value) (base : Heap) (k : Nat) (x : Str) (f : Addr) (fd : FuncData) (ps : List Str) (sp : Sp) : Prop where
  ok : FnOk P w K mg base CX0 k f fd ps sp
  kp : PySem.W.keepIn K (.ref f) = true
  bi : L2.Binds K fd ps []
  mt : mg x = some (.ref f)
structure CalG (P : Program) (w : World) (K : PySem.W.Frag) (mg : Str → Option Value) (base : Heap) (k : Nat) (x : Str) (f : Addr) (fd : FuncData) (ps : List Str) (sp : Sp) : Prop where
  ok : FnG P w K mg base CX0 k f fd ps sp
  kp : PySem.W.keepIn K (.ref f) = true
  bi : L2.Binds K fd ps []
  mt : mg x = some (.ref f)
section
variable {X : Cx} {k : Nat} {f : Addr} {fd : FuncData} {ps : List Str} {nm : Str} {sp : Sp} {x : Str} {p pos kpos : Pos} {e : Expr} {es : List Expr} {t : TA} {te : TE}
theorem pe_cal (C : Cal X.prog X.w X.K X.mg X.base k x f fd ps sp) (hr : Room k X.A) (ha : PA X (e :: es) t) (hg : Gl X x := by rfl) (hdb : (x == ("__debug__" : Str)) = false := by decide)
    (he : starEach (e :: es) X.env = (false, eval e X.env) :: starEach es X.env := by rfl) (hpl : (backTo pos (starEach es X.env)).any (·.1) = false := by rfl) : PE X (.Call (.Name x p) (e :: es) [] pos) (tCall sp [] E0 t) :=
  pe_call C.ok hr hg C.mt C.kp C.bi .nil pass0 ha hdb he hpl
theorem pe_calG (C : CalG X.prog X.w X.K X.mg X.base k x f fd ps sp) (hgd : X.A.guards = some []) (hr : Room k X.A) (ha : PA X (e :: es) t) (hg : Gl X x := by rfl) (hdb : (x == ("__debug__" : Str)) = false := by decide)
    (he : starEach (e :: es) X.env = (false, eval e X.env) :: starEach es X.env := by rfl) (hpl : (backTo pos (starEach es X.env)).any (·.1) = false := by rfl) : PE X (.Call (.Name x p) (e :: es) [] pos) (tCall sp [] E0 t) :=
  pe_callG C.ok hgd hr hg C.mt C.kp C.bi .nil pass0 ha hdb he hpl
theorem pe_calN (C : Cal X.prog X.w X.K X.mg X.base k x f fd [nm] sp) (hn : KwOne X.K fd nm) (hr : Room k X.A) (he : PE X e te) (hg : Gl X x := by rfl) (hdb : (x == ("__debug__" : Str)) = false := by decide) : PE X (.Call (.Name x p) [] [⟨some nm, e, kpos⟩] pos) (tCall sp [] E0 (tCons te tNil)) :=
  pe_callN C.ok hr hg C.mt C.kp hn pass0 he hdb
end
end L2
namespace L2
open PySem PySem.Spec PyProof.Rows
theorem WeAll.at {K : PySem.W.Frag} {H : Hp} : ∀ {vs : List V} {ds : List PyData} {i : Nat} {v : V}, WeAll K H vs ds → vs[i]? = some v → ∃ d, ds[i]? = some d ∧ We K H v d
  | _, _, 0, _, .cons h hs, e => by
    obtain rfl := Option.some.inj e
    exact ⟨_, rfl, h⟩
  | _, _, i + 1, _, .cons h hs, e => WeAll.at (i := i) hs (by simpa using e)
end L2
namespace Fen
open PySem PySem.Spec PyProof.Rows L2
theorem otherS_up (n : Nat) (os : List Int) : (otherS n os).Pairwise (· < ·) := (rI_up n).filter _
theorem mem_rI {n : Nat} {x : Int} : x ∈ rI n ↔ 0 ≤ x ∧ x < n := by
  unfold Fen.rI
  rw [List.mem_map]
  constructor
  · rintro ⟨i, hi, rfl⟩
    have := List.mem_range.mp hi
    omega
  · intro h
    exact ⟨x.toNat, List.mem_range.mpr (by omega), by omega⟩
theorem mem_other {n : Nat} {os : List Int} {x : Int} : x ∈ otherS n os ↔ (0 ≤ x ∧ x < n) ∧ x ∉ os := by
  unfold otherS
  rw [List.mem_filter, mem_rI]
  simp
theorem up_uniq : ∀ {l m : List Int}, l.Pairwise (· < ·) → m.Pairwise (· < ·) → (∀ x, x ∈ l ↔ x ∈ m) → l = m
  | [], [], _, _, _ => rfl
  | [], y :: m, _, _, h => absurd ((h y).mpr List.mem_cons_self) (by simp)
  | x :: l, [], _, _, h => absurd ((h x).mp List.mem_cons_self) (by simp)
  | x :: l, y :: m, hl, hm, h => by
    obtain ⟨l1, l2⟩ := List.pairwise_cons.mp hl
    obtain ⟨m1, m2⟩ := List.pairwise_cons.mp hm
    have e : x = y := by
      rcases List.mem_cons.mp ((h x).mp List.mem_cons_self) with z | z
      · exact z
      · rcases List.mem_cons.mp ((h y).mpr List.mem_cons_self) with z2 | z2
        · exact z2.symm
        · have := m1 x z
          have := l1 y z2
          omega
    subst e
    congr 1
    refine up_uniq l2 m2 fun z => ?_
    constructor
    · intro hz
      rcases List.mem_cons.mp ((h z).mp (List.mem_cons_of_mem _ hz)) with rfl | q
      · exact absurd (l1 z hz) (Int.lt_irrefl z)
      · exact q
    · intro hz
      rcases List.mem_cons.mp ((h z).mpr (List.mem_cons_of_mem _ hz)) with rfl | q
      · exact absurd (m1 z hz) (Int.lt_irrefl z)
      · exact q
/-- [side for side in range(many) if side in sides] is sides just if they ascend and are of the sides -/
theorem in_sides {n : Nat} {os : List Int} : (rI n).filter (fun i => os.contains i) = os ↔ os.Pairwise (· < ·) ∧ ∀ o ∈ os, 0 ≤ o ∧ o < n := by
  constructor
  · intro h
    rw [← h]
    exact ⟨(rI_up n).filter _, fun o ho => rI_in (List.mem_filter.mp ho).1⟩
  · rintro ⟨up, inn⟩
    refine up_uniq ((rI_up n).filter _) up fun x => ?_
    rw [List.mem_filter, mem_rI]
    constructor
    · rintro ⟨_, h⟩
      simpa using h
    · intro h
      exact ⟨inn x h, by simpa using h⟩
theorem ones_nil (n : Nat) : PyData.eqv (.list (List.replicate n (.int 1))) (.list []) = decide (n = 0) := by
  cases n with
  | zero => rfl
  | succ n => rw [List.replicate_succ]; rfl
theorem dp_ones {K : PySem.W.Frag} {H : Hp} : ∀ n, DpAll K H (List.replicate n (V.int 1)) (List.replicate n (PyData.int 1))
  | 0 => .nil
  | n + 1 => .cons (.int 1) (dp_ones n)
theorem shaped_ones (n : Nat) : SeqAt.shaped (.list (List.replicate n (.int 1))) = true := by
  have h : ∀ n : Nat, PyData.canLayAll0 (List.replicate n (.int 1)) = true ∧ PyData.depthAll (List.replicate n (.int 1)) ≤ 1 := by
    intro n
    induction n with
    | zero => exact ⟨rfl, by decide⟩
    | succ n ih => exact ⟨by rw [List.replicate_succ]; simp [PyData.canLayAll0, PyData.canLay0, ih.1], by rw [List.replicate_succ]; simp only [PyData.depthAll, PyData.depth]; omega⟩
  unfold SeqAt.shaped
  simp only [PyData.canLay0, PyData.depth, (h n).1, Bool.true_and]
  exact decide_eq_true (by have := (h n).2; omega)
theorem shaped_intl (ns : List Int) : SeqAt.shaped (.list (ns.map PyData.int)) = true := by
  unfold SeqAt.shaped
  simp only [PyData.canLay0, PyData.depth, (ints_lay ns).1, Bool.true_and]
  exact decide_eq_true (by have := (ints_lay ns).2; omega)
theorem eqv_ints : ∀ {l m : List Int}, PyData.eqvAll (l.map PyData.int) (m.map PyData.int) = true → l = m
  | [], [], _ => rfl
  | [], _ :: _, h => by simp [PyData.eqvAll] at h
  | _ :: _, [], h => by simp [PyData.eqvAll] at h
  | x :: l, y :: m, h => by
    rw [List.map_cons, List.map_cons] at h
    simp only [PyData.eqvAll, Bool.and_eq_true] at h
    have e : x = y := by simpa [PyData.eqv] using h.1
    rw [e, eqv_ints h.2]
/-- how many of data are no such -/
noncomputable def noN (p : PyData → Prop) (ds : List PyData) : Nat := (ds.filter fun x => !B (p x)).length
theorem noN_zero {p : PyData → Prop} {ds : List PyData} : noN p ds = 0 ↔ ∀ x ∈ ds, p x := by
  unfold noN
  rw [List.length_eq_zero_iff, List.filter_eq_nil_iff]
  constructor
  · intro h x hx
    refine Classical.byContradiction fun n => h x hx ?_
    rw [B_false n]
    rfl
  · intro h x hx
    rw [B_true (h x hx)]
    simp
theorem noN_snoc (p : PyData → Prop) (ds : List PyData) (x : PyData) : noN p (ds ++ [x]) = noN p ds + if B (p x) then 0 else 1 := by
  unfold noN
  rw [List.filter_append, List.length_append, List.filter_cons, List.filter_nil]
  cases h : B (p x) <;> rfl
theorem noN_le (p : PyData → Prop) (ds : List PyData) : noN p ds ≤ ds.length := List.length_filter_le _ _
end Fen
set_option Elab.async false
set_option linter.all false
set_option maxRecDepth 100000
set_option maxHeartbeats 1000000
set_option exponentiation.threshold 20000
namespace K38
open PySem PySem.Spec PyProof.Rows L2 Fen
abbrev sSto : Stmt := topS 33
abbrev sDrw : Stmt := topS 34
theorem scSto : FnScope ["_law_script", "_law_digits", "_law_mixed", "_law_cell", "_law_grown"] ["_law_script"] (defScope sSto) := ⟨rfl, rfl, rfl, by decide +kernel, rfl, by decide +kernel, by decide +kernel⟩
theorem scDrw : FnScope ["_law_stock_here", "_law_wide", "_law_found", "_law_grown"] ["_law_stock_here", "_law_wide"] (defScope sDrw) := ⟨rfl, rfl, rfl, by decide +kernel, rfl, by decide +kernel, by decide +kernel⟩
abbrev M127 : Int := 170141183460469231731687303715884105727
/-- a bag at p, at most n times mixed -/
def BagAt (H : Hp) (p : Addr) (n : Nat) : Prop := ∃ d m c : Int, H p = some (.lst [.int d, .int m, .int c]) ∧ 0 ≤ m ∧ m < 2 ^ 140 ∧ 0 ≤ c ∧ c ≤ n
theorem BagAt.same {H H' : Hp} {p : Addr} {n : Nat} (b : BagAt H p n) (s : Same H H') : BagAt H' p n := by
  obtain ⟨d, m, c, h, r⟩ := b
  exact ⟨d, m, c, s _ _ h, r⟩
theorem BagAt.more {H : Hp} {p : Addr} {n n' : Nat} (b : BagAt H p n) (h : n ≤ n') : BagAt H p n' := by
  obtain ⟨d, m, c, e, a1, a2, a3, a4⟩ := b
  exact ⟨d, m, c, e, a1, a2, a3, by omega⟩
/-- only the bag at p was changed, and things are new -/
structure Drew (p : Addr) (H H' : Hp) (n : Nat) : Prop where
  x : SameX p H H'
  bag : BagAt H' p n
theorem Drew.free {p : Addr} {H H' : Hp} {n : Nat} (d : Drew p H H' n) {b : Addr} (h : H' b = none) : H b = none := by
  cases e : H b with
  | none => rfl
  | some o =>
    have bp : b ≠ p := fun z => by
      obtain ⟨_, _, _, hb, _⟩ := d.bag
      rw [z, hb] at h
      cases h
    rw [d.x b o bp e] at h
    cases h
theorem Drew.new {p : Addr} {H H' : Hp} {n : Nat} (d : Drew p H H' n) {H'' : Hp} (s : Same H' H'') : Drew p H H'' n := ⟨d.x.trans s.x, d.bag.same s⟩
theorem Drew.then {p : Addr} {H H' H'' : Hp} {n m : Nat} (d : Drew p H H' n) (e : Drew p H' H'' m) : Drew p H H'' m := ⟨d.x.trans e.x, e.bag⟩
theorem Drew.of {p : Addr} {H H' : Hp} {n : Nat} (b : BagAt H p n) (s : Same H H') : Drew p H H' n := ⟨s.x, b.same s⟩
theorem SameX.seqL {K : PySem.W.Frag} {p a : Addr} {H H' : Hp} {xs : List V} (s : SameX p H H') (n : a ≠ p) (h : SqL K H a xs) : SqL K H' a xs := by
  rcases h with (h | ⟨o, h⟩) | h
  · exact .inl (.inl (s _ _ n h))
  · exact .inl (.inr ⟨o, s _ _ n h⟩)
  · exact .inr h
theorem Drew.list_ne {p : Addr} {H H' : Hp} {n : Nat} (d : Drew p H H' n) {b : Addr} (h : H' b = none) : b ≠ p := fun z => by
  obtain ⟨_, _, _, e, _⟩ := d.bag
  rw [z, e] at h
  cases h
theorem BagAt.ne {p : Addr} {H : Hp} {n : Nat} (d : BagAt H p n) {b : Addr} (h : H b = none) : b ≠ p := fun z => by
  obtain ⟨_, _, _, e, _⟩ := d
  rw [z, e] at h
  cases h
theorem Drew.put {p g : Addr} {H H' : Hp} {n : Nat} {o : HO} (d : Drew p H H' n) (hg : H g = none) (gp : g ≠ p) : Drew p H (upd H' g o) n := by
  refine ⟨fun b u bn e => ?_, ?_⟩
  · rw [upd_ne (ne_of_none e hg)]
    exact d.x b u bn e
  · obtain ⟨a1, a2, a3, e, r⟩ := d.bag
    exact ⟨a1, a2, a3, (upd_ne (Ne.symm gp)).trans e, r⟩
theorem At.put {H H' : Hp} {K : PySem.W.Frag} {p : Addr} {l : List V} {ks : Pts} (h : At K H ks) (hp : H p = some (.lst l)) (s : SameX p H H') : At K H' ks := fun q hq => L2.SqT.put (h q hq) hp s
theorem At.drew {K : PySem.W.Frag} {H H' : Hp} {p : Addr} {n m : Nat} {ks : Pts} (h : At K H ks) (b : BagAt H p n) (s : Drew p H H' m) : At K H' ks := by
  obtain ⟨d, m, c, e, _⟩ := b
  exact At.put h e s.x
section
variable {P : Program} {w : World} {K : PySem.W.Frag} {mg : Str → Option Value} {base : Heap}
def spSto (K : PySem.W.Frag) : Sp := fun vs H Q _ => ∃ (a : Addr) (ns : List Int), vs = [.ref a] ∧ SqL K H a (ns.map V.int) ∧ ns.length ≤ 63 ∧ ∀ H' p, Same H H' → H p = none → BagAt H' p 0 → Q (.ref p) H'
theorem ok_sto {f : Addr} {fd : FuncData} {k : Nat} (F : Fun K "_law_stock" "_law_stock" sSto f fd) (mi : mg "int" = none) (ma : mg "abs" = none) : FnOk P w K mg base CX0 (k + 1) f fd ["_law_script"] (spSto K) := by
  refine F.ok scSto (fun vs H Q E h => ?_) (fun cdv A outer s H vs Q E hr h => ?_)
  · obtain ⟨a, ns, rfl, _⟩ := h
    rfl
  · obtain ⟨a, ns, rfl, hS, hlen, q⟩ := h
    refine ⟨_, pss_cons (ps_asg (pe_tup (pa_cons pe_int (pa_cons pe_int pa_nil))) (pg_tup rfl (pgs_cons (pg_name (i := 1) scSto.nd rfl (.inl rfl)) (pgs_cons (pg_name (i := 2) scSto.nd rfl (.inl rfl)) pgs_nil))))
      (pss_cons (ps_for PassesOwn.never rfl (pi_list (pe_slice sl_list (pv 0) po_none (po_some pe_int))) (pg_name (i := 3) scSto.nd rfl (.inl rfl))
        (pss_cons (ps_if (pt_cmpR op_ge (pe_callB call_abs (by rfl) ma (by decide +kernel) (pa_cons (pv 3) pa_nil)) (pe_op op_pow pe_int pe_int) (nomark _))
            (pss_one (ps_set (i := 1) scSto.nd rfl (.inl rfl) (pe_op op_add (pe_op op_mulW (pv 1) (pe_op op_pow pe_int pe_int))
              (pe_op op_mod (pe_callTy call_int1 (by rfl) mi (by decide +kernel) (pa_cons (pe_callB call_abs (by rfl) ma (by decide +kernel) (pa_cons (pv 3) pa_nil)) pa_nil)) (pe_op op_pow pe_int pe_int))))) pss_nil)
        (pss_cons (ps_set (i := 4) scSto.nd rfl (.inl rfl) (pe_op op_add (pe_op op_add (pe_op op_mul (pv 2) pe_int) (pe_op op_mod (pe_callTy call_int1 (by rfl) mi (by decide +kernel) (pa_cons (pv 3) pa_nil)) pe_int)) pe_int))
        (pss_one (ps_set (i := 2) scSto.nd rfl (.inl rfl) (pe_op op_mod (pe_callTy call_int1 (by rfl) mi (by decide +kernel) (pa_cons (pv 4) pa_nil)) pe_int))))))
      (pss_one (ps_ret (pe_lst (pa_cons (pv 1) (pa_cons (pv 2) (pa_cons pe_int pa_nil))))))), ?_⟩
    refine ⟨by show 2 ≤ sizeLine; decide, fun t nt => ?_⟩
    have s0 : Same H (upd H t (.tup [.int 0, .int 27644437])) := same_new nt
    refine ⟨t, _, rfl, .inl (.inl upd_same), rfl, .int 0, [.int 27644437], rfl, .int 27644437, [], rfl, rfl, ?_⟩
    refine ⟨.ref a, rfl, 63, rfl, a, ns.map V.int, rfl, s0.seq hS, fun c nc => ?_⟩
    have s1 := s0.trans (same_new (o := .lst (cutV (ns.map V.int) none (some 63))) nc)
    have ec : cutV (ns.map V.int) none (some 63) = ns.map V.int := by
      rw [show (63 : Int) = ((63 : Nat) : Int) from rfl, cut_to, List.take_of_length_le (by rw [List.length_map]; exact hlen)]
    rw [ec] at s1 ⊢
    refine ⟨c, rfl, ⟨_, .inl (.inl upd_same)⟩, ?_⟩
    refine for_list (xs := ns.map V.int) (fun i σ H3 => ∃ d m y3 y4, σ = [some (.ref a), some (.int d), some (.int m), y3, y4] ∧ H3 = upd (upd H t (.tup [.int 0, .int 27644437])) c (.lst (ns.map V.int)) ∧ 0 ≤ d ∧ d < 2 ^ (200 * i) ∧ 0 ≤ m ∧ m < M127) ?_ ?_ ?_ ?_
    · exact ⟨0, 27644437, none, none, rfl, rfl, by decide, by decide, by decide, by decide⟩
    · rintro i σ H3 _ ⟨d, m, y3, y4, rfl, rfl, _⟩
      exact .inl (.inl upd_same)
    · rintro i x σ H3 hx ⟨d, m, y3, y4, rfl, rfl, d0, d1, m0, m1⟩
      obtain ⟨n, rfl⟩ : ∃ n, x = .int n := by
        rw [List.getElem?_map] at hx
        cases h : ns[i]? with
        | none => rw [h] at hx; cases hx
        | some n => rw [h] at hx; exact ⟨n, (Option.some.inj hx).symm⟩
      have dn : d.natAbs < 2 ^ (200 * i + 1) := by
        have e : ((2 ^ (200 * i) : Nat) : Int) = 2 ^ (200 * i) := by simp
        have e2 : 2 ^ (200 * i) ≤ 2 ^ (200 * i + 1) := Nat.pow_le_pow_right (by decide) (by omega)
        omega
      have hi : i < 63 := by
        have := (List.getElem?_eq_some_iff.mp hx).1
        rw [List.length_map] at this
        omega
      refine ⟨.int n, rfl, n, rfl, 10, 18, rfl, rfl, ⟨by decide, by decide, by decide⟩, _, _, rfl, rfl, _, rfl, ite2 (fun e => ?_) (fun e => ?_)⟩
      · refine ⟨_, rfl, 10, 60, rfl, rfl, ⟨by decide, by decide, by decide⟩, _, _, rfl, rfl, wide_mul dn (show ((10 : Int) ^ (60 : Int).toNat).natAbs < 2 ^ 200 by decide) (by omega) (by decide) (by omega), _, rfl, _, rfl, .inl ⟨_, rfl, 10, 60, rfl, rfl, ⟨by decide, by decide, by decide⟩, _, _, rfl, rfl, by show (0 : Int) < 10 ^ 60; decide, _, _, rfl, rfl, ?_⟩⟩
        have D0 : 0 ≤ d * (10 : Int) ^ (60 : Int).toNat + (if n < 0 then -n else n) % (10 : Int) ^ (60 : Int).toNat := Int.add_nonneg (Int.mul_nonneg d0 (by decide)) (Int.emod_nonneg _ (by decide))
        have D1 : d * (10 : Int) ^ (60 : Int).toNat + (if n < 0 then -n else n) % (10 : Int) ^ (60 : Int).toNat < 2 ^ (200 * (i + 1)) := by
          have r1 : (if n < 0 then -n else n) % (10 : Int) ^ (60 : Int).toNat < 10 ^ (60 : Int).toNat := Int.emod_lt_of_pos _ (by decide)
          have r2 : (d + 1) * (10 : Int) ^ (60 : Int).toNat ≤ 2 ^ (200 * i) * 2 ^ 200 := Int.mul_le_mul d1 (by decide) (by decide) (Int.pow_nonneg (by decide))
          have r3 : (2 : Int) ^ (200 * (i + 1)) = 2 ^ (200 * i) * 2 ^ 200 := by rw [Nat.mul_add, Int.pow_add]
          rw [Int.add_mul, Int.one_mul] at r2
          omega
        refine ⟨_, rfl, _, _, rfl, rfl, .inr ⟨by decide, by decide⟩, _, rfl, .inl ⟨_, rfl, _, _, rfl, rfl, by show (0 : Int) < 2305843009213693951; decide, _, _, rfl, rfl, _, _, rfl, rfl, ?_⟩⟩
        refine ⟨_, rfl, .inl ⟨_, rfl, _, _, rfl, rfl, by show (0 : Int) < M127; decide, ?_⟩⟩
        exact ⟨_, _, _, _, rfl, rfl, D0, D1, Int.emod_nonneg _ (by decide), Int.emod_lt_of_pos _ (by decide)⟩
      · have D0 := d0
        have D1 : d < 2 ^ (200 * (i + 1)) := Int.lt_of_lt_of_le d1 (by
          have e : (2 : Nat) ^ (200 * i) ≤ 2 ^ (200 * (i + 1)) := Nat.pow_le_pow_right (by decide) (by omega)
          exact_mod_cast e)
        refine ⟨_, rfl, _, _, rfl, rfl, .inr ⟨by decide, by decide⟩, _, rfl, .inl ⟨_, rfl, _, _, rfl, rfl, by show (0 : Int) < 2305843009213693951; decide, _, _, rfl, rfl, _, _, rfl, rfl, ?_⟩⟩
        refine ⟨_, rfl, .inl ⟨_, rfl, _, _, rfl, rfl, by show (0 : Int) < M127; decide, ?_⟩⟩
        exact ⟨_, _, _, _, rfl, rfl, D0, D1, Int.emod_nonneg _ (by decide), Int.emod_lt_of_pos _ (by decide)⟩
    · rintro σ H3 ⟨d, m, y3, y4, rfl, rfl, d0, d1, m0, m1⟩
      refine ⟨_, rfl, _, rfl, by show 3 ≤ sizeLine; decide, fun p np => ?_⟩
      have s2 := s1.trans (same_new (o := .lst [.int d, .int m, .int 0]) np)
      exact q _ p s2 (s1.free np) ⟨d, m, 0, upd_same, m0, Int.lt_trans m1 (by decide), by decide, by decide⟩
def spDrw : Sp := fun vs H Q _ => ∃ (p : Addr) (wd : Int) (n : Nat), vs = [.ref p, .int wd] ∧ 0 < wd ∧ wd < 2 ^ 1000 ∧ BagAt H p n ∧ n ≤ 1000000 ∧ ∀ (r : Int) (H' : Hp), 0 ≤ r → r < wd → Drew p H H' (n + 1) → (∀ b, b ≠ p → H' b = H b) → Q (.int r) H'
theorem ok_drw {f : Addr} {fd : FuncData} {k : Nat} (F : Fun K "_law_draw" "_law_draw" sDrw f fd) (mi : mg "int" = none) : FnOk P w K mg base CX0 (k + 1) f fd ["_law_stock_here", "_law_wide"] spDrw := by
  refine F.ok scDrw (fun vs H Q E h => ?_) (fun cdv A outer s H vs Q E hr h => ?_)
  · obtain ⟨p, wd, n, rfl, _⟩ := h
    rfl
  · obtain ⟨p, wd, n, rfl, w0, w1, ⟨d, m, c, hp, m0, m1, c0, c1⟩, n1, q⟩ := h
    have wb : wd.natAbs < 2 ^ 1000 := by
      have e : ((2 : Int) ^ 1000) = ((2 ^ 1000 : Nat) : Int) := by decide +kernel
      rw [e] at w1
      generalize (2 : Nat) ^ 1000 = M at *
      omega
    have q2 : ∀ (r d' c' : Int), 0 ≤ r → r < wd → 0 ≤ c' → c' ≤ c + 1 → Q (.int r) (upd H p (.lst [.int d', .int m, .int c'])) := fun r d' c' r0 r1 e0 e1 => q r _ r0 r1 ⟨SameX.put, d', m, c', upd_same, m0, m1, e0, by omega⟩ fun b hb => upd_ne hb
    refine ⟨_, pss_cons (ps_if (pt_cmpR op_gt (pe_ix ix_list (pv 0) pe_int (fun _ _ => rfl)) pe_int (nomark _))
        (pss_cons (ps_set (i := 2) scDrw.nd rfl (.inl rfl) (pe_op op_mod (pe_callTy call_int1 (by rfl) mi (by decide +kernel) (pa_cons (pe_ix ix_list (pv 0) pe_int (fun _ _ => rfl)) pa_nil)) (pv 1)))
        (pss_cons (ps_asg (pe_op op_fdivW (pe_ix ix_list (pv 0) pe_int (fun _ _ => rfl)) (pv 1)) (pg_sub (pv 0) pe_int set_list))
        (pss_one (ps_ret (pv 2))))) pss_nil)
      (pss_cons (ps_asg (pe_op op_add (pe_ix ix_list (pv 0) pe_int (fun _ _ => rfl)) pe_int) (pg_sub (pv 0) pe_int set_list))
      (pss_cons (ps_set (i := 3) scDrw.nd rfl (.inl rfl) (pe_op op_add (pe_ix ix_list (pv 0) pe_int (fun _ _ => rfl)) (pe_op op_mul pe_int (pe_ix ix_list (pv 0) pe_int (fun _ _ => rfl)))))
      (pss_cons (ps_set (i := 3) scDrw.nd rfl (.inl rfl) (pe_op op_add (pe_op op_mod (pe_callTy call_int1 (by rfl) mi (by decide +kernel) (pa_cons (pe_op op_powW (pv 3) pe_int) pa_nil)) pe_int) (pe_op op_mul pe_int (pe_ix ix_list (pv 0) pe_int (fun _ _ => rfl)))))
      (pss_cons (ps_set (i := 3) scDrw.nd rfl (.inl rfl) (pe_op op_mod (pe_callTy call_int1 (by rfl) mi (by decide +kernel) (pa_cons (pe_op op_powW (pv 3) pe_int) pa_nil)) pe_int))
      (pss_one (ps_ret (pe_op op_mod (pe_callTy call_int1 (by rfl) mi (by decide +kernel) (pa_cons (pe_op op_fdiv (pv 3) pe_int) pa_nil)) (pv 1)))))))), ?_⟩
    refine ⟨.ref p, rfl, p, _, 0, .int d, rfl, rfl, SqL.of hp, atI_nat (j := 0) rfl, _, _, rfl, rfl, _, rfl, ite2 (fun e => ?_) (fun e => ?_)⟩
    · refine ⟨.ref p, rfl, p, _, 0, .int d, rfl, rfl, SqL.of hp, atI_nat (j := 0) rfl, .inl ⟨_, rfl, _, rfl, _, _, rfl, rfl, w0, ?_⟩⟩
      refine ⟨.ref p, rfl, p, _, 0, .int d, rfl, rfl, SqL.of hp, atI_nat (j := 0) rfl, _, rfl, _, _, rfl, rfl, wide_div w0 wb (by decide) (by decide), .ref p, rfl, p, _, 0, 0, rfl, rfl, hp, rfl, ?_⟩
      exact ⟨_, rfl, q2 (d % wd) (d / wd) c (Int.emod_nonneg _ (by omega)) (Int.emod_lt_of_pos _ w0) c0 (by omega)⟩
    · refine ⟨.ref p, rfl, p, _, 2, .int c, rfl, rfl, SqL.of hp, atI_nat (j := 2) rfl, _, _, rfl, rfl, .ref p, rfl, p, _, 2, 2, rfl, rfl, hp, rfl, ?_⟩
      have h2 : upd H p (.lst ([V.int d, .int m, .int c].set 2 (.int (c + 1)))) p = some (.lst [.int d, .int m, .int (c + 1)]) := upd_same
      have cb : c + 1 ≤ 1000001 := by omega
      have bd : ∀ a b : Int, 0 ≤ a → a < 2 ^ 200 → 0 ≤ b → b ≤ 1000000000000000003 → (a + b * (c + 1)).natAbs < 2 ^ 300 := fun a b a0 a1 b0 b1 => by
        have z : b * (c + 1) ≤ 1000000000000000003 * 1000001 := Int.mul_le_mul b1 cb (by omega) (by decide)
        have z0 : 0 ≤ b * (c + 1) := Int.mul_nonneg b0 (by omega)
        have e1 : ((2 : Int) ^ 200) = ((2 ^ 200 : Nat) : Int) := by decide
        have e2 : (2 : Nat) ^ 200 + 1000000000000000003 * 1000001 < 2 ^ 300 := by decide
        rw [e1] at a1
        generalize (2 : Nat) ^ 200 = M at *
        generalize (2 : Nat) ^ 300 = M' at *
        generalize b * (c + 1) = y at *
        omega
      refine ⟨.ref p, rfl, p, _, 1, .int m, rfl, rfl, SqL.of h2, atI_nat (j := 1) rfl, .ref p, rfl, p, _, 2, .int (c + 1), rfl, rfl, SqL.of h2, atI_nat (j := 2) rfl, _, _, rfl, rfl, .inl ⟨by decide, by decide⟩, _, _, rfl, rfl, ?_⟩
      refine ⟨_, rfl, _, _, rfl, rfl, pow_ok (by decide) (by decide) (bd m 1000000000000000003 m0 (Int.lt_trans m1 (by decide)) (by decide) (by decide)) (by decide) (by decide), .inl ⟨_, rfl, _, _, rfl, rfl, by show (0 : Int) < M127; decide, .ref p, rfl, p, _, 2, .int (c + 1), rfl, rfl, SqL.of h2, atI_nat (j := 2) rfl, _, _, rfl, rfl, .inl ⟨by decide, by decide⟩, _, _, rfl, rfl, ?_⟩⟩
      generalize hG : (m + 1000000000000000003 * (c + 1)) ^ (2 : Int).toNat % 170141183460469231731687303715884105727 = G
      have G0 : 0 ≤ G := by rw [← hG]; exact Int.emod_nonneg _ (by decide)
      have G1 : G < M127 := by rw [← hG]; exact Int.emod_lt_of_pos _ (by decide)
      refine ⟨_, rfl, _, _, rfl, rfl, pow_ok (by decide) (by decide) (bd G 999999000001 G0 (Int.lt_trans G1 (by decide)) (by decide) (by decide)) (by decide) (by decide), .inl ⟨_, rfl, _, _, rfl, rfl, by show (0 : Int) < M127; decide, ?_⟩⟩
      refine ⟨_, rfl, _, _, rfl, rfl, ⟨by decide, by decide⟩, .inl ⟨_, rfl, _, rfl, _, _, rfl, rfl, w0, ?_⟩⟩
      exact q2 _ d (c + 1) (Int.emod_nonneg _ (by omega)) (Int.emod_lt_of_pos _ w0) (by omega) (by omega)
end
end K38
set_option Elab.async false
set_option linter.all false
set_option maxRecDepth 100000
set_option maxHeartbeats 1000000
set_option exponentiation.threshold 20000
namespace K38
open PySem PySem.Spec PyProof.Rows L2 Fen
abbrev sCkd : Stmt := topS 25
abbrev sEnd : Stmt := topS 30
theorem scCkd : FnScope ["value"] ["value"] (defScope sCkd) := ⟨rfl, rfl, rfl, by decide +kernel, rfl, by decide +kernel, by decide +kernel⟩
abbrev nEnd : List Str := ["corners", "direction", "a", "b", "values", "x", "y"]
theorem scEnd : FnScope nEnd ["corners", "direction"] (defScope sEnd) := ⟨rfl, rfl, rfl, by decide +kernel, rfl, by decide +kernel, by decide +kernel⟩
/-- a direction is not too far -/
def Ds (d : Hull.P) : Prop := d.1.natAbs < 2 ^ 140 ∧ d.2.natAbs < 2 ^ 140
def val (d p : Hull.P) : Int := d.1 * p.1 + d.2 * p.2
def valL (d : Hull.P) (cs : List Hull.P) : List Int := cs.map (val d)
/-- the least and the greatest one of a list -/
def Ends2 (ns : List Int) (mn mx : Int) : Prop := mn ∈ ns ∧ (∀ m ∈ ns, mn ≤ m) ∧ mx ∈ ns ∧ ∀ m ∈ ns, m ≤ mx
theorem Ends2.uniq {ns : List Int} {a b c d : Int} (h : Ends2 ns a b) (g : Ends2 ns c d) : a = c ∧ b = d := by
  obtain ⟨h1, h2, h3, h4⟩ := h
  obtain ⟨g1, g2, g3, g4⟩ := g
  have := h2 c g1
  have := g2 a h1
  have := h4 d g3
  have := g4 b h3
  omega
theorem Ends2.neg {d : Hull.P} {cs : List Hull.P} {a b : Int} (h : Ends2 (valL d cs) a b) : Ends2 (valL (0 - d.1, 0 - d.2) cs) (-b) (-a) := by
  have e : ∀ p : Hull.P, val (0 - d.1, 0 - d.2) p = -val d p := fun p => by
    unfold val
    simp only [Int.zero_sub, Int.neg_mul]
    omega
  obtain ⟨h1, h2, h3, h4⟩ := h
  unfold valL at *
  have tr : ∀ x : Int, x ∈ cs.map (val (0 - d.1, 0 - d.2)) ↔ -x ∈ cs.map (val d) := fun x => by
    constructor
    · intro hx
      obtain ⟨p, hp, rfl⟩ := List.mem_map.mp hx
      rw [e]
      exact List.mem_map.mpr ⟨p, hp, by omega⟩
    · intro hx
      obtain ⟨p, hp, ep⟩ := List.mem_map.mp hx
      exact List.mem_map.mpr ⟨p, hp, by rw [e]; omega⟩
  refine ⟨(tr _).mpr (by rw [Int.neg_neg]; exact h3), fun m hm => ?_, (tr _).mpr (by rw [Int.neg_neg]; exact h1), fun m hm => ?_⟩
  · have := h4 _ ((tr m).mp hm)
    omega
  · have := h2 _ ((tr m).mp hm)
    omega
theorem cor_small {p : Hull.P} (h : Cor p) : p.1.natAbs < 2 ^ 100 ∧ p.2.natAbs < 2 ^ 100 := by
  obtain ⟨h1, h2, h3, h4⟩ := h
  have e : (10 : Int) ^ 30 = 1000000000000000000000000000000 := by decide
  have e2 : (2 : Nat) ^ 100 = 1267650600228229401496703205376 := by decide
  rw [e] at h1 h2 h3 h4
  rw [e2]
  omega
theorem mul_lt' {i j : Int} {a b : Nat} (hi : i.natAbs < 2 ^ a) (hj : j.natAbs < 2 ^ b) : (i * j).natAbs < 2 ^ (a + b) := by
  rw [Int.natAbs_mul, Nat.pow_add]
  exact Nat.mul_lt_mul'' hi hj
theorem val_small {d p : Hull.P} (hd : Ds d) (hp : Cor p) : (val d p).natAbs < 2 ^ 241 := by
  obtain ⟨p1, p2⟩ := cor_small hp
  have a := mul_lt' hd.1 p1
  have b := mul_lt' hd.2 p2
  unfold val
  rw [show (241 : Nat) = 240 + 1 from rfl, Nat.pow_succ]
  generalize (2 : Nat) ^ 240 = M at *
  omega
section
variable {P : Program} {w : World} {K : PySem.W.Frag} {mg : Str → Option Value} {base : Heap}
def spCkd (K : PySem.W.Frag) : Sp := fun vs H Q _ => ∃ (a : Addr) (d : Hull.P), vs = [.ref a] ∧ SqT K H a [.int d.1, .int d.2] ∧ d ≠ (0, 0) ∧ ∀ H', Same H H' → Q .non H'
theorem ok_ckd {f fI : Addr} {fd fdI : FuncData} {k : Nat} (F : Fun K "check_direction" "check_direction" sCkd f fd) (CI : Cal P w K mg base (k + 1) "is_point" fI fdI ["value"] (spIsP K)) : FnOk P w K mg base CX0 (k + 1 + 1) f fd ["value"] (spCkd K) := by
  refine F.ok scCkd (fun vs H Q E h => ?_) (fun cdv A outer s H vs Q E hr h => ?_)
  · obtain ⟨a, d, rfl, _⟩ := h
    rfl
  · obtain ⟨a, d, rfl, hT, ne, q⟩ := h
    refine ⟨_, pss_one (ps_if (PW.pt (pw_or (pt_not (pt_val (pe_cal CI hr (pa_cons (pv 0) pa_nil)))) (pw_or1 (pt_cmpR (op_eqD (hu_of64 hr)) (pv 0) (pe_tup (pa_cons pe_int (pa_cons pe_int pa_nil))) (nomark _))))) (pss_one ps_no) pss_nil), ?_⟩
    refine ⟨_, rfl, a, d.1, d.2, rfl, hT, true, rfl, iteF ?_⟩
    refine ⟨_, rfl, by show 2 ≤ sizeLine; decide, fun t nt => ?_⟩
    have s1 := same_new (o := .tup [.int 0, .int 0]) nt
    refine ⟨_, _, dp_pt (s1.seqT hT), dp_pt (p := (0, 0)) (SqT.of upd_same), shaped_pt _, shaped_pt (0, 0), _, rfl, ite2 (fun e2 => ?_) (fun e2 => ?_)⟩
    · exact absurd (eqv_pt_eq (q := (0, 0)) e2) ne
    · exact q _ s1
def spEnd (K : PySem.W.Frag) : Sp := fun vs H Q _ => ∃ (c a : Addr) (ks : Pts) (d : Hull.P), vs = [.ref c, .ref a] ∧ SqL K H c (refs ks) ∧ At K H ks ∧ (∀ q ∈ ks, Cor q.2) ∧ 1 ≤ ks.length ∧ ks.length ≤ 10 ∧ SqT K H a [.int d.1, .int d.2] ∧ Ds d ∧
  ∀ H' x mn mx, Same H H' → H' x = some (.tup [.int mn, .int mx]) → Ends2 (valL d (ks.map (·.2))) mn mx → Q (.ref x) H'
theorem ok_end {f : Addr} {fd : FuncData} {k : Nat} (F : Fun K "ends_along" "ends_along" sEnd f fd) (mmin : mg "min" = none) (mmax : mg "max" = none) : FnOk P w K mg base CX0 (k + 1) f fd ["corners", "direction"] (spEnd K) := by
  refine F.ok scEnd (fun vs H Q E h => ?_) (fun cdv A outer s H vs Q E hr h => ?_)
  · obtain ⟨c, a, ks, d, rfl, _⟩ := h
    rfl
  · obtain ⟨c, a, ks, d, rfl, hS, hT, hC, l1, l2, ha, hd, q⟩ := h
    refine ⟨_, pss_cons (ps_asg (pv 1) (pg_tup rfl (pgs_cons (pg_name (i := 2) scEnd.nd rfl (.inr rfl)) (pgs_cons (pg_name (i := 3) scEnd.nd rfl (.inr rfl)) pgs_nil))))
      (pss_cons (ps_setLc (i := 4) (own := [("x", 5), ("y", 6)]) (g := gTup K 2 (gCons (gName 5) (gCons (gName 6) gNil))) (tt := tYes) (te := tOp (rI0 fun i j => .int (i + j)) (tOp (rI CMulW fun i j => .int (i * j)) (tVar 2) (tVar 5)) (tOp (rI CMulW fun i j => .int (i * j)) (tVar 3) (tVar 6))) rfl scEnd.nd rfl rfl (sw_true rfl rfl rfl (by decide +kernel)) (pi_list (pv 0)) (blkOk_by (N := nEnd) (sc := defScope sEnd) (by decide +kernel)) (fun _ _ _ _ _ => pg_tup rfl (pgs_cons (pg_name (i := 5) scEnd.nd rfl (Or.inl rfl)) (pgs_cons (pg_name (i := 6) scEnd.nd rfl (Or.inl rfl)) pgs_nil))) (fun _ _ _ _ _ => pts_nil)
          (fun _ _ _ _ _ => pe_op op_add (pe_op op_mulW (pv 2) (pv 5)) (pe_op op_mulW (pv 3) (pv 6))))
      (pss_one (ps_ret (pe_tup (pa_cons (pe_callB (cr_min rfl) (by rfl) mmin (by decide +kernel) (pa_cons (pv 4) pa_nil)) (pa_cons (pe_callB (cr_max rfl) (by rfl) mmax (by decide +kernel) (pa_cons (pv 4) pa_nil)) pa_nil)))))), ?_⟩
    refine ⟨.ref a, rfl, a, _, rfl, ha, rfl, .int d.1, [.int d.2], rfl, .int d.2, [], rfl, rfl, ?_⟩
    refine ⟨.ref c, rfl, c, rfl, ⟨_, hS⟩, fun D nD => ?_⟩
    refine lc_list (K := K) (a := c) (xs := refs ks) (fun j H' => Same H H' ∧ H' D = some (.lst ((valL d ((ks.map (·.2)).take j)).map V.int))) ⟨same_new nD, upd_same⟩ (fun j H' _ z => z.1.seq hS) ?_ ?_
    · rintro j v H9 hv ⟨s9, hD⟩
      obtain ⟨z, hz, rfl⟩ := refs_get hv
      have mz := List.mem_of_getElem? hz
      have lj := (List.getElem?_eq_some_iff.mp hz).1
      obtain ⟨p1, p2⟩ := cor_small (hC z mz)
      refine ⟨z.1, _, rfl, (hT.same s9) z mz, rfl, .int z.2.1, [.int z.2.2], rfl, .int z.2.2, [], rfl, rfl, ?_⟩
      refine ⟨rfl, yesT ?_⟩
      refine ⟨_, rfl, _, rfl, _, _, rfl, rfl, wide_mul hd.1 p1 (by decide) (by decide) (by decide), _, rfl, _, rfl, _, _, rfl, rfl, wide_mul hd.2 p2 (by decide) (by decide) (by decide), _, _, rfl, rfl, ?_⟩
      refine ⟨_, hD, ?_, fun a u e => ?_, ?_⟩
      · rw [List.length_map, valL, List.length_map, List.length_take]
        exact Nat.lt_of_lt_of_le (show min j (ks.map (·.2)).length < 11 by omega) (by decide)
      · rw [upd_ne (fun w => by rw [w, nD] at e; cases e)]
        exact s9 a u e
      · rw [upd_same, take_succ_at (show (ks.map (·.2))[j]? = some z.2 by rw [List.getElem?_map, hz]; rfl)]
        unfold valL
        rw [List.map_append, List.map_append]
        rfl
    · rintro H9 ⟨s9, hD⟩
      rw [refs_len, show (ks.map (·.2)).take ks.length = ks.map (·.2) from List.take_of_length_le (by rw [List.length_map]; exact Nat.le_refl _)] at hD
      have ln : (valL d (ks.map (·.2))).length = ks.length := by rw [valL, List.length_map, List.length_map]
      refine ⟨.ref D, rfl, D, valL d (ks.map (·.2)), rfl, SqL.of hD, by omega, fun mn mmn lmn => ?_⟩
      refine ⟨.ref D, rfl, D, valL d (ks.map (·.2)), rfl, SqL.of hD, by omega, fun mx mmx lmx => ?_⟩
      refine ⟨by show 2 ≤ sizeLine; decide, fun x nx => ?_⟩
      exact q _ x mn mx (s9.trans (same_new nx)) upd_same ⟨mmn, lmn, mmx, lmx⟩
/-- a fraction in lowest terms, as a new tuple -/
def wG (b w : Int) : Int := ((Nat.gcd w.natAbs b.natAbs : Nat) : Int)
theorem wG_ok {b w : Int} (h1 : 1 ≤ b) (h2 : b ≤ 30) : 0 < wG b w ∧ wG b w < 1073741824 := by
  unfold wG
  have h3 : 0 < Nat.gcd w.natAbs b.natAbs := Nat.gcd_pos_of_pos_right _ (by omega)
  have h4 : Nat.gcd w.natAbs b.natAbs ≤ b.natAbs := Nat.gcd_le_right _ (by omega)
  omega
end
end K38
set_option Elab.async false
set_option linter.all false
set_option maxRecDepth 100000
set_option maxHeartbeats 1000000
/-! whole numbers: bounds on a line, sums of quotients -/
namespace Lat
def leastFrom (top b : Int) (o : Bool) : Int := if o = true then top / b + 1 else -(-top / b)
def greatestTo (top b : Int) (o : Bool) : Int := -leastFrom (-top) b o
theorem least_le {top b v : Int} {o : Bool} (hb : 0 < b) : leastFrom top b o ≤ v ↔ (if o = true then top < b * v else top ≤ b * v) := by
  unfold leastFrom
  cases o with
  | true =>
    rw [if_pos rfl, if_pos rfl, Int.add_one_le_iff, Int.ediv_lt_iff_lt_mul hb, Int.mul_comm]
  | false =>
    rw [if_neg (by decide), if_neg (by decide)]
    have h := Int.le_ediv_iff_mul_le (a := -v) (b := -top) hb
    rw [Int.neg_mul, Int.mul_comm v b] at h
    constructor
    · intro z
      have := h.mp (by omega)
      omega
    · intro z
      have := h.mpr (by omega)
      omega
theorem le_greatest {top b v : Int} {o : Bool} (hb : 0 < b) : v ≤ greatestTo top b o ↔ (if o = true then b * v < top else b * v ≤ top) := by
  unfold greatestTo
  have h := least_le (top := -top) (b := b) (v := -v) (o := o) hb
  rw [Int.mul_neg] at h
  constructor
  · intro z
    have := h.mp (by omega)
    split at this <;> split <;> first | omega | contradiction
  · intro z
    have : leastFrom (-top) b o ≤ -v := h.mpr (by split at z <;> split <;> first | omega | contradiction)
    omega
/-- how far a line lets a row go -/
def reach (across up bound row : Int) : Int := (up * row - bound) / (across.natAbs : Int)
theorem reach_pos {across up bound row x : Int} (h : 0 < across) : bound ≤ across * x + up * row ↔ -reach across up bound row ≤ x := by
  unfold reach
  have e : (across.natAbs : Int) = across := by omega
  rw [e]
  have z := Int.le_ediv_iff_mul_le (a := -x) (b := up * row - bound) h
  rw [Int.neg_mul, Int.mul_comm x across] at z
  constructor
  · intro w
    have := z.mpr (by omega)
    omega
  · intro w
    have := z.mp (by omega)
    omega
theorem reach_neg {across up bound row x : Int} (h : across < 0) : bound ≤ across * x + up * row ↔ x ≤ reach across up bound row := by
  unfold reach
  have e : (across.natAbs : Int) = -across := by omega
  rw [e]
  have z := Int.le_ediv_iff_mul_le (a := x) (b := up * row - bound) (c := -across) (by omega)
  rw [Int.mul_neg, Int.mul_comm x across] at z
  constructor
  · intro w
    exact z.mpr (by omega)
  · intro w
    have := z.mp w
    omega
/-- the sum of f 0 to f (n - 1) -/
def sumN (f : Nat → Int) : Nat → Int
  | 0 => 0
  | n + 1 => sumN f n + f n
theorem sum_congr {f g : Nat → Int} : ∀ {n : Nat}, (∀ i, i < n → f i = g i) → sumN f n = sumN g n
  | 0, _ => rfl
  | n + 1, h => by
    show sumN f n + f n = sumN g n + g n
    rw [sum_congr fun i hi => h i (Nat.lt_succ_of_lt hi), h n (Nat.lt_succ_self n)]
theorem sum_add (f g : Nat → Int) : ∀ n, sumN (fun i => f i + g i) n = sumN f n + sumN g n
  | 0 => rfl
  | n + 1 => by
    show sumN (fun i => f i + g i) n + (f n + g n) = _
    rw [sum_add f g n]
    show _ = sumN f n + f n + (sumN g n + g n)
    omega
theorem sum_zero : ∀ n, sumN (fun _ => 0) n = 0
  | 0 => rfl
  | n + 1 => by
    show sumN (fun _ => 0) n + 0 = 0
    rw [sum_zero n]
    rfl
theorem sum_const (k : Int) : ∀ n : Nat, sumN (fun _ => k) n = k * n
  | 0 => by simp [sumN]
  | n + 1 => by
    show sumN (fun _ => k) n + k = _
    rw [sum_const k n]
    have : ((n + 1 : Nat) : Int) = n + 1 := rfl
    rw [this, Int.mul_add]
    omega
theorem sum_mul (k : Int) (f : Nat → Int) : ∀ n : Nat, sumN (fun i => k * f i) n = k * sumN f n
  | 0 => by simp [sumN]
  | n + 1 => by
    show sumN (fun i => k * f i) n + k * f n = k * (sumN f n + f n)
    rw [sum_mul k f n, Int.mul_add]
/-- sums change places -/
theorem sum_swap (f : Nat → Nat → Int) (n : Nat) : ∀ m, sumN (fun i => sumN (f i) m) n = sumN (fun j => sumN (fun i => f i j) n) m
  | 0 => sum_zero n
  | m + 1 => by
    show sumN (fun i => sumN (f i) m + f i m) n = sumN (fun j => sumN (fun i => f i j) n) m + sumN (fun i => f i m) n
    rw [sum_add, sum_swap f n m]
/-- backwards -/
theorem sum_head (f : Nat → Int) : ∀ n, sumN f (n + 1) = f 0 + sumN (fun i => f (i + 1)) n
  | 0 => by show 0 + f 0 = f 0 + 0; omega
  | n + 1 => by
    show sumN f (n + 1) + f (n + 1) = f 0 + (sumN (fun i => f (i + 1)) n + f (n + 1))
    rw [sum_head f n]
    omega
theorem sum_rev (f : Nat → Int) : ∀ n, sumN f n = sumN (fun i => f (n - 1 - i)) n
  | 0 => rfl
  | n + 1 => by
    rw [sum_head (fun i => f (n + 1 - 1 - i)) n]
    show sumN f n + f n = f (n + 1 - 1 - 0) + _
    rw [sum_rev f n, show n + 1 - 1 - 0 = n by omega, Int.add_comm]
    congr 1
    exact sum_congr fun i hi => by rw [show n + 1 - 1 - (i + 1) = n - 1 - i by omega]
/-- how many of 0 to n - 1 are below q -/
theorem count_below (q : Int) (h0 : 0 ≤ q) : ∀ n : Nat, sumN (fun i => if (i : Int) < q then 1 else 0) n = if (n : Int) ≤ q then (n : Int) else q
  | 0 => by rw [if_pos (by omega)]; rfl
  | n + 1 => by
    show sumN (fun i => if (i : Int) < q then 1 else 0) n + (if (n : Int) < q then 1 else 0) = _
    rw [count_below q h0 n]
    have : ((n + 1 : Nat) : Int) = n + 1 := rfl
    rw [this]
    split <;> split <;> split <;> omega
/-- how many of 0 to n - 1 are at least q -/
theorem count_from (q : Int) (h0 : 0 ≤ q) : ∀ n : Nat, sumN (fun i => if q ≤ (i : Int) then 1 else 0) n = if q ≤ (n : Int) then (n : Int) - q else 0
  | 0 => by
    show (0 : Int) = _
    split <;> omega
  | n + 1 => by
    show sumN (fun i => if q ≤ (i : Int) then 1 else 0) n + (if q ≤ (n : Int) then 1 else 0) = _
    rw [count_from q h0 n]
    have : ((n + 1 : Nat) : Int) = n + 1 := rfl
    rw [this]
    split <;> split <;> omega
/-- the sum of the quotients of a line -/
def FS (n : Nat) (a c m : Int) : Int := sumN (fun i => (a * i + c) / m) n
theorem sum_id : ∀ n : Nat, 2 * sumN (fun i => (i : Int)) n = (n : Int) * ((n : Int) - 1)
  | 0 => by simp [sumN]
  | n + 1 => by
    show 2 * (sumN (fun i => (i : Int)) n + (n : Int)) = _
    rw [Int.mul_add, sum_id n]
    have : ((n + 1 : Nat) : Int) = n + 1 := rfl
    rw [this]
    grind
theorem sum_id' (n : Nat) : sumN (fun i => (i : Int)) n = (n : Int) * ((n : Int) - 1) / 2 := by
  have := sum_id n
  omega
theorem fs_slope {n : Nat} {a c m : Int} (hm : 0 < m) : FS n a c m = a / m * ((n : Int) * ((n : Int) - 1) / 2) + FS n (a % m) c m := by
  unfold FS
  rw [← sum_id', ← sum_mul, ← sum_add]
  refine sum_congr fun i _ => ?_
  have e : a * i + c = (a % m * i + c) + m * (a / m * i) := by
    have := Int.mul_ediv_add_emod a m
    have z : a * i = (m * (a / m) + a % m) * i := by rw [this]
    rw [z]
    grind
  rw [e, Int.add_mul_ediv_left _ _ (by omega), Int.add_comm]
theorem fs_start {n : Nat} {a c m : Int} (hm : 0 < m) : FS n a c m = c / m * n + FS n a (c % m) m := by
  unfold FS
  rw [← sum_const, ← sum_add]
  refine sum_congr fun i _ => ?_
  have e : a * i + c = (a * i + c % m) + m * (c / m) := by
    have := Int.mul_ediv_add_emod c m
    omega
  rw [e, Int.add_mul_ediv_left _ _ (by omega), Int.add_comm]
/-- the places under a line, counted the other way -/
theorem fs_flip {n : Nat} {a c m : Int} (hm : 0 < m) (a0 : 0 ≤ a) (c0 : 0 ≤ c) (c1 : c < m) (a1 : a < m) : FS n a c m = FS ((a * n + c) / m).toNat m ((a * n + c) % m) a := by
  have tz : 0 ≤ a * n := Int.mul_nonneg a0 (by omega)
  have p0 : 0 ≤ (a * n + c) / m := Int.ediv_nonneg (by omega) (by omega)
  obtain ⟨p, hp⟩ : ∃ p : Nat, (a * n + c) / m = (p : Int) := ⟨((a * n + c) / m).toNat, by omega⟩
  have ed := Int.mul_ediv_add_emod (a * n + c) m
  have r0 := Int.emod_nonneg (a * n + c) (show m ≠ 0 by omega)
  rw [hp] at ed ⊢
  rw [Int.toNat_natCast]
  generalize (a * n + c) % m = r at ed r0 ⊢
  by_cases az : a = 0
  · subst az
    have : p = 0 := by
      have h : c / m = (p : Int) := by rw [← hp]; congr 1; omega
      rw [Int.ediv_eq_zero_of_lt c0 c1] at h
      omega
    subst this
    unfold FS
    show sumN _ n = 0
    rw [show sumN (fun i => (0 * (i : Int) + c) / m) n = sumN (fun _ => 0) n from sum_congr fun i _ => by rw [Int.zero_mul, Int.zero_add, Int.ediv_eq_zero_of_lt c0 c1], sum_zero]
  · have ap : 0 < a := by omega
    unfold FS
    have s1 : sumN (fun i => (a * i + c) / m) n = sumN (fun i => sumN (fun j => if (j : Int) < (a * i + c) / m then 1 else 0) p) n := sum_congr fun i hi => by
      have ai : 0 ≤ a * i := Int.mul_nonneg a0 (by omega)
      have q0 : 0 ≤ (a * i + c) / m := Int.ediv_nonneg (by omega) (by omega)
      have le : a * i ≤ a * n := Int.mul_le_mul_of_nonneg_left (by omega) a0
      have q1 : (a * i + c) / m ≤ p := by rw [← hp]; exact Int.ediv_le_ediv hm (by omega)
      rw [count_below _ q0]
      split <;> omega
    rw [s1, sum_swap, sum_rev]
    refine sum_congr fun j hj => ?_
    obtain ⟨k, hk⟩ : ∃ k : Nat, p - 1 - j = k := ⟨_, rfl⟩
    have kj : (k : Int) = p - 1 - j := by omega
    rw [hk]
    have s2 : sumN (fun i => if (k : Int) < (a * i + c) / m then 1 else 0) n = sumN (fun i => if leastFrom ((k + 1) * m - c) a false ≤ (i : Int) then 1 else 0) n := sum_congr fun i hi => by
      have h1 : (k : Int) < (a * i + c) / m ↔ leastFrom ((k + 1) * m - c) a false ≤ (i : Int) := by
        rw [least_le ap, if_neg (by decide), Int.lt_iff_add_one_le, Int.le_ediv_iff_mul_le hm]
        constructor <;> intro z <;> omega
      by_cases q : (k : Int) < (a * i + c) / m
      · rw [if_pos q, if_pos (h1.mp q)]
      · rw [if_neg q, if_neg fun z => q (h1.mpr z)]
    have km : m ≤ (k + 1) * m := by
      have : 1 * m ≤ (k + 1) * m := Int.mul_le_mul_of_nonneg_right (by omega) (by omega)
      omega
    have kp : (k + 1) * m ≤ p * m := Int.mul_le_mul_of_nonneg_right (by omega) (by omega)
    have pm : (p : Int) * m = m * p := Int.mul_comm _ _
    have Q0 : 0 ≤ leastFrom ((k + 1) * m - c) a false := by
      refine Classical.byContradiction fun z => ?_
      have := (least_le (v := -1) ap).mp (show leastFrom ((k + 1) * m - c) a false ≤ -1 by omega)
      rw [if_neg (by decide)] at this
      omega
    have Q1 : leastFrom ((k + 1) * m - c) a false ≤ n := by
      refine (least_le ap).mpr ?_
      rw [if_neg (by decide)]
      omega
    rw [s2, count_from _ Q0, if_pos Q1]
    unfold leastFrom
    rw [if_neg (by decide)]
    have e : m * j + r = -((k + 1) * m - c) + a * n := by
      have : (k + 1 : Int) * m = (p - j) * m := by rw [show (k : Int) + 1 = p - j by omega]
      have z : (p - j : Int) * m = m * p - m * j := by grind
      omega
    rw [e, Int.add_mul_ediv_left _ _ (by omega)]
    omega
end Lat
set_option Elab.async false
set_option linter.all false
set_option maxRecDepth 100000
set_option maxHeartbeats 1000000
/-! the inverse of a number, places on a line -/
namespace Lat
/-- Euclid's way, with what brings each remainder about -/
structure Euc (m num d r b f : Int) : Prop where
  db : m ∣ d - b * num
  rf : m ∣ r - f * num
  g : Int.gcd d r = 1
  r0 : 0 ≤ r
  rd : r < d
theorem Euc.start {m num : Int} (hm : 0 < m) (h : Int.gcd num m = 1) : Euc m num m (num % m) 0 1 := by
  refine ⟨⟨1, by omega⟩, ⟨-(num / m), ?_⟩, ?_, Int.emod_nonneg _ (by omega), Int.emod_lt_of_pos _ hm⟩
  · have := Int.mul_ediv_add_emod num m
    rw [Int.mul_neg]
    omega
  · have e := Int.mul_ediv_add_emod num m
    rw [show num % m = num - m * (num / m) by omega, Int.gcd_sub_mul_left_right, Int.gcd_comm]
    exact h
theorem Euc.step {m num d r b f : Int} (E : Euc m num d r b f) (hr : r ≠ 0) : Euc m num r (d - d / r * r) f (b - d / r * f) := by
  have rp : 0 < r := by have := E.r0; omega
  have e : d - d / r * r = d % r := by
    have := Int.mul_ediv_add_emod d r
    rw [Int.mul_comm (d / r) r]
    omega
  refine ⟨E.rf, ?_, ?_, ?_, ?_⟩
  · obtain ⟨u, hu⟩ := E.db
    obtain ⟨v, hv⟩ := E.rf
    refine ⟨u - d / r * v, ?_⟩
    have z : d - d / r * r - (b - d / r * f) * num = (d - b * num) - d / r * (r - f * num) := by grind
    rw [z, hu, hv]
    grind
  · rw [Int.gcd_sub_mul_right_right, Int.gcd_comm]
    exact E.g
  · rw [e]
    exact Int.emod_nonneg _ hr
  · rw [e]
    exact Int.emod_lt_of_pos _ rp
theorem Euc.done {m num d b f : Int} (E : Euc m num d 0 b f) : m ∣ 1 - b % m * num := by
  have g := E.g
  rw [Int.gcd_zero_right] at g
  have rd := E.rd
  have d1 : d = 1 := by omega
  obtain ⟨u, hu⟩ := E.db
  rw [d1] at hu
  refine ⟨u + b / m * num, ?_⟩
  have e := Int.mul_ediv_add_emod b m
  have z : b % m = b - m * (b / m) := by omega
  rw [z]
  grind
/-- what bounds the factors -/
structure EucB (m d r b f : Int) : Prop where
  sg : (0 ≤ b ∧ f ≤ 0) ∨ (b ≤ 0 ∧ 0 ≤ f)
  sm : (b.natAbs : Int) * r + (f.natAbs : Int) * d = m
theorem EucB.start {m r : Int} : EucB m m r 0 1 := ⟨.inr ⟨by omega, by omega⟩, by simp⟩
theorem EucB.step {m d r b f : Int} (E : EucB m d r b f) (r0 : 0 < r) (d0 : 0 ≤ d) : EucB m r (d - d / r * r) f (b - d / r * f) := by
  have t0 : 0 ≤ d / r := Int.ediv_nonneg d0 (by omega)
  have sm := E.sm
  rcases E.sg with ⟨h1, h2⟩ | ⟨h1, h2⟩
  · have z : d / r * f ≤ 0 := Int.mul_nonpos_of_nonneg_of_nonpos t0 h2
    refine ⟨.inr ⟨h2, by omega⟩, ?_⟩
    rw [show ((b - d / r * f).natAbs : Int) = b - d / r * f by omega]
    rw [show (b.natAbs : Int) = b by omega, show (f.natAbs : Int) = -f by omega] at sm
    rw [show (f.natAbs : Int) = -f by omega]
    grind
  · have z : 0 ≤ d / r * f := Int.mul_nonneg t0 h2
    refine ⟨.inl ⟨h2, by omega⟩, ?_⟩
    rw [show ((b - d / r * f).natAbs : Int) = -(b - d / r * f) by omega]
    rw [show (b.natAbs : Int) = -b by omega, show (f.natAbs : Int) = f by omega] at sm
    rw [show (f.natAbs : Int) = f by omega]
    grind
theorem EucB.le {m d r b f : Int} (E : EucB m d r b f) (r0 : 0 ≤ r) (d0 : 0 < d) : (f.natAbs : Int) ≤ m := by
  have sm := E.sm
  have z1 : 0 ≤ (b.natAbs : Int) * r := Int.mul_nonneg (by omega) r0
  have z2 : (f.natAbs : Int) * 1 ≤ (f.natAbs : Int) * d := Int.mul_le_mul_of_nonneg_left (by omega) (by omega)
  omega
/-- which heights on a line have a stake -/
theorem on_line {a u v inv y : Int} (h : u ∣ 1 - inv * a) : u ∣ a * y - v ↔ u ∣ y - v * inv := by
  obtain ⟨k, hk⟩ := h
  constructor
  · rintro ⟨x, hx⟩
    refine ⟨k * y + inv * x, ?_⟩
    have e : y - v * inv = (1 - inv * a) * y + inv * (a * y - v) := by grind
    rw [e, hk, hx]
    grind
  · rintro ⟨x, hx⟩
    refine ⟨a * x - k * v, ?_⟩
    have e : a * y - v = a * (y - v * inv) - (1 - inv * a) * v := by grind
    rw [e, hk, hx]
    grind
/-- what leaves the same remainder, from a number on -/
theorem from_rem {u r lo y : Int} (hu : 0 < u) : (lo ≤ y ∧ u ∣ y - r) ↔ ∃ k : Int, 0 ≤ k ∧ y = lo + (r - lo) % u + k * u := by
  have e := Int.mul_ediv_add_emod (r - lo) u
  have m0 := Int.emod_nonneg (r - lo) (show u ≠ 0 by omega)
  have m1 := Int.emod_lt_of_pos (r - lo) hu
  constructor
  · rintro ⟨h1, x, hx⟩
    refine ⟨x + (r - lo) / u, ?_, ?_⟩
    · refine Classical.byContradiction fun z => ?_
      have : u * (x + (r - lo) / u) ≤ u * (-1) := Int.mul_le_mul_of_nonneg_left (by omega) (by omega)
      rw [Int.mul_add] at this
      omega
    · rw [Int.mul_comm, Int.mul_add]
      omega
  · rintro ⟨k, hk, rfl⟩
    have : 0 ≤ k * u := Int.mul_nonneg hk (by omega)
    refine ⟨by omega, k - (r - lo) / u, ?_⟩
    rw [Int.mul_sub, Int.mul_comm u k]
    omega
/-- how many of them there are up to a number -/
theorem to_last {u f last k : Int} (hu : 0 < u) : f + k * u ≤ last ↔ k < (last - f) / u + 1 := by
  rw [Int.lt_add_one_iff, Int.le_ediv_iff_mul_le hu]
  omega
end Lat
set_option Elab.async false
set_option linter.all false
set_option maxRecDepth 100000
set_option maxHeartbeats 1000000
set_option exponentiation.threshold 20000
namespace K38
open PySem PySem.Spec PyProof.Rows L2 Fen
abbrev sCkS : Stmt := topS 24
abbrev sLea : Stmt := topS 27
abbrev sGrt : Stmt := topS 28
abbrev sLn : Stmt := topS 31
theorem scCkS : FnScope ["value"] ["value"] (defScope sCkS) := ⟨rfl, rfl, rfl, by decide +kernel, rfl, by decide +kernel, by decide +kernel⟩
theorem scLea : FnScope ["top", "bottom", "beyond"] ["top", "bottom", "beyond"] (defScope sLea) := ⟨rfl, rfl, rfl, by decide +kernel, rfl, by decide +kernel, by decide +kernel⟩
theorem scGrt : FnScope ["top", "bottom", "beyond"] ["top", "bottom", "beyond"] (defScope sGrt) := ⟨rfl, rfl, rfl, by decide +kernel, rfl, by decide +kernel, by decide +kernel⟩
theorem scLn : FnScope ["fence", "size", "direction", "least", "greatest"] ["fence", "size", "direction"] (defScope sLn) := ⟨rfl, rfl, rfl, by decide +kernel, rfl, by decide +kernel, by decide +kernel⟩
/-- how many lines -/
def lnN (b n mn mx : Int) : Int := n * mx / b + -(n * mn) / b + 1
theorem lnN_eq (b n mn mx : Int) : Lat.greatestTo (n * mx) b false - Lat.leastFrom (n * mn) b false + 1 = lnN b n mn mx := by
  unfold Lat.greatestTo Lat.leastFrom lnN
  simp only [Int.neg_neg, Bool.false_eq_true, if_false]
  omega
theorem fl_sum {b x y : Int} (hb : 0 < b) (h : x ≤ y) : -1 ≤ y / b + -x / b := by
  have h1 := Int.ediv_le_ediv hb h
  have h2 := Int.emod_nonneg x (show b ≠ 0 by omega)
  have h3 := Int.emod_nonneg (-x) (show b ≠ 0 by omega)
  have h4 := Int.emod_lt_of_pos x hb
  have h5 := Int.emod_lt_of_pos (-x) hb
  have h6 := Int.mul_ediv_add_emod x b
  have h7 := Int.mul_ediv_add_emod (-x) b
  have h8 : b * (x / b + -x / b) = -(x % b) - -x % b := by rw [Int.mul_add]; omega
  have h9 : -2 < x / b + -x / b := by
    refine Int.lt_of_mul_lt_mul_left (a := b) ?_ (by omega)
    rw [h8]
    omega
  omega
theorem lnN_pos {b n mn mx : Int} (hb : 0 < b) (n1 : 0 ≤ n) (h : mn ≤ mx) : 0 ≤ lnN b n mn mx := by
  have := fl_sum hb (Int.mul_le_mul_of_nonneg_left h n1)
  unfold lnN
  omega
theorem n_small {n : Int} (h1 : 1 ≤ n) (h2 : n ≤ 10 ^ 30) : n.natAbs < 2 ^ 100 := by
  have e : (10 : Int) ^ 30 = 1000000000000000000000000000000 := by decide
  have e2 : (2 : Nat) ^ 100 = 1267650600228229401496703205376 := by decide
  rw [e] at h2
  rw [e2]
  omega
theorem ends_small {d : Hull.P} {cs : List Hull.P} {mn mx : Int} (hd : Ds d) (co : ∀ q ∈ cs, Cor q) (h : Ends2 (valL d cs) mn mx) : mn ≤ mx ∧ mn.natAbs < 2 ^ 241 ∧ mx.natAbs < 2 ^ 241 := by
  obtain ⟨h1, h2, h3, h4⟩ := h
  obtain ⟨p, hp, ep⟩ := List.mem_map.mp h1
  obtain ⟨q, hq, eq⟩ := List.mem_map.mp h3
  exact ⟨h2 mx h3, by rw [← ep]; exact val_small hd (co p hp), by rw [← eq]; exact val_small hd (co q hq)⟩
section
variable {P : Program} {w : World} {K : PySem.W.Frag} {mg : Str → Option Value} {base : Heap}
def spCkS : Sp := fun vs H Q _ => ∃ i : Int, vs = [.int i] ∧ 1 ≤ i ∧ i ≤ 10 ^ 30 ∧ Q .non H
theorem ok_ckS {f fB : Addr} {fd fdB : FuncData} {k : Nat} (F : Fun K "check_size" "check_size" sCkS f fd) (T : Nms mg) (CB : Cal P w K mg base (k + 1) "is_between" fB fdB ["value", "least", "greatest"] spBet) : FnOk P w K mg base CX0 (k + 1 + 1) f fd ["value"] spCkS := by
  obtain ⟨t, lim⟩ := T.lim
  refine F.ok scCkS (fun vs H Q E h => ?_) (fun cdv A outer s H vs Q E hr h => ?_)
  · obtain ⟨i, rfl, _⟩ := h
    rfl
  · obtain ⟨i, rfl, h1, h2, q⟩ := h
    refine ⟨_, pss_one (ps_if (pt_not (pt_val (pe_cal CB hr (pa_cons (pv 0) (pa_cons pe_int (pa_cons (pe_glob (v := .int (10 ^ 30)) (by rfl) lim ⟨_, rfl⟩) pa_nil)))))) (pss_one ps_no) pss_nil), ?_⟩
    refine ⟨_, rfl, i, 1, 10 ^ 30, rfl, h1, h2, true, rfl, ?_⟩
    exact iteF q
def spLea : Sp := fun vs H Q _ => ∃ (top b : Int) (o : Bool), vs = [.int top, .int b, .bl o] ∧ 0 < b ∧ b.natAbs < 2 ^ 4000 ∧ Q (.int (Lat.leastFrom top b o)) H
theorem ok_lea {f : Addr} {fd : FuncData} {k : Nat} (F : Fun K "least_from" "least_from" sLea f fd) : FnOk P w K mg base CX0 (k + 1) f fd ["top", "bottom", "beyond"] spLea := by
  refine F.ok scLea (fun vs H Q E h => ?_) (fun cdv A outer s H vs Q E hr h => ?_)
  · obtain ⟨top, b, o, rfl, _⟩ := h
    rfl
  · obtain ⟨top, b, o, rfl, b0, b1, q⟩ := h
    refine ⟨_, pss_cons (ps_if (pt_val (pv 2)) (pss_one (ps_ret (pe_op op_add (pe_op op_fdivW (pv 0) (pv 1)) pe_int))) pss_nil)
      (pss_one (ps_ret (pe_un un_neg (pe_op op_fdivW (pe_un un_neg (pv 0)) (pv 1))))), ?_⟩
    have dv : ∀ x : Int, CDivW x b := fun x => wide_div b0 b1 (by decide) (by decide)
    refine ⟨_, rfl, o, rfl, ?_⟩
    cases o with
    | true => exact iteT ⟨_, rfl, _, rfl, _, _, rfl, rfl, dv _, _, _, rfl, rfl, q⟩
    | false => exact iteF ⟨_, rfl, _, rfl, _, rfl, _, _, rfl, rfl, dv _, _, rfl, q⟩
def spGrt : Sp := fun vs H Q _ => ∃ (top b : Int) (o : Bool), vs = [.int top, .int b, .bl o] ∧ 0 < b ∧ b.natAbs < 2 ^ 4000 ∧ Q (.int (Lat.greatestTo top b o)) H
theorem ok_grt {f fL : Addr} {fd fdL : FuncData} {k : Nat} (F : Fun K "greatest_to" "greatest_to" sGrt f fd) (CL : Cal P w K mg base (k + 1) "least_from" fL fdL ["top", "bottom", "beyond"] spLea) : FnOk P w K mg base CX0 (k + 1 + 1) f fd ["top", "bottom", "beyond"] spGrt := by
  refine F.ok scGrt (fun vs H Q E h => ?_) (fun cdv A outer s H vs Q E hr h => ?_)
  · obtain ⟨top, b, o, rfl, _⟩ := h
    rfl
  · obtain ⟨top, b, o, rfl, b0, b1, q⟩ := h
    refine ⟨_, pss_one (ps_ret (pe_un un_neg (pe_cal CL hr (pa_cons (pe_un un_neg (pv 0)) (pa_cons (pv 1) (pa_cons (pv 2) pa_nil)))))), ?_⟩
    exact ⟨_, rfl, _, rfl, _, rfl, _, rfl, -top, b, o, rfl, b0, b1, _, rfl, q⟩
def spLn (K : PySem.W.Frag) : Sp := fun vs H Q _ => ∃ (t c o a : Addr) (b n : Int) (ks : Pts) (os : List Int) (d : Hull.P), vs = [.ref t, .int n, .ref a] ∧ FAt K H t c o b ks os ∧ IsF b (ks.map (·.2)) os ∧ 1 ≤ n ∧ n ≤ 10 ^ 30 ∧ SqT K H a [.int d.1, .int d.2] ∧ d ≠ (0, 0) ∧ Ds d ∧
  ∀ H' mn mx, Same H H' → Ends2 (valL d (ks.map (·.2))) mn mx → Q (.int (lnN b n mn mx)) H'
theorem ok_ln {f fC fS fD fE fG fL : Addr} {fd fdC fdS fdD fdE fdG fdL : FuncData} {k : Nat} (F : Fun K "line_number" "line_number" sLn f fd)
    (CC : Cal P w K mg base (k + 1) "check_fence" fC fdC ["value"] (spChk K)) (CS : Cal P w K mg base (k + 1) "check_size" fS fdS ["value"] spCkS) (CD : Cal P w K mg base (k + 1) "check_direction" fD fdD ["value"] (spCkd K)) (CE : Cal P w K mg base (k + 1) "ends_along" fE fdE ["corners", "direction"] (spEnd K))
    (CG : Cal P w K mg base (k + 1) "greatest_to" fG fdG ["top", "bottom", "beyond"] spGrt) (CL : Cal P w K mg base (k + 1) "least_from" fL fdL ["top", "bottom", "beyond"] spLea) :
    FnOk P w K mg base CX0 (k + 1 + 1) f fd ["fence", "size", "direction"] (spLn K) := by
  refine F.ok scLn (fun vs H Q E h => ?_) (fun cdv A outer s H vs Q E hr h => ?_)
  · obtain ⟨t, c, o, a, b, n, ks, os, d, rfl, _⟩ := h
    rfl
  · obtain ⟨t, c, o, a, b, n, ks, os, d, rfl, fa, isf, n1, n2, hT, ne, hd, q⟩ := h
    refine ⟨_, pss_cons (ps_expr (pe_cal CC hr (pa_cons (pv 0) pa_nil))) (pss_cons (ps_expr (pe_cal CS hr (pa_cons (pv 1) pa_nil))) (pss_cons (ps_expr (pe_cal CD hr (pa_cons (pv 2) pa_nil)))
      (pss_cons (ps_asg (pe_cal CE hr (pa_cons (pe_ix ix_tup (pv 0) pe_int (fun _ _ => rfl)) (pa_cons (pv 2) pa_nil))) (pg_tup rfl (pgs_cons (pg_name (i := 3) scLn.nd rfl (.inl rfl)) (pgs_cons (pg_name (i := 4) scLn.nd rfl (.inl rfl)) pgs_nil))))
      (pss_one (ps_ret (pe_op op_add (pe_op op_sub (pe_cal CG hr (pa_cons (pe_op op_mulW (pv 1) (pv 4)) (pa_cons (pe_ix ix_tup (pv 0) pe_int (fun _ _ => rfl)) (pa_cons pe_bl pa_nil)))) (pe_cal CL hr (pa_cons (pe_op op_mulW (pv 1) (pv 3)) (pa_cons (pe_ix ix_tup (pv 0) pe_int (fun _ _ => rfl)) (pa_cons pe_bl pa_nil))))) pe_int)))))), ?_⟩
    have l1 := isf.l1
    have l2 := isf.l2
    rw [List.length_map] at l1 l2
    have nb := n_small n1 n2
    have b1 := isf.b1
    have b2 := isf.b2
    have bb : b.natAbs < 2 ^ 4000 := Nat.lt_of_le_of_lt (show b.natAbs ≤ 30 by omega) (by decide)
    refine ⟨_, rfl, t, c, o, b, ks, os, rfl, fa, isf, fun H1 s1 => ?_⟩
    refine ⟨_, rfl, n, rfl, n1, n2, ?_⟩
    refine ⟨_, rfl, a, d, rfl, s1.seqT hT, ne, fun H2 s2 => ?_⟩
    have s12 := s1.trans s2
    have f2 := fa.same s12
    refine ⟨.ref t, rfl, t, _, 1, .ref c, rfl, rfl, f2.tup, atI_nat (j := 1) rfl, .ref a, rfl, c, a, ks, d, rfl, f2.cor, f2.pts, fun p hp => isf.co _ (List.mem_map.mpr ⟨p, hp, rfl⟩), l1, l2, s12.seqT hT, hd, fun H3 x mn mx s3 hx en => ?_⟩
    obtain ⟨_, m1, m2⟩ := ends_small hd isf.co en
    have f3 := f2.same s3
    refine ⟨x, _, rfl, SqT.of hx, rfl, .int mn, [.int mx], rfl, .int mx, [], rfl, rfl, ?_⟩
    refine ⟨_, rfl, _, rfl, _, _, rfl, rfl, wide_mul nb m2 (by decide) (by decide) (by decide), .ref t, rfl, t, _, 0, .int b, rfl, rfl, f3.tup, atI_nat (j := 0) rfl, n * mx, b, false, rfl, by omega, bb, ?_⟩
    refine ⟨_, rfl, _, rfl, _, _, rfl, rfl, wide_mul nb m1 (by decide) (by decide) (by decide), .ref t, rfl, t, _, 0, .int b, rfl, rfl, f3.tup, atI_nat (j := 0) rfl, n * mn, b, false, rfl, by omega, bb, ?_⟩
    refine ⟨_, _, rfl, rfl, _, _, rfl, rfl, ?_⟩
    have z := q H3 mn mx (s12.trans s3) en
    rw [← lnN_eq] at z
    exact z
end
end K38
set_option Elab.async false
set_option linter.all false
set_option maxRecDepth 100000
set_option maxHeartbeats 1000000
set_option exponentiation.threshold 20000
namespace K38
open PySem PySem.Spec PyProof.Rows L2 Fen
abbrev sTr : Stmt := topS 35
abbrev sCor : Stmt := topS 36
theorem scTr : FnScope ["_law_one", "_law_two", "_law_three", "_law_wide", "_law_tall"] ["_law_one", "_law_two", "_law_three"] (defScope sTr) := ⟨rfl, rfl, rfl, by decide +kernel, rfl, by decide +kernel, by decide +kernel⟩
theorem scCor : FnScope ["_law_spots", "_law_found", "_law_rows", "_law_chain", "_law_spot"] ["_law_spots"] (defScope sCor) := ⟨rfl, rfl, rfl, by decide +kernel, rfl, by decide +kernel, by decide +kernel⟩
theorem sub_small {a b : Int} {n : Nat} (ha : a.natAbs < 2 ^ n) (hb : b.natAbs < 2 ^ n) : (a - b).natAbs < 2 ^ (n + 1) := by
  rw [Nat.pow_succ]
  omega
/-- places are not too far out -/
def Sw (p : Hull.P) : Prop := p.1.natAbs < 2 ^ 800 ∧ p.2.natAbs < 2 ^ 800
theorem sm_sw {p : Hull.P} (h : Sm p) : Sw p := ⟨Nat.lt_trans h.1 (by decide), Nat.lt_trans h.2 (by decide)⟩
/-- the chain over the places of a line -/
def THf (K : PySem.W.Frag) : TS := fun D σ H => ∃ (y0 y1 y5 : Option V) (a wa : Addr) (ks : Pts), σ = [y0, y1, some (.ref a), some (.ref wa), y5] ∧ a ≠ wa ∧ SqL K H a (refs ks) ∧ At K H ks ∧ (∀ p ∈ ks, Sm p.2) ∧ ks.length ≤ 1000 ∧ H wa = some (.lst []) ∧
  ∀ H' y5', SameX wa H H' → H' wa = some (.lst (refs (halfK ks).reverse)) → D.nx [y0, y1, some (.ref a), some (.ref wa), y5'] H'
/-- the places in their sequence, each once, as a new list -/
def tSrt (K : PySem.W.Frag) : TE := fun σ H Q => ∃ (a : Addr) (ks : Pts), σ[0]? = some (some (.ref a)) ∧ SqL K H a (refs ks) ∧ At K H ks ∧ ks.length < 64 ∧
  ∀ H' wa (hs : Pts), Same H H' → H wa = none → H' wa = some (.lst (refs hs)) → (∀ p ∈ hs, p ∈ ks) → (hs.map (·.2)).Pairwise Hull.Lt → (∀ x, x ∈ hs.map (·.2) ↔ x ∈ ks.map (·.2)) → hs.length < 64 → Q (.ref wa) H'
theorem hullK_nil {hs gs : Pts} (e : hs.map (·.2) = gs.map (·.2)) (h : (halfK hs).reverse.dropLast ++ (halfK gs.reverse).reverse.dropLast = []) : hs.length ≤ 1 := by
  rcases hs with _ | ⟨a, _ | ⟨b, r⟩⟩
  · simp
  · simp
  · exfalso
    have h1 := congrArg (fun z : Pts => z.map (·.2)) (List.append_eq_nil_iff.mp h).1
    simp only [List.map_dropLast, List.map_reverse, half_snd, List.map_nil] at h1
    obtain ⟨z, rest, e2⟩ : ∃ z rest, (b :: r) = rest ++ [z] := ⟨(b :: r).getLast (by simp), (b :: r).dropLast, (List.dropLast_concat_getLast (by simp)).symm⟩
    rw [e2] at h1
    simp only [List.map_cons, List.map_append, List.map_nil] at h1
    have l := Fen.half_two (m := a.2) (x := z.2) (rest := rest.map (·.2))
    have l2 := congrArg List.length h1
    rw [List.length_dropLast, List.length_reverse, List.length_nil] at l2
    omega
section
variable {P : Program} {w : World} {K : PySem.W.Frag} {mg : Str → Option Value} {base : Heap}
def spTr (K : PySem.W.Frag) : Sp := fun vs H Q _ => ∃ (a b c : Addr) (p q r : Hull.P), vs = [.ref a, .ref b, .ref c] ∧ SqT K H a [.int p.1, .int p.2] ∧ SqT K H b [.int q.1, .int q.2] ∧ SqT K H c [.int r.1, .int r.2] ∧ Sw p ∧ Sw q ∧ Sw r ∧ Q (.int (Hull.turn p q r)) H
theorem ok_tr {f : Addr} {fd : FuncData} {k : Nat} (F : Fun K "_law_cross" "_law_cross" sTr f fd) : FnOk P w K mg base CX0 (k + 1) f fd ["_law_one", "_law_two", "_law_three"] (spTr K) := by
  refine F.ok scTr (fun vs H Q E h => ?_) (fun cdv A outer s H vs Q E hr h => ?_)
  · obtain ⟨a, b, c, p, q, r, rfl, _⟩ := h
    rfl
  · obtain ⟨a, b, c, p, q, r, rfl, ha, hb, hc, sp, sq, sr, k⟩ := h
    refine ⟨_, pss_cons (ps_par (i := 3) (j := 4) rfl scTr.nd rfl rfl (by decide) rfl rfl (pa_cons (pe_op op_sub (pe_ix ix_tup (pv 1) pe_int (fun _ _ => rfl)) (pe_ix ix_tup (pv 0) pe_int (fun _ _ => rfl))) (pa_cons (pe_op op_sub (pe_ix ix_tup (pv 1) pe_int (fun _ _ => rfl)) (pe_ix ix_tup (pv 0) pe_int (fun _ _ => rfl))) pa_nil)) (by rfl)) (pss_one (ps_ret (pe_op op_sub (pe_op op_mulW (pv 3) (pe_op op_sub (pe_ix ix_tup (pv 2) pe_int (fun _ _ => rfl)) (pe_ix ix_tup (pv 0) pe_int (fun _ _ => rfl)))) (pe_op op_mulW (pv 4) (pe_op op_sub (pe_ix ix_tup (pv 2) pe_int (fun _ _ => rfl)) (pe_ix ix_tup (pv 0) pe_int (fun _ _ => rfl))))))), ?_⟩
    refine ⟨.ref b, rfl, b, _, 0, .int q.1, rfl, rfl, hb, rfl, .ref a, rfl, a, _, 0, .int p.1, rfl, rfl, ha, rfl, _, _, rfl, rfl, .ref b, rfl, b, _, 1, .int q.2, rfl, rfl, hb, rfl, .ref a, rfl, a, _, 1, .int p.2, rfl, rfl, ha, rfl, _, _, rfl, rfl, _, _, rfl, ?_⟩
    exact ⟨_, rfl, .ref c, rfl, c, _, 1, .int r.2, rfl, rfl, hc, rfl, .ref a, rfl, a, _, 1, .int p.2, rfl, rfl, ha, rfl, _, _, rfl, rfl, _, _, rfl, rfl, wide_mul (sub_small sq.1 sp.1) (sub_small sr.2 sp.2) (by decide) (by decide) (by decide), _, rfl, .ref c, rfl, c, _, 0, .int r.1, rfl, rfl, hc, rfl, .ref a, rfl, a, _, 0, .int p.1, rfl, rfl, ha, rfl, _, _, rfl, rfl, _, _, rfl, rfl, wide_mul (sub_small sq.2 sp.2) (sub_small sr.1 sp.1) (by decide) (by decide) (by decide), _, _, rfl, rfl, k⟩
theorem at_putX {H H' : Hp} {wa : Addr} {ks : Pts} {l : List V} (h : At K H ks) (hw : H wa = some (.lst l)) (s : SameX wa H H') : At K H' ks := fun p hp => L2.SqT.put (h p hp) hw s
theorem ok_cor {f fT : Addr} {fd fdT : FuncData} {k : Nat} (F : Fun K "_law_around" "_law_around" sCor f fd) (CT : Cal P w K mg base (k + 1) "_law_cross" fT fdT ["_law_one", "_law_two", "_law_three"] (spTr K)) (ml : mg "len" = none) (ms : mg "sorted" = none) (mt : mg "set" = none) :
    FnOk P w K mg base CX0 (k + 1 + 1) f fd ["_law_spots"] (spHul K) := by
  refine F.ok scCor (fun vs H Q E h => ?_) (fun cdv A outer s H vs Q E hr h => ?_)
  · obtain ⟨a, ks, rfl, _⟩ := h
    rfl
  · obtain ⟨a, ks, rfl, hS, hT, small, few, q⟩ := h
    refine ⟨_, pss_cons (ps_set (i := 1) scCor.nd rfl (.inl rfl) (pe_lst pa_nil))
      (pss_cons (ps_for PassesOwn.never rfl (pi_tup (pe_tup (pa_cons (PE.of (tSrt K) (pe_callB (cr_sortedSP rfl) (by rfl) ms (by decide +kernel) (pa_cons (pe_callTy (cr_setOfT rfl (hu_of64 hr)) (by rfl) mt (by decide +kernel) (pa_cons (pv 0) pa_nil)) pa_nil)) ?t1) (pa_cons (pe_revL (PE.of (tSrt K) (pe_callB (cr_sortedSP rfl) (by rfl) ms (by decide +kernel) (pa_cons (pe_callTy (cr_setOfT rfl (hu_of64 hr)) (by rfl) mt (by decide +kernel) (pa_cons (pv 0) pa_nil)) pa_nil)) ?t2)) pa_nil)))) (pg_name (i := 2) scCor.nd rfl (.inl rfl))
        (pss_cons (ps_set (i := 3) scCor.nd rfl (.inl rfl) (pe_lst pa_nil))
        (pss_cons (PS.of (THf K) (ps_for PassesOwn.never rfl (pi_list (pv 2)) (pg_name (i := 4) scCor.nd rfl (.inl rfl))
          (pss_cons (ps_while PassesOwn.never (PW.pt (pw_and (pt_cmpR op_gt (pe_callB call_len_seq (by rfl) ml PySem.boot_len (pa_cons (pv 3) pa_nil)) pe_int (nomark _))
              (pw_and1 (pt_cmpR op_le (pe_cal CT hr (pa_cons (pe_ix ix_list (pv 3) (pe_un un_neg pe_int) (fun _ _ => rfl)) (pa_cons (pe_ix ix_list (pv 3) (pe_un un_neg pe_int) (fun _ _ => rfl)) (pa_cons (pv 4) pa_nil)))) pe_int (nomark _)))))
              (pss_one (ps_expr (pe_bm0 PySem.F.plainAttrs_list PySem.F.slot_list_pop PySem.F.type_list_pop mt_pop (pv 3)))))
          (pss_one (ps_expr (pe_bm PySem.F.plainAttrs_list PySem.F.slot_list_append PySem.F.type_list_append mt_append (pv 3) (pa_cons (pv 4) pa_nil)))))) ?s0)
        (pss_one (ps_set (i := 1) scCor.nd rfl (.inl rfl) (pe_op op_cat (pv 1) (pe_slice sl_list (pv 3) po_none (po_some (pe_un un_neg pe_int)))))))))
      (pss_one (ps_ret (pe_ifExp (pt_cmpR (op_neD (hu_of64 hr)) (pv 1) (pe_lst pa_nil) (nomark _)) (pv 1) (PE.of (tSrt K) (pe_callB (cr_sortedSP rfl) (by rfl) ms (by decide +kernel) (pa_cons (pe_callTy (cr_setOfT rfl (hu_of64 hr)) (by rfl) mt (by decide +kernel) (pa_cons (pv 0) pa_nil)) pa_nil)) ?t3))))), ?_⟩
    case t1 =>
      rintro σ H Q ⟨a, ks, e0, hS, hT, few, q⟩
      refine ⟨.ref a, e0, a, ks.map enc, rfl, by rw [refs_enc]; exact hS, fun p hp => ?_, by rw [List.length_map]; exact few, fun sa L ns h1 h2 => ?_⟩
      · obtain ⟨r, hr2, rfl⟩ := List.mem_map.mp hp
        exact hT r hr2
      refine ⟨sa, L, rfl, upd_same, fun p hp => ?_, fun p hp => ?_, fun M wa pm nd l64 pw nw => ?_⟩
      · obtain ⟨r, hr2, rfl⟩ := List.mem_map.mp (h1 p hp)
        exact (same_new ns).seqT (hT r hr2)
      · obtain ⟨r, hr2, rfl⟩ := List.mem_map.mp (h1 p hp)
        exact ⟨_, _, rfl⟩
      obtain ⟨e1, sub, asc, mem⟩ := asc_pts h1 h2 pm nd pw
      have len : (M.map dec).length < 64 := by rw [List.length_map]; exact l64
      rw [e1]
      exact q _ wa (M.map dec) ((same_new ns).trans (same_new nw)) ((same_new ns).free nw) upd_same sub asc mem len
    case t2 =>
      rintro σ H Q ⟨a, ks, e0, hS, hT, few, q⟩
      refine ⟨.ref a, e0, a, ks.map enc, rfl, by rw [refs_enc]; exact hS, fun p hp => ?_, by rw [List.length_map]; exact few, fun sa L ns h1 h2 => ?_⟩
      · obtain ⟨r, hr2, rfl⟩ := List.mem_map.mp hp
        exact hT r hr2
      refine ⟨sa, L, rfl, upd_same, fun p hp => ?_, fun p hp => ?_, fun M wa pm nd l64 pw nw => ?_⟩
      · obtain ⟨r, hr2, rfl⟩ := List.mem_map.mp (h1 p hp)
        exact (same_new ns).seqT (hT r hr2)
      · obtain ⟨r, hr2, rfl⟩ := List.mem_map.mp (h1 p hp)
        exact ⟨_, _, rfl⟩
      obtain ⟨e1, sub, asc, mem⟩ := asc_pts h1 h2 pm nd pw
      have len : (M.map dec).length < 64 := by rw [List.length_map]; exact l64
      rw [e1]
      exact q _ wa (M.map dec) ((same_new ns).trans (same_new nw)) ((same_new ns).free nw) upd_same sub asc mem len
    case t3 =>
      rintro σ H Q ⟨a, ks, e0, hS, hT, few, q⟩
      refine ⟨.ref a, e0, a, ks.map enc, rfl, by rw [refs_enc]; exact hS, fun p hp => ?_, by rw [List.length_map]; exact few, fun sa L ns h1 h2 => ?_⟩
      · obtain ⟨r, hr2, rfl⟩ := List.mem_map.mp hp
        exact hT r hr2
      refine ⟨sa, L, rfl, upd_same, fun p hp => ?_, fun p hp => ?_, fun M wa pm nd l64 pw nw => ?_⟩
      · obtain ⟨r, hr2, rfl⟩ := List.mem_map.mp (h1 p hp)
        exact (same_new ns).seqT (hT r hr2)
      · obtain ⟨r, hr2, rfl⟩ := List.mem_map.mp (h1 p hp)
        exact ⟨_, _, rfl⟩
      obtain ⟨e1, sub, asc, mem⟩ := asc_pts h1 h2 pm nd pw
      have len : (M.map dec).length < 64 := by rw [List.length_map]; exact l64
      rw [e1]
      exact q _ wa (M.map dec) ((same_new ns).trans (same_new nw)) ((same_new ns).free nw) upd_same sub asc mem len
    case s0 =>
      rintro D σ H ⟨y0, y1, y5, a, wa, ks, rfl, naw, hS, hT, small, few, hw0, go⟩
      refine ⟨.ref a, rfl, a, rfl, ⟨_, hS⟩, ?_⟩
      refine for_list (K := K) (a := a) (xs := refs ks) (fun i σ H3 => ∃ y5, σ = [y0, y1, some (.ref a), some (.ref wa), y5] ∧ SameX wa H H3 ∧ H3 wa = some (.lst (refs (halfK (ks.take i)).reverse))) ?_ ?_ ?_ ?_
      · exact ⟨_, rfl, fun _ _ _ e => e, hw0⟩
      · rintro i σ H3 _ ⟨y5, rfl, sx, _⟩
        exact SameX.seqL sx naw hS
      · rintro i x σ H3 hx ⟨y5, rfl, sx, hw⟩
        obtain ⟨p, hp, rfl⟩ := refs_get hx
        have i1 : i < ks.length := (List.getElem?_eq_some_iff.mp hp).1
        have pm : p ∈ ks := List.mem_of_getElem? hp
        have stm : ∀ r ∈ halfK (ks.take i), r ∈ ks := fun r hr => List.mem_of_mem_take (half_sub _ r hr)
        have lst : (halfK (ks.take i)).length ≤ ks.length := Nat.le_trans (half_len _) (by rw [List.length_take]; omega)
        refine ⟨fun m σ' H' => ∃ st : Pts, st.length = m ∧ σ' = [y0, y1, some (.ref a), some (.ref wa), some (.ref p.1)] ∧ SameX wa H H' ∧ H' wa = some (.lst (refs st.reverse)) ∧ popK p.2 st = popK p.2 (halfK (ks.take i)) ∧ (∀ r ∈ st, r ∈ ks) ∧ st.length ≤ ks.length, ⟨_, _, rfl, rfl, sx, hw, rfl, stm, lst⟩, ?_⟩
        rintro m σ' H' ⟨st, em, rfl, sx2, hw2, ep, sub, ls⟩
        have at2 : At K H' ks := at_putX hT hw0 sx2
        have out : popK p.2 st = st → ∀ T : L2.St → Hp → Prop, (∀ H5, SameX wa H H5 → H5 wa = some (.lst (refs (halfK (ks.take (i + 1))).reverse)) → T [y0, y1, some (.ref a), some (.ref wa), some (.ref p.1)] H5) → T [y0, y1, some (.ref a), some (.ref wa), some (.ref p.1)] (upd H' wa (.lst (refs st.reverse ++ [.ref p.1]))) := fun e T t => by
          refine t _ (sx2.trans SameX.put) ?_
          rw [upd_same, take_succ_at hp, half_snoc]
          show some (HO.lst _) = some (.lst (refs (p :: popK p.2 (halfK (ks.take i))).reverse))
          rw [← ep, e]
          simp [refs]
        refine ⟨.ref wa, rfl, wa, _, rfl, .inl (SqL.of hw2), _, _, rfl, rfl, _, rfl, ite2 (fun c => ?_) (fun c => ?_)⟩
        · rw [refs_len, List.length_reverse] at c
          have c2 : 1 < (st.length : Int) := of_decide_eq_true c
          rcases st with _ | ⟨b, _ | ⟨d, rest⟩⟩
          · simp at c2
          · simp at c2
          · have mb : b ∈ ks := sub b List.mem_cons_self
            have md : d ∈ ks := sub d (List.mem_cons_of_mem _ List.mem_cons_self)
            refine ⟨.ref wa, rfl, _, rfl, wa, _, _, .ref d.1, rfl, rfl, SqL.of hw2, at_2, .ref wa, rfl, _, rfl, wa, _, _, .ref b.1, rfl, rfl, SqL.of hw2, at_1, .ref p.1, rfl, d.1, b.1, p.1, d.2, b.2, p.2, rfl, at2 d md, at2 b mb, at2 p pm, sm_sw (small d md), sm_sw (small b mb), sm_sw (small p pm), _, _, rfl, rfl, _, rfl, ite2 (fun c3 => ?_) (fun c3 => ?_)⟩
            · have c4 : Hull.turn d.2 b.2 p.2 ≤ 0 := of_decide_eq_true c3
              refine ⟨fun σ' H' => ∃ m', m' < m ∧ ∃ st : Pts, st.length = m' ∧ σ' = [y0, y1, some (.ref a), some (.ref wa), some (.ref p.1)] ∧ SameX wa H H' ∧ H' wa = some (.lst (refs st.reverse)) ∧ popK p.2 st = popK p.2 (halfK (ks.take i)) ∧ (∀ r ∈ st, r ∈ ks) ∧ st.length ≤ ks.length, fun σ' H' z => z, ?_⟩
              refine ⟨.ref wa, rfl, .inl ⟨rfl, _, SqL.of hw2⟩, wa, _, _, rfl, rfl, hw2, refs_last, (d :: rest).length, ?_, d :: rest, rfl, rfl, sx2.trans SameX.put, ?_, ?_, fun r hr => sub r (List.mem_cons_of_mem _ hr), ?_⟩
              · rw [← em]
                exact Nat.lt_succ_self _
              · rw [upd_same, refs_drop]
              · rw [← ep, popK_go c4]
              · exact Nat.le_trans (Nat.le_succ _) ls
            · have c4 : ¬ Hull.turn d.2 b.2 p.2 ≤ 0 := fun z => c3 (decide_eq_true z)
              refine ⟨.ref wa, rfl, .inl ⟨rfl, _, SqL.of hw2⟩, .ref p.1, rfl, wa, _, .ref p.1, rfl, rfl, hw2, by rw [refs_len, List.length_reverse]; exact sz20 (by omega), ?_⟩
              exact out (popK_stay c4) _ fun H5 s5 e5 => ⟨_, rfl, s5, e5⟩
        · refine iteF ?_
          refine ⟨.ref wa, rfl, .inl ⟨rfl, _, SqL.of hw2⟩, .ref p.1, rfl, wa, _, .ref p.1, rfl, rfl, hw2, by rw [refs_len, List.length_reverse]; exact sz20 (by omega), ?_⟩
          refine out ?_ _ fun H5 s5 e5 => ⟨_, rfl, s5, e5⟩
          rw [refs_len, List.length_reverse] at c
          rcases st with _ | ⟨b, _ | ⟨d, rest⟩⟩
          · rfl
          · rfl
          · exfalso
            refine c (decide_eq_true ?_)
            simp
            omega
      · rintro σ H3 ⟨y5, rfl, sx, hw⟩
        rw [refs_len, List.take_length] at hw
        exact go H3 y5 sx hw
    refine ⟨by show 0 ≤ sizeLine; decide, fun fo nfo => ?_⟩
    have s1 : Same H (upd H fo (.lst [])) := same_new nfo
    have gf1 : (upd H fo (.lst [])) fo = some (.lst []) := upd_same
    generalize upd H fo (.lst []) = H1 at s1 gf1 ⊢
    refine ⟨a, ks, rfl, s1.seq hS, hT.same s1, few, fun H2 wa hs s2 nw hw sub asc mem lh => ?_⟩
    refine ⟨a, ks, rfl, s2.seq (s1.seq hS), hT.same (s1.trans s2), few, fun H3 wb gs s3 nb hb gsub gasc gmem lg => ?_⟩
    have eg : hs.map (·.2) = gs.map (·.2) := asc_uniq asc gasc fun x => by rw [mem, gmem]
    refine ⟨wb, refs gs, rfl, SqL.of hb, fun z nz => ?_⟩
    have s4 := s3.trans (same_new (o := .lst (refs gs).reverse) nz)
    refine ⟨by show 2 ≤ sizeLine; decide, fun tu ntu => ?_⟩
    have c4 := s4.trans (same_new (o := .tup [.ref wa, .ref z]) ntu)
    have gz := (same_new (o := .tup [.ref wa, .ref z]) ntu) _ _ (upd_same : (upd H3 z (.lst (refs gs).reverse)) z = some (.lst (refs gs).reverse))
    have gt : (upd (upd H3 z (.lst (refs gs).reverse)) tu (.tup [.ref wa, .ref z])) tu = some (.tup [.ref wa, .ref z]) := upd_same
    have hw4 := c4 _ _ hw
    have gf := c4 _ _ (s2 _ _ gf1)
    have sA : Same H (upd (upd H3 z (.lst (refs gs).reverse)) tu (.tup [.ref wa, .ref z])) := s1.trans (s2.trans c4)
    generalize upd (upd H3 z (.lst (refs gs).reverse)) tu (.tup [.ref wa, .ref z]) = H4 at c4 gf gz gt hw4 sA ⊢
    have T4 : At K H4 ks := hT.same sA
    have b1 := half_len hs
    have b2 := half_len gs.reverse
    rw [List.length_reverse] at b2
    have smh : ∀ p ∈ ks, Sm p.2 := small
    refine ⟨tu, rfl, ⟨_, SqT.of gt⟩, ?_⟩
    refine for_it (walk_tup (K := K) (a := tu) (xs := [.ref wa, .ref z])) (fun i σ H' => ∃ y3 y4 y5 f, σ = [some (.ref a), some (.ref f), y3, y4, y5] ∧ Same H4 H' ∧ H f = none ∧ H' f = some (.lst ((if 1 ≤ i then (refs (halfK hs).reverse).dropLast else []) ++ if 2 ≤ i then (refs (halfK gs.reverse).reverse).dropLast else []))) ⟨_, _, _, fo, rfl, Same.refl _, nfo, gf⟩ (fun i σ H' _ z => ?_) ?_ ?_
    · obtain ⟨_, _, _, _, _, z, _⟩ := z
      exact SqT.of (z _ _ gt)
    · rintro i x σ H7 H8 hi ⟨y3, y4, y5, f, rfl, s7, nf, hf⟩ ⟨rfl, hx⟩
      obtain ⟨la, lk, rfl, hl, mem2, len2, nxt⟩ : ∃ (la : Addr) (lk : Pts), x = .ref la ∧ H8 la = some (.lst (refs lk)) ∧ (∀ p ∈ lk, p ∈ ks) ∧ lk.length < 64 ∧ ((if 1 ≤ i then (refs (halfK hs).reverse).dropLast else []) ++ if 2 ≤ i then (refs (halfK gs.reverse).reverse).dropLast else []) ++ (refs (halfK lk).reverse).dropLast = ((if 1 ≤ i + 1 then (refs (halfK hs).reverse).dropLast else []) ++ if 2 ≤ i + 1 then (refs (halfK gs.reverse).reverse).dropLast else []) := by
        have : i = 0 ∨ i = 1 := by simp at hi; omega
        rcases this with rfl | rfl
        · cases hx
          exact ⟨wa, hs, rfl, s7 _ _ hw4, sub, lh, by simp⟩
        · cases hx
          exact ⟨z, gs.reverse, rfl, by rw [s7 _ _ gz]; simp [refs], fun p h => gsub p (List.mem_reverse.mp h), by rw [List.length_reverse]; exact lg, by simp⟩
      refine ⟨by show 0 ≤ sizeLine; decide, fun h nh => ?_⟩
      have e8 := same_new (o := .lst []) nh
      have nla : la ≠ h := fun w => by rw [w, nh] at hl; cases hl
      refine ⟨_, _, _, la, h, lk, rfl, nla, SqL.of (e8 _ _ hl), ((T4.sub mem2).same s7).same e8, fun p hp => smh p (mem2 p hp), by omega, upd_same, fun H9 y5' sx hh => ?_⟩
      have s9 : Same H8 H9 := (e8.x.trans sx).same nh
      refine ⟨.ref f, rfl, .ref h, rfl, 1, rfl, -1, rfl, h, _, rfl, SqL.of hh, fun y ny => ?_⟩
      rw [cut_last]
      have s10 := s9.trans (same_new (o := .lst (refs (halfK lk).reverse).dropLast) ny)
      have b3 := half_len lk
      refine ⟨f, y, _, _, rfl, rfl, s10 _ _ hf, upd_same, ?_, fun t nt => ?_⟩
      · have l1 : ((if 1 ≤ i then (refs (halfK hs).reverse).dropLast else []) ++ if 2 ≤ i then (refs (halfK gs.reverse).reverse).dropLast else []).length ≤ 128 := by
          rw [List.length_append]
          have d1 : (refs (halfK hs).reverse).dropLast.length ≤ 64 := by rw [List.length_dropLast, refs_len, List.length_reverse]; omega
          have d2 : (refs (halfK gs.reverse).reverse).dropLast.length ≤ 64 := by rw [List.length_dropLast, refs_len, List.length_reverse]; omega
          split <;> split <;> (try simp only [List.length_nil]) <;> omega
        rw [List.length_dropLast, refs_len, List.length_reverse]
        exact Nat.le_trans (show _ ≤ 300 by omega) (by decide)
      · rw [nxt]
        exact ⟨_, _, _, t, rfl, s7.trans (s10.trans (same_new nt)), (sA.trans (s7.trans s10)).free nt, upd_same⟩
    · rintro σ H7 ⟨y3, y4, y5, f, rfl, s7, nf, hf⟩
      have e5 : ((if 1 ≤ [V.ref wa, V.ref z].length then (refs (halfK hs).reverse).dropLast else []) ++ if 2 ≤ [V.ref wa, V.ref z].length then (refs (halfK gs.reverse).reverse).dropLast else []) = refs ((halfK hs).reverse.dropLast ++ (halfK gs.reverse).reverse.dropLast) := by
        simp only [List.length_cons, List.length_nil]
        unfold refs
        rw [List.map_append, List.map_dropLast, List.map_dropLast]
        rfl
      rw [e5] at hf
      have nil := hullK_nil eg
      have sub2 : ∀ p ∈ (halfK hs).reverse.dropLast ++ (halfK gs.reverse).reverse.dropLast, p ∈ ks := fun p hp => by
        rcases List.mem_append.mp hp with h | h
        · exact sub p (half_sub _ p (List.mem_reverse.mp ((List.dropLast_sublist _).subset h)))
        · exact gsub p (List.mem_reverse.mp (half_sub _ p (List.mem_reverse.mp ((List.dropLast_sublist _).subset h))))
      have snd : ((halfK hs).reverse.dropLast ++ (halfK gs.reverse).reverse.dropLast).map (·.2) = Hull.hull (hs.map (·.2)) := by
        rw [List.map_append, List.map_dropLast, List.map_dropLast, List.map_reverse, List.map_reverse, half_snd, half_snd, List.map_reverse, ← eg]
        rfl
      generalize hfs : (halfK hs).reverse.dropLast ++ (halfK gs.reverse).reverse.dropLast = fs at hf nil sub2 snd
      have s8 := sA.trans s7
      have T7 : At K H7 ks := hT.same s8
      refine ⟨.ref f, rfl, by show 0 ≤ sizeLine; decide, fun l nl => ?_⟩
      have sl := same_new (o := .lst []) nl
      refine ⟨_, _, dp_pts (SqL.of (sl _ _ hf)) ((T7.sub sub2).same sl), .lst (SqL.of upd_same) .nil, shaped_pts _, shaped_pts [], _, rfl, ite2 (fun e2 => ?_) (fun e2 => ?_)⟩
      · refine ⟨_, rfl, q _ f fs (hs.map (·.2)) (s8.trans sl) nf (sl _ _ hf) sub2 asc mem ?_⟩
        rw [snd]
        unfold hul
        have l1 : (hs.map (·.2)).length ≠ 1 := fun z => by
          obtain ⟨x, hx⟩ := List.length_eq_one_iff.mp z
          rw [hx] at snd
          have e4 : fs.map (·.2) = [] := snd
          rw [e4] at e2
          exact absurd e2 (by rw [eqv_nil]; decide)
        rw [if_neg l1]
      · refine ⟨a, ks, rfl, sl.seq (s8.seq hS), T7.same sl, few, fun H9 wc es s9 nc hc esub easc emem le => ?_⟩
        have ee : es.map (·.2) = hs.map (·.2) := asc_uniq easc asc fun x => by rw [emem, mem]
        refine q _ wc es (es.map (·.2)) (s8.trans (sl.trans s9)) ((s8.trans sl).free nc) hc esub easc emem ?_
        have lf : es.length ≤ 1 := by
          rw [eqv_nil] at e2
          have e5 : fs = [] := by
            rcases fs with _ | ⟨x, r⟩
            · rfl
            · exact absurd rfl e2
          have := nil e5
          have e6 := congrArg List.length ee
          rw [List.length_map, List.length_map] at e6
          omega
        exact (hul_few (by rw [List.length_map]; omega)).symm
end
end K38
set_option Elab.async false
set_option linter.all false
set_option maxRecDepth 100000
set_option maxHeartbeats 1000000
set_option exponentiation.threshold 20000
namespace K38
open PySem PySem.Spec PyProof.Rows L2 Fen
abbrev sDwn : Stmt := topS 37
abbrev nDwn : List Str := ["_law_stock_here", "_law_bound", "_law_most", "_law_many", "_law_low", "_law_kind", "_law_flat", "_law_spots", "_law_turn", "_law_corners", "_law_shut", "_law_spot"]
theorem scDwn : FnScope nDwn ["_law_stock_here", "_law_bound", "_law_most", "_law_many"] (defScope sDwn) := ⟨rfl, rfl, rfl, by decide +kernel, rfl, by decide +kernel, by decide +kernel⟩
section
variable {P : Program} {w : World} {K : PySem.W.Frag} {mg : Str → Option Value} {base : Heap}
def spDwn (K : PySem.W.Frag) : Sp := fun vs H Q _ => ∃ (p : Addr) (far most : Int) (many : Nat) (n : Nat), vs = [.ref p, .int far, .int most, .int (many : Nat)] ∧ BagAt H p n ∧ n + 200 ≤ 1000000 ∧ 1 ≤ far ∧ far ≤ 10 ^ 30 ∧ 1 ≤ most ∧ most ≤ 30 ∧ 1 ≤ many ∧ many ≤ 10 ∧
  ∀ H' t c o b ks os, Drew p H H' (n + 40) → H t = none → c ≠ p → o ≠ p → FPl K H' t c o b ks os → IsF b (ks.map (·.2)) os → Q (.ref t) H'
theorem ok_dwn {f fD fC : Addr} {fd fdD fdC : FuncData} {k : Nat} (F : Fun K "_law_drawn" "_law_drawn" sDwn f fd) (ml : mg "len" = none) (mr : mg "range" = none) (mls : mg "list" = none)
    (CD : Cal P w K mg base (k + 1) "_law_draw" fD fdD ["_law_stock_here", "_law_wide"] spDrw) (CC : Cal P w K mg base (k + 1) "_law_around" fC fdC ["_law_spots"] (spHul K)) :
    FnOk P w K mg base CX0 (k + 1 + 1) f fd ["_law_stock_here", "_law_bound", "_law_most", "_law_many"] (spDwn K) := by
  refine F.ok scDwn (fun vs H Q E h => ?_) (fun cdv A outer s H vs Q E hr h => ?_)
  · obtain ⟨p, far, most, many, n, rfl, _⟩ := h
    rfl
  · obtain ⟨p, far, most, many, n, rfl, hb, hn, f1, f2, m1, m2, y1, y2, q⟩ := h
    refine ⟨_, pss_cons (ps_par (i := 4) (j := 5) rfl scDwn.nd rfl rfl (by decide) rfl rfl (pa_cons (pe_op op_add pe_int (pe_cal CD hr (pa_cons (pv 0) (pa_cons (pv 2) pa_nil)))) (pa_cons (pe_cal CD hr (pa_cons (pv 0) (pa_cons pe_int pa_nil))) pa_nil)) (by rfl))
      (pss_cons (ps_par (i := 6) (j := 7) rfl scDwn.nd rfl rfl (by decide) rfl rfl (pa_cons (pe_ix ix_list (pe_lst (pa_cons (pv 1) (pa_cons (pv 1) (pa_cons (pe_op op_add (pe_op op_mul pe_int (pv 1)) pe_int) (pa_cons (pe_op op_add pe_int (pe_op op_fdiv (pv 1) pe_int)) pa_nil))))) (pv 5) (fun _ _ => rfl)) (pa_cons (pe_lst pa_nil) pa_nil)) (by rfl))
      (pss_cons (ps_for PassesOwn.never rfl (pi_range1 rfl mr (pa_cons (pe_ix ix_list (pe_lst (pa_cons pe_int (pa_cons pe_int (pa_cons pe_int (pa_cons (pv 3) (pa_cons (pv 3) pa_nil)))))) (pe_cal CD hr (pa_cons (pv 0) (pa_cons pe_int pa_nil))) (fun _ _ => rfl)) pa_nil)) (pg_name (i := 8) scDwn.nd rfl (.inl rfl))
        (pss_one (ps_expr (pe_bm PySem.F.plainAttrs_list PySem.F.slot_list_append PySem.F.type_list_append mt_append (pv 7) (pa_cons (pe_tup (pa_cons (pe_op op_sub (pe_cal CD hr (pa_cons (pv 0) (pa_cons (pe_op op_add (pe_op op_mul pe_int (pv 1)) pe_int) pa_nil))) (pv 1)) (pa_cons (pe_op op_sub (pe_cal CD hr (pa_cons (pv 0) (pa_cons (pv 6) pa_nil))) (pe_op op_fdiv (pv 6) pe_int)) pa_nil))) pa_nil)))))
      (pss_cons (ps_set (i := 9) scDwn.nd rfl (.inl rfl) (pe_cal CC hr (pa_cons (pv 7) pa_nil)))
      (pss_cons (ps_setLc (i := 10) (own := [("_law_spot", 11)]) (g := gName 11) (tt := tTest (tOp rEq (tCall spDrw [] E0 (tCons (tVar 0) (tCons (tC (.int 2)) tNil))) (tC (.int 1)))) rfl scDwn.nd rfl rfl (sw_true rfl rfl rfl (by decide +kernel)) (pi_range1 rfl mr (pa_cons (pe_callB call_len_seq (by rfl) ml PySem.boot_len (pa_cons (pv 9) pa_nil)) pa_nil)) (blkOk_by (N := nDwn) (sc := defScope sDwn) (by decide +kernel)) (fun _ _ _ _ _ => pg_name (i := 11) scDwn.nd rfl (Or.inl rfl))
          (fun _ _ _ _ _ => pts_one (pt_cmpR op_eq (pe_cal CD hr (pa_cons (pv 0) (pa_cons pe_int pa_nil))) pe_int (nomark _))) (fun _ _ _ _ _ => pv 11))
      (pss_cons (ps_set (i := 10) scDwn.nd rfl (.inl rfl) (pe_ix ix_list (pe_lst (pa_cons (pe_lst pa_nil) (pa_cons (pe_listRg rfl (by rfl) mls (prg_1 (by rfl) mr (pe_callB call_len_seq (by rfl) ml PySem.boot_len (pa_cons (pv 9) pa_nil)))) (pa_cons (pv 10) pa_nil)))) (pe_cal CD hr (pa_cons (pv 0) (pa_cons pe_int pa_nil))) (fun _ _ => rfl)))
      (pss_one (ps_ret (pe_tup (pa_cons (pv 4) (pa_cons (pv 9) (pa_cons (pe_ifExp (pt_cmpR op_gt (pe_callB call_len_seq (by rfl) ml PySem.boot_len (pa_cons (pv 9) pa_nil)) pe_int (nomark _)) (pv 10) (pe_lst pa_nil)) pa_nil))))))))))), ?_⟩
    have e30 : (10 : Int) ^ 30 = 1000000000000000000000000000000 := by decide
    have f2' := f2
    rw [e30] at f2'
    have e1000 : (3000000000000000000000000000001 : Int) < 2 ^ 1000 := by decide +kernel
    refine ⟨_, rfl, _, rfl, p, most, n, rfl, by omega, Int.lt_trans (show most < 3000000000000000000000000000001 by omega) e1000, hb, by omega, fun lw H1 b0 b1 d1 o1 => ⟨_, _, rfl, rfl, ?_⟩⟩
    refine ⟨_, rfl, p, 4, n + 1, rfl, by decide, by decide +kernel, d1.bag, by omega, fun kind H2 a0 a1 d2 o2 => ⟨_, _, rfl, ?_⟩⟩
    have dA : Drew p H H2 (n + 2) := d1.then d2
    refine ⟨_, rfl, _, rfl, _, rfl, _, _, rfl, rfl, .inl ⟨by decide, by decide⟩, _, _, rfl, rfl, _, rfl, _, _, rfl, rfl, ⟨by decide, by decide⟩, _, _, rfl, rfl, by show 4 ≤ sizeLine; decide, fun l5 nl5 => ?_⟩
    have c5 := same_new (o := .lst [.int far, .int far, .int (2 * far + 1), .int (1 + far / 4)]) nl5
    obtain ⟨fl, hfl, fl1, fl2⟩ : ∃ fl : Int, atI [V.int far, .int far, .int (2 * far + 1), .int (1 + far / 4)] kind = some (.int fl) ∧ 1 ≤ fl ∧ fl ≤ 2 * far + 1 := by
      have : kind = 0 ∨ kind = 1 ∨ kind = 2 ∨ kind = 3 := by omega
      rcases this with rfl | rfl | rfl | rfl
      · exact ⟨far, rfl, by omega, by omega⟩
      · exact ⟨far, rfl, by omega, by omega⟩
      · exact ⟨2 * far + 1, rfl, by omega, by omega⟩
      · exact ⟨1 + far / 4, rfl, by omega, by omega⟩
    refine ⟨_, rfl, l5, _, kind, .int fl, rfl, rfl, SqL.of upd_same, hfl, ?_⟩
    have dC := dA.new c5
    generalize upd H2 l5 (.lst [.int far, .int far, .int (2 * far + 1), .int (1 + far / 4)]) = H4 at dC ⊢
    refine ⟨by show 0 ≤ sizeLine; decide, fun g ng => ⟨_, _, rfl, ?_⟩⟩
    have gp := dC.list_ne ng
    have gH := dC.free ng
    have dC2 := dC.new (same_new (o := .lst []) ng)
    have hg5 : (upd H4 g (.lst [])) g = some (.lst []) := upd_same
    generalize upd H4 g (.lst []) = H4 at dC2 hg5 ⊢
    refine ⟨_, rfl, _, rfl, by show 5 ≤ sizeLine; decide, fun l6 nl6 => ?_⟩
    have c6 := same_new (o := .lst [.int 1, .int 2, .int 3, .int (many : Nat), .int (many : Nat)]) nl6
    have dD := dC2.new c6
    have hg6 := c6 _ _ hg5
    have l6p := dC2.list_ne nl6
    have g6 : (upd H4 l6 (.lst [.int 1, .int 2, .int 3, .int (many : Nat), .int (many : Nat)])) l6 = some (.lst [.int 1, .int 2, .int 3, .int (many : Nat), .int (many : Nat)]) := upd_same
    generalize upd H4 l6 (.lst [.int 1, .int 2, .int 3, .int (many : Nat), .int (many : Nat)]) = H5 at dD hg6 g6 ⊢
    refine ⟨_, rfl, p, 5, n + 2, rfl, by decide, by decide +kernel, dD.bag, by omega, fun r H6 r0 r1 d6 o6 => ?_⟩
    obtain ⟨m, hm, mm1, mm2⟩ : ∃ m : Nat, atI [V.int 1, .int 2, .int 3, .int (many : Nat), .int (many : Nat)] r = some (.int (m : Nat)) ∧ 1 ≤ m ∧ m ≤ 10 := by
      have : r = 0 ∨ r = 1 ∨ r = 2 ∨ r = 3 ∨ r = 4 := by omega
      rcases this with rfl | rfl | rfl | rfl | rfl
      · exact ⟨1, rfl, by omega, by omega⟩
      · exact ⟨2, rfl, by omega, by omega⟩
      · exact ⟨3, rfl, by omega, by omega⟩
      · exact ⟨many, rfl, by omega, by omega⟩
      · exact ⟨many, rfl, by omega, by omega⟩
    have dE : Drew p H H6 (n + 3) := dD.then d6
    have hg7 : H6 g = some (.lst []) := by rw [o6 g gp]; exact hg6
    refine ⟨l6, _, r, .int (m : Nat), rfl, rfl, SqL.of (by rw [o6 l6 l6p]; exact g6), hm, ?_⟩
    refine ⟨m, rfl, by omega, by omega, ?_⟩
    refine for_range (lo := 0) (fun i σ H' => ∃ (ks : Pts) (y8 : Option V), σ = [some (.ref p), some (.int far), some (.int most), some (.int (many : Nat)), some (.int (1 + lw)), some (.int kind), some (.int fl), some (.ref g), y8, none, none, none] ∧ Drew p H H' (n + 3 + 2 * i) ∧ H' g = some (.lst (refs ks)) ∧ At K H' ks ∧ (∀ q ∈ ks, Cor q.2) ∧ ks.length = i) ?_ ?_ ?_
    · exact ⟨[], _, rfl, dE, hg7, fun q hq => (nomatch hq), fun q hq => (nomatch hq), rfl⟩
    · rintro i σ H' hi ⟨ks, y8, rfl, dr, hg, hT, hC, lk⟩
      have hi2 : i < 10 := by omega
      refine ⟨.ref g, rfl, .inl ⟨rfl, _, SqL.of hg⟩, ?_⟩
      refine ⟨_, rfl, _, rfl, _, _, rfl, rfl, .inl ⟨by decide, by decide⟩, _, _, rfl, rfl, p, 2 * far + 1, _, rfl, by omega, Int.lt_trans (show 2 * far + 1 < 3000000000000000000000000000001 by omega) e1000, dr.bag, by omega, fun x H7 x0 x1 d7 o7 => ?_⟩
      refine ⟨_, rfl, _, _, rfl, rfl, ?_⟩
      refine ⟨_, rfl, _, rfl, p, fl, _, rfl, by omega, Int.lt_trans (show fl < 3000000000000000000000000000001 by omega) e1000, d7.bag, by omega, fun y H8 y0 y1 d8 o8 => ?_⟩
      refine ⟨_, rfl, _, _, rfl, rfl, ⟨by decide, by decide⟩, _, _, rfl, rfl, ?_⟩
      have g8 : H8 g = some (.lst (refs ks)) := by rw [o8 g gp, o7 g gp]; exact hg
      have T8 : At K H8 ks := At.drew (At.drew hT dr.bag d7) d7.bag d8
      have dr8 : Drew p H H8 (n + 3 + 2 * i + 2) := dr.then (d7.then d8)
      refine ⟨by show 2 ≤ sizeLine; decide, fun t nt => ?_⟩
      obtain ⟨q', eq'⟩ : ∃ q' : Hull.P, q' = (x - far, y - fl / 2) := ⟨_, rfl⟩
      have hq' : Cor q' := by
        unfold Cor
        rw [e30, eq']
        simp only
        omega
      have eT : HO.tup [V.int (x - far), .int (y - fl / 2)] = .tup [.int q'.1, .int q'.2] := by rw [eq']
      rw [eT]
      have g9 : (upd H8 t (.tup [.int q'.1, .int q'.2])) g = some (.lst (refs ks)) := (same_new nt) _ _ g8
      have tg : t ≠ g := fun z => by
        rw [z, g8] at nt
        cases nt
      have s9 := same_new (o := .tup [.int q'.1, .int q'.2]) nt
      have T9 := T8.same s9
      refine ⟨g, refs ks, .ref t, rfl, rfl, g9, by rw [refs_len]; exact Nat.lt_of_lt_of_le (show ks.length < 21 by omega) (by decide), ?_⟩
      refine ⟨ks ++ [(t, q')], _, rfl, ⟨fun b o bn e => ?_, ?_⟩, ?_, fun q hq => ?_, fun q hq => ?_, ?_⟩
      · rw [upd_ne (ne_of_none e gH)]
        exact (dr8.new s9).x b o bn e
      · obtain ⟨d0, m0, c0, e0, r0⟩ := ((dr8.new s9).bag.more (show n + 3 + 2 * i + 2 ≤ n + 3 + 2 * (i + 1) by omega))
        exact ⟨d0, m0, c0, (upd_ne (Ne.symm gp)).trans e0, r0⟩
      · rw [upd_same]
        simp [refs]
      · rcases List.mem_append.mp hq with z | z
        · exact L2.SqT.put (T9 q z) g9 SameX.put
        · rw [List.mem_singleton.mp z]
          refine SqT.of ?_
          rw [upd_ne tg]
          exact upd_same
      · rcases List.mem_append.mp hq with z | z
        · exact hC q z
        · rw [List.mem_singleton.mp z]
          exact hq'
      · rw [List.length_append, List.length_singleton, lk]
    rintro σ H7 ⟨ks, y8, rfl, dr, hg, hT, hC, lk⟩
    rw [show ((m : Nat) : Int).toNat = m from Int.toNat_natCast m] at dr lk
    refine ⟨_, rfl, g, ks, rfl, SqL.of hg, hT, fun x hx => (hC x hx).sm, by omega, fun H8 c hs s s8 nc hc sub asc mem e2 => ?_⟩
    have cp := dr.list_ne nc
    have dF := dr.new s8
    have la : 1 ≤ s.length := by
      obtain ⟨x, hx⟩ : ∃ x, x ∈ ks := List.exists_mem_of_length_pos (by omega)
      exact List.length_pos_of_mem ((mem x.2).mpr (List.mem_map.mpr ⟨x, hx, rfl⟩))
    obtain ⟨shp, lh1, hsub⟩ := shape_hul asc la
    have lz2 : hs.length ≤ 10 := by
      have := hul_len asc la (fun x hx => (mem x).mp hx)
      rw [← e2, List.length_map, List.length_map] at this
      omega
    rw [← e2] at shp lh1
    rw [List.length_map] at lh1
    have shp' := shp
    have lz1 := lh1
    have co' : ∀ x ∈ hs, Cor x.2 := fun x hx => hC x (sub x hx)
    have cp' := cp
    have hc' := hc
    have dG : Drew p H H8 (n + 23) := ⟨dF.x, dF.bag.more (by omega)⟩
    have T' : At K H8 hs := (hT.same s8).sub sub
    refine ⟨.ref c, rfl, c, _, rfl, .inl (SqL.of hc'), _, rfl, by rw [refs_len]; omega, by rw [refs_len]; omega, fun D nD => ?_⟩
    rw [refs_len]
    have Dp := dG.list_ne nD
    have DH := dG.free nD
    have Dc : D ≠ c := fun z => by rw [z, hc'] at nD; cases nD
    refine lc_range (lo := 0) (n := ((hs.length : Nat) : Int).toNat) (fun j H' => ∃ os : List Int, Drew p H H' (n + 23 + j) ∧ H' D = some (.lst (os.map V.int)) ∧ H' c = some (.lst (refs hs)) ∧ At K H' hs ∧ os.Pairwise (· < ·) ∧ (∀ o ∈ os, 0 ≤ o ∧ o < j) ∧ os.length ≤ j) ⟨[], (dG.new (same_new nD)), upd_same, (same_new nD) _ _ hc', T'.same (same_new nD), List.Pairwise.nil, (fun o ho => nomatch ho), Nat.le_refl _⟩ ?_ ?_
    · rintro j H5 hj ⟨os, d5, hD, hc5, T5, up, inn, lo⟩
      have hj2 : j < 10 := by omega
      refine ⟨rfl, _, rfl, p, 2, _, rfl, by decide, by decide +kernel, d5.bag, by omega, fun r H6 r0 r1 d6 o6 => ⟨rfl, _, rfl, ?_⟩⟩
      have hD6 : H6 D = some (.lst (os.map V.int)) := by rw [o6 D Dp]; exact hD
      have hc6 : H6 c = some (.lst (refs hs)) := by rw [o6 c cp']; exact hc5
      have T6 := At.drew T5 d5.bag d6
      have d7 := d5.then d6
      refine ite2 (fun _ => ?_) (fun _ => ?_)
      · refine ⟨_, rfl, _, hD6, by rw [List.length_map]; exact Nat.lt_of_lt_of_le (show os.length < 11 by omega) (by decide), os ++ [(j : Int)], ?_, ?_, (upd_ne (Ne.symm Dc)).trans hc6, At.put T6 hD6 SameX.put, ?_, fun o ho => ?_, by rw [List.length_append]; simpa using lo⟩
        · exact (d7.put DH Dp) |> fun d => ⟨d.x, d.bag.more (by omega)⟩
        · rw [upd_same, List.map_append, Int.zero_add]
          rfl
        · rw [List.pairwise_append]
          refine ⟨up, List.pairwise_singleton _ _, fun x hx y hy => ?_⟩
          rw [List.mem_singleton.mp hy]
          exact (inn x hx).2
        · rcases List.mem_append.mp ho with z | z
          · have := inn o z
            omega
          · rw [List.mem_singleton.mp z]
            omega
      · exact ⟨os, ⟨d7.x, d7.bag.more (by omega)⟩, hD6, hc6, T6, up, fun o ho => (by have := inn o ho; omega), by omega⟩
    rintro H5 ⟨os, d5, hD, hc5, T5, up, inn, lo⟩
    have ez : ((hs.length : Nat) : Int).toNat = hs.length := Int.toNat_natCast _
    rw [ez] at d5 inn lo
    refine ⟨by show 0 ≤ sizeLine; decide, fun e0 ne0 => ?_⟩
    have k1 := same_new (o := .lst []) ne0
    have ge : (upd H5 e0 (.lst [])) e0 = some (.lst []) := upd_same
    have e0p := d5.list_ne ne0
    have d6 := d5.new k1
    generalize upd H5 e0 (.lst []) = H6 at k1 ge d6 ⊢
    refine ⟨.ref c, rfl, c, _, rfl, .inl (SqL.of (k1 _ _ hc5)), _, rfl, RgOk.of_le (by decide) (by rw [refs_len]; omega) (by decide) (by rw [refs_len]; omega), fun o no => ?_⟩
    rw [refs_len, rgV_rI]
    have k2 := same_new (o := .lst ((Fen.rI hs.length).map V.int)) no
    have go : (upd H6 o (.lst ((Fen.rI hs.length).map V.int))) o = some (.lst ((Fen.rI hs.length).map V.int)) := upd_same
    have op := d6.list_ne no
    have d7 := d6.new k2
    generalize upd H6 o (.lst ((Fen.rI hs.length).map V.int)) = H7' at k2 go d7 ⊢
    refine ⟨_, rfl, by show 3 ≤ sizeLine; decide, fun l3 nl3 => ?_⟩
    have k3 := same_new (o := .lst [.ref e0, .ref o, .ref D]) nl3
    have gl : (upd H7' l3 (.lst [.ref e0, .ref o, .ref D])) l3 = some (.lst [.ref e0, .ref o, .ref D]) := upd_same
    have l3p := d7.list_ne nl3
    have d8 := d7.new k3
    generalize upd H7' l3 (.lst [.ref e0, .ref o, .ref D]) = H8' at k3 gl d8 ⊢
    refine ⟨_, rfl, p, 3, _, rfl, by decide, by decide +kernel, d8.bag, by omega, fun r H9' r0 r1 dX oX => ?_⟩
    have keep : ∀ {a : Addr} {u : HO}, a ≠ p → H8' a = some u → H9' a = some u := fun {a u} na e => by rw [oX a na]; exact e
    have kk := (k1.trans k2).trans k3
    obtain ⟨oo, os', hr', goo, oop, up', inn'⟩ : ∃ (oo : Addr) (os' : List Int), atI [V.ref e0, .ref o, .ref D] r = some (.ref oo) ∧ H9' oo = some (.lst (os'.map V.int)) ∧ oo ≠ p ∧ os'.Pairwise (· < ·) ∧ ∀ x ∈ os', 0 ≤ x ∧ x < hs.length := by
      have : r = 0 ∨ r = 1 ∨ r = 2 := by omega
      rcases this with rfl | rfl | rfl
      · exact ⟨e0, [], rfl, keep e0p ((k2.trans k3) _ _ ge), e0p, List.Pairwise.nil, fun x hx => nomatch hx⟩
      · exact ⟨o, Fen.rI hs.length, rfl, keep op (k3 _ _ go), op, rI_up _, fun x hx => rI_in hx⟩
      · exact ⟨D, os, rfl, keep Dp (kk _ _ hD), Dp, up, inn⟩
    refine ⟨l3, _, r, .ref oo, rfl, rfl, SqL.of (keep l3p gl), hr', ?_⟩
    have hcX : H9' c = some (.lst (refs hs)) := keep cp' (kk _ _ hc5)
    have TX : At K H9' hs := At.drew (T5.same kk) d8.bag dX
    have dY : Drew p H H9' (n + 34) := d8.then dX |> fun d => ⟨d.x, d.bag.more (by omega)⟩
    have eT : tot (hs.map (·.2)) = if hs.length = 1 then 0 else hs.length := by
      unfold tot
      rw [List.length_map]
    have isf : ∀ os : List Int, os.Pairwise (· < ·) → (∀ o ∈ os, 0 ≤ o ∧ o < tot (hs.map (·.2))) → IsF (1 + lw) (hs.map (·.2)) os := fun os u1 u2 => ⟨by omega, by omega, by rw [List.length_map]; exact lz1, by rw [List.length_map]; exact lz2, fun x hx => by
      obtain ⟨y, hy, rfl⟩ := List.mem_map.mp hx
      exact co' y hy, shp', u1, u2⟩
    refine ⟨_, rfl, .ref c, rfl, .ref c, rfl, c, _, rfl, .inl (SqL.of hcX), _, _, rfl, rfl, _, rfl, ?_⟩
    rw [refs_len]
    by_cases l1 : 1 < hs.length
    · rw [decide_eq_true (show (1 : Int) < (hs.length : Nat) by omega)]
      refine (if_pos rfl).mpr ⟨.ref oo, rfl, by show 3 ≤ sizeLine; decide, fun t nt => ?_⟩
      have sT := same_new (o := .tup [.int (1 + lw), .ref c, .ref oo]) nt
      have dT := dY.new sT
      exact q _ t c oo (1 + lw) hs os' ⟨dT.x, dT.bag.more (by omega)⟩ (dY.free nt) cp' oop ⟨upd_same, sT _ _ hcX, TX.same sT, sT _ _ goo⟩ (isf os' up' fun x hx => by rw [eT, if_neg (by omega)]; exact inn' x hx)
    · rw [decide_eq_false (show ¬ (1 : Int) < (hs.length : Nat) by omega)]
      refine (if_neg (by decide)).mpr ⟨by show 0 ≤ sizeLine; decide, fun eo neo => ⟨by show 3 ≤ sizeLine; decide, fun t nt => ?_⟩⟩
      have sT := (same_new (o := .lst []) neo).trans (same_new (o := .tup [.int (1 + lw), .ref c, .ref eo]) nt)
      have dT := dY.new sT
      exact q _ t c eo (1 + lw) hs [] ⟨dT.x, dT.bag.more (by omega)⟩ ((dY.new (same_new neo)).free nt) cp' (dY.list_ne neo) ⟨upd_same, sT _ _ hcX, TX.same sT, (same_new nt) _ _ upd_same⟩ (isf [] List.Pairwise.nil fun x hx => nomatch hx)
end
end K38
set_option Elab.async false
set_option linter.all false
set_option maxRecDepth 100000
set_option maxHeartbeats 1000000
set_option exponentiation.threshold 20000
namespace K38
open PySem PySem.Spec PyProof.Rows L2 Fen
abbrev sWay : Stmt := topS 38
abbrev sVls : Stmt := topS 39
theorem scWay : FnScope ["_law_stock_here", "_law_far", "_law_bound", "_law_found"] ["_law_stock_here", "_law_far"] (defScope sWay) := ⟨rfl, rfl, rfl, by decide +kernel, rfl, by decide +kernel, by decide +kernel⟩
abbrev nVls : List Str := ["_law_plot", "_law_way_here", "_law_one"]
theorem scVls : FnScope nVls ["_law_plot", "_law_way_here"] (defScope sVls) := ⟨rfl, rfl, rfl, by decide +kernel, rfl, by decide +kernel, by decide +kernel⟩
theorem FAt.drew {K : PySem.W.Frag} {H H' : Hp} {t c o p : Addr} {b : Int} {ks : Pts} {os : List Int} {n m : Nat} (f : FAt K H t c o b ks os) (hb : BagAt H p n) (d : Drew p H H' m) (cp : c ≠ p) (op : o ≠ p) : FAt K H' t c o b ks os := by
  obtain ⟨_, _, _, e, _⟩ := hb
  exact FAt.upd f e d.x cp op
theorem SqT.drew {K : PySem.W.Frag} {H H' : Hp} {a p : Addr} {xs : List V} {n m : Nat} (f : SqT K H a xs) (hb : BagAt H p n) (d : Drew p H H' m) : SqT K H' a xs := by
  obtain ⟨_, _, _, e, _⟩ := hb
  exact L2.SqT.put f e d.x
section
variable {P : Program} {w : World} {K : PySem.W.Frag} {mg : Str → Option Value} {base : Heap}
def spWay (K : PySem.W.Frag) : Sp := fun vs H Q _ => ∃ (p : Addr) (far : Int) (n : Nat), vs = [.ref p, .int far] ∧ BagAt H p n ∧ n + 100 ≤ 1000000 ∧ 1 ≤ far ∧ far ≤ 10 ^ 40 ∧
  ∀ H' a (d : Hull.P), Drew p H H' (n + 3) → SqT K H' a [.int d.1, .int d.2] → d ≠ (0, 0) → d.1.natAbs ≤ 10 ^ 40 → d.2.natAbs ≤ 10 ^ 40 → Q (.ref a) H'
theorem ok_way {f fD : Addr} {fd fdD : FuncData} {k : Nat} (F : Fun K "_law_way" "_law_way" sWay f fd) (CD : Cal P w K mg base (k + 1) "_law_draw" fD fdD ["_law_stock_here", "_law_wide"] spDrw) :
    FnOk P w K mg base CX0 (k + 1 + 1) f fd ["_law_stock_here", "_law_far"] (spWay K) := by
  refine F.ok scWay (fun vs H Q E h => ?_) (fun cdv A outer s H vs Q E hr h => ?_)
  · obtain ⟨p, far, n, rfl, _⟩ := h
    rfl
  · obtain ⟨p, far, n, rfl, hb, hn, f1, f2, q⟩ := h
    refine ⟨_, pss_cons (ps_set (i := 2) scWay.nd rfl (.inl rfl) (pe_ix ix_list (pe_lst (pa_cons pe_int (pa_cons pe_int (pa_cons pe_int (pa_cons (pv 1) pa_nil))))) (pe_cal CD hr (pa_cons (pv 0) (pa_cons pe_int pa_nil))) (fun _ _ => rfl)))
      (pss_cons (ps_set (i := 3) scWay.nd rfl (.inl rfl) (pe_tup (pa_cons (pe_op op_sub (pe_cal CD hr (pa_cons (pv 0) (pa_cons (pe_op op_add (pe_op op_mul pe_int (pv 2)) pe_int) pa_nil))) (pv 2)) (pa_cons (pe_op op_sub (pe_cal CD hr (pa_cons (pv 0) (pa_cons (pe_op op_add (pe_op op_mul pe_int (pv 2)) pe_int) pa_nil))) (pv 2)) pa_nil))))
      (pss_one (ps_ret (pe_ifExp (pt_cmpR (op_neD (hu_of64 hr)) (pv 3) (pe_tup (pa_cons pe_int (pa_cons pe_int pa_nil))) (nomark _)) (pv 3) (pe_tup (pa_cons (pv 2) (pa_cons pe_int pa_nil))))))), ?_⟩
    have e40 : (10 : Int) ^ 40 = 10000000000000000000000000000000000000000 := by decide
    have e40n : (10 : Nat) ^ 40 = 10000000000000000000000000000000000000000 := by decide
    rw [e40] at f2
    have e1000 : (30000000000000000000000000000000000000000 : Int) < 2 ^ 1000 := by decide +kernel
    refine ⟨_, rfl, by show 4 ≤ sizeLine; decide, fun l nl => ?_⟩
    have lp := hb.ne nl
    have sl := same_new (o := .lst [.int 2, .int 6, .int 40, .int far]) nl
    have gl : (upd H l (.lst [.int 2, .int 6, .int 40, .int far])) l = some (.lst [.int 2, .int 6, .int 40, .int far]) := upd_same
    have d0 : Drew p H (upd H l (.lst [.int 2, .int 6, .int 40, .int far])) n := Drew.of hb sl
    generalize upd H l (.lst [.int 2, .int 6, .int 40, .int far]) = H0 at gl d0 ⊢
    refine ⟨_, rfl, p, 4, n, rfl, by decide, by decide +kernel, d0.bag, by omega, fun r H1 r0 r1 d1 o1 => ?_⟩
    obtain ⟨bd, hbd, b1, b2⟩ : ∃ bd : Int, atI [V.int 2, .int 6, .int 40, .int far] r = some (.int bd) ∧ 1 ≤ bd ∧ bd ≤ 10000000000000000000000000000000000000000 := by
      have : r = 0 ∨ r = 1 ∨ r = 2 ∨ r = 3 := by omega
      rcases this with rfl | rfl | rfl | rfl
      · exact ⟨2, rfl, by omega, by omega⟩
      · exact ⟨6, rfl, by omega, by omega⟩
      · exact ⟨40, rfl, by omega, by omega⟩
      · exact ⟨far, rfl, by omega, by omega⟩
    refine ⟨l, _, r, .int bd, rfl, rfl, SqL.of (by rw [o1 l lp]; exact gl), hbd, ?_⟩
    refine ⟨_, rfl, _, rfl, _, _, rfl, rfl, .inl ⟨by decide, by decide⟩, _, _, rfl, rfl, p, 2 * bd + 1, _, rfl, by omega, Int.lt_trans (show 2 * bd + 1 < 30000000000000000000000000000000000000000 by omega) e1000, d1.bag, by omega, fun x H2 x0 x1 d2 o2 => ?_⟩
    refine ⟨_, rfl, _, _, rfl, rfl, ?_⟩
    refine ⟨_, rfl, _, rfl, _, _, rfl, rfl, .inl ⟨by decide, by decide⟩, _, _, rfl, rfl, p, 2 * bd + 1, _, rfl, by omega, Int.lt_trans (show 2 * bd + 1 < 30000000000000000000000000000000000000000 by omega) e1000, d2.bag, by omega, fun y H3 y0 y1 d3 o3 => ?_⟩
    refine ⟨_, rfl, _, _, rfl, rfl, by show 2 ≤ sizeLine; decide, fun t nt => ?_⟩
    have st := same_new (o := .tup [.int (x - bd), .int (y - bd)]) nt
    have gt : (upd H3 t (.tup [.int (x - bd), .int (y - bd)])) t = some (.tup [.int (x - bd), .int (y - bd)]) := upd_same
    have d4 : Drew p H (upd H3 t (.tup [.int (x - bd), .int (y - bd)])) (n + 3) := (d0.then (d1.then (d2.then d3))).new st
    generalize upd H3 t (.tup [.int (x - bd), .int (y - bd)]) = H4 at gt d4 ⊢
    refine ⟨.ref t, rfl, by show 2 ≤ sizeLine; decide, fun z nz => ?_⟩
    have sz := same_new (o := .tup [.int 0, .int 0]) nz
    refine ⟨_, _, dp_pt (p := (x - bd, y - bd)) (SqT.of (sz _ _ gt)), dp_pt (p := (0, 0)) (SqT.of upd_same), shaped_pt _, shaped_pt (0, 0), _, rfl, ite2 (fun e2 => ?_) (fun e2 => ?_)⟩
    · refine ⟨_, rfl, q _ t (x - bd, y - bd) (d4.new sz) (SqT.of (sz _ _ gt)) (fun ez => ?_) ?_ ?_⟩
      · rw [ez, eqv_self (shaped_pt (0, 0))] at e2
        exact absurd e2 (by decide)
      · show (x - bd).natAbs ≤ _
        omega
      · show (y - bd).natAbs ≤ _
        omega
    · refine ⟨_, rfl, by show 2 ≤ sizeLine; decide, fun u nu => ?_⟩
      have su := sz.trans (same_new (o := .tup [.int bd, .int 0]) nu)
      refine q _ u (bd, 0) (d4.new su) (SqT.of upd_same) (fun ez => ?_) ?_ ?_
      · have := congrArg Prod.fst ez
        simp only at this
        omega
      · show bd.natAbs ≤ _
        omega
      · show (0 : Int).natAbs ≤ _
        decide
theorem ds_of {d : Hull.P} (h1 : d.1.natAbs ≤ 10 ^ 40) (h2 : d.2.natAbs ≤ 10 ^ 40) : Ds d := ⟨Nat.lt_of_le_of_lt h1 (by decide), Nat.lt_of_le_of_lt h2 (by decide)⟩
def spVls (K : PySem.W.Frag) : Sp := fun vs H Q _ => ∃ (t c o a : Addr) (b : Int) (ks : Pts) (os : List Int) (d : Hull.P), vs = [.ref t, .ref a] ∧ FAt K H t c o b ks os ∧ IsF b (ks.map (·.2)) os ∧ SqT K H a [.int d.1, .int d.2] ∧ Ds d ∧
  ∀ H' x, Same H H' → H x = none → H' x = some (.lst ((valL d (ks.map (·.2))).map V.int)) → Q (.ref x) H'
theorem ok_vls {f : Addr} {fd : FuncData} {k : Nat} (F : Fun K "_law_values" "_law_values" sVls f fd) : FnOk P w K mg base CX0 (k + 1) f fd ["_law_plot", "_law_way_here"] (spVls K) := by
  refine F.ok scVls (fun vs H Q E h => ?_) (fun cdv A outer s H vs Q E hr h => ?_)
  · obtain ⟨t, c, o, a, b, ks, os, d, rfl, _⟩ := h
    rfl
  · obtain ⟨t, c, o, a, b, ks, os, d, rfl, fa, isf, ha, hd, q⟩ := h
    have l1 := isf.l1
    have l2 := isf.l2
    rw [List.length_map] at l1 l2
    refine ⟨_, pss_one (ps_ret (pe_lc (own := [("_law_one", 2)]) (g := gName 2) (tt := tYes) (te := tOp (rI0 fun i j => .int (i + j)) (tOp (rI CMulW fun i j => .int (i * j)) (tOp (rIxT K) (tVar 1) (tC (.int 0))) (tOp (rIxT K) (tVar 2) (tC (.int 0)))) (tOp (rI CMulW fun i j => .int (i * j)) (tOp (rIxT K) (tVar 1) (tC (.int 1))) (tOp (rIxT K) (tVar 2) (tC (.int 1))))) rfl scVls.nd (pi_list (pe_ix ix_tup (pv 0) pe_int (fun _ _ => rfl))) (blkOk_by (N := nVls) (sc := defScope sVls) (by decide +kernel)) (fun _ _ _ _ _ => pg_name (i := 2) scVls.nd rfl (Or.inl rfl)) (fun _ _ _ _ _ => pts_nil)
      (fun _ _ _ _ _ => pe_op op_add (pe_op op_mulW (pe_ix ix_tup (pv 1) pe_int (fun _ _ => rfl)) (pe_ix ix_tup (pv 2) pe_int (fun _ _ => rfl))) (pe_op op_mulW (pe_ix ix_tup (pv 1) pe_int (fun _ _ => rfl)) (pe_ix ix_tup (pv 2) pe_int (fun _ _ => rfl)))))), ?_⟩
    refine ⟨.ref t, rfl, t, _, 1, .ref c, rfl, rfl, fa.tup, atI_nat (j := 1) rfl, c, rfl, ⟨_, fa.cor⟩, fun D nD => ?_⟩
    refine lc_list (K := K) (a := c) (xs := refs ks) (fun j H' => Same H H' ∧ H' D = some (.lst ((valL d ((ks.map (·.2)).take j)).map V.int))) ⟨same_new nD, upd_same⟩ (fun j H' _ z => z.1.seq fa.cor) ?_ ?_
    · rintro j v H9 hv ⟨s9, hD⟩
      obtain ⟨z, hz, rfl⟩ := refs_get hv
      have mz := List.mem_of_getElem? hz
      have lj := (List.getElem?_eq_some_iff.mp hz).1
      obtain ⟨p1, p2⟩ := cor_small (isf.co z.2 (List.mem_map.mpr ⟨z, mz, rfl⟩))
      have tz := (fa.pts.same s9) z mz
      have td := s9.seqT ha
      refine ⟨rfl, yesT ?_⟩
      refine ⟨.ref a, rfl, a, _, 0, .int d.1, rfl, rfl, td, atI_nat (j := 0) rfl, .ref z.1, rfl, z.1, _, 0, .int z.2.1, rfl, rfl, tz, atI_nat (j := 0) rfl, _, _, rfl, rfl, wide_mul hd.1 p1 (by decide) (by decide) (by decide),
        .ref a, rfl, a, _, 1, .int d.2, rfl, rfl, td, atI_nat (j := 1) rfl, .ref z.1, rfl, z.1, _, 1, .int z.2.2, rfl, rfl, tz, atI_nat (j := 1) rfl, _, _, rfl, rfl, wide_mul hd.2 p2 (by decide) (by decide) (by decide), _, _, rfl, rfl, ?_⟩
      refine ⟨_, hD, ?_, fun a u e => ?_, ?_⟩
      · rw [List.length_map, valL, List.length_map, List.length_take]
        exact Nat.lt_of_lt_of_le (show min j (ks.map (·.2)).length < 11 by rw [List.length_map]; omega) (by decide)
      · rw [upd_ne (fun w => by rw [w, nD] at e; cases e)]
        exact s9 a u e
      · rw [upd_same, take_succ_at (show (ks.map (·.2))[j]? = some z.2 by rw [List.getElem?_map, hz]; rfl)]
        unfold valL
        rw [List.map_append, List.map_append]
        rfl
    · rintro H9 ⟨s9, hD⟩
      rw [refs_len, show (ks.map (·.2)).take ks.length = ks.map (·.2) from List.take_of_length_le (by rw [List.length_map]; exact Nat.le_refl _)] at hD
      exact q _ D s9 nD hD
end
end K38
set_option Elab.async false
set_option linter.all false
set_option maxRecDepth 100000
set_option maxHeartbeats 1000000
set_option exponentiation.threshold 20000
namespace L2
open PySem PySem.Spec PyProof.Rows
/-- three parameters, given by their names, the last one first -/
def KwRev (K : PySem.W.Frag) (fd : FuncData) (a b c : Str) : Prop := ∀ (s : Shared) (u v z : Value), K.In s.heap → BindsTo s fd ⟨[], [(c, u), (b, v), (a, z)]⟩ [(a, z), (b, v), (c, u)]
def tCallR (sp : Sp) (t : TA) : TE := fun σ H Q => t σ H fun vs H1 => ∃ u v z, vs = [u, v, z] ∧ sp [z, v, u] H1 Q E0
section
variable {X : Cx} {k : Nat} {f : Addr} {fd : FuncData} {a b c : Str} {sp : Sp} {x : Str} {p pos k1 k2 k3 : Pos} {e1 e2 e3 : Expr} {t1 t2 t3 : TE}
/-- f(c=e1, b=e2, a=e3), the parameters a, b, c -/
theorem pe_calR (C : Cal X.prog X.w X.K X.mg X.base k x f fd [a, b, c] sp) (hn : KwRev X.K fd a b c) (hr : Room k X.A) (h1 : PE X e1 t1) (h2 : PE X e2 t2) (h3 : PE X e3 t3) (hg : Gl X x := by rfl) (hdb : (x == ("__debug__" : Str)) = false := by decide) :
    PE X (.Call (.Name x p) [] [⟨some c, e1, k1⟩, ⟨some b, e2, k2⟩, ⟨some a, e3, k3⟩] pos) (tCallR sp (tCons t1 (tCons t2 (tCons t3 tNil)))) := by
  refine ⟨fun ps s σ H Q I h => ?_⟩
  refine wpAny_Call_Name_kw (ld_glob I hg C.mt ?_ hdb)
  have hall : (backToKw pos (keywordEach [⟨some c, e1, k1⟩, ⟨some b, e2, k2⟩, ⟨some a, e3, k3⟩] X.env)).all (·.1.isSome) = true := by rfl
  refine PySem.W.callWith_KW0 (h₀ := X.base) (env := X.env) (kws := [⟨some c, e1, k1⟩, ⟨some b, e2, k2⟩, ⟨some a, e3, k3⟩]) (pos := pos) I.ok.mod.kin C.kp hall ?_
  have hkw : PK X [⟨some c, e1, k1⟩, ⟨some b, e2, k2⟩, ⟨some a, e3, k3⟩] (tCons t1 (tCons t2 (tCons t3 tNil))) := pk_cons h1 (pk_cons h2 (pk_cons h3 pk_nil))
  refine thn (hkw.run pos ps s σ H (fun vs H1 => ∃ u v z, vs = [u, v, z] ∧ sp [z, v, u] H1 Q E0) I h) fun us s1 hh => ?_
  obtain ⟨_, H1, I1, r1, u, v, z, rfl, q1⟩ := hh
  refine ⟨I1.kIn, ?_⟩
  cases r1 with
  | cons ru r1 =>
    cases r1 with
    | cons rv r1 =>
      cases r1 with
      | cons rz r1 =>
        cases r1
        refine (show wpAny _ _ (call (.ref f) [] [(c, _), (b, _), (a, _)]) _ _ _ from ?_)
        refine wpAny_call (codeAny_mono (C.ok.run X.A X.stack s1 H1 ⟨[], _⟩ [_, _, _] [z, v, u] Q E0 hr I1.env0 (hn s1 _ _ _ I1.kIn) (.cons rz (.cons rv (.cons ru .nil))) q1) fun r s' hq => ?_)
        cases r with
        | error e => exact pass0 ps σ H1 s1 e s' I1 hq
        | ok fl =>
          cases fl with
          | ret u => exact I1.after hq
          | next => exact False.elim hq
          | brk => exact False.elim hq
          | cont => exact False.elim hq
end
end L2
set_option Elab.async false
set_option linter.all false
set_option maxRecDepth 100000
set_option maxHeartbeats 1000000
/-! for over range(i, j), whatever the size of the ints -/
namespace L2
open PySem PySem.Spec PyProof.Rows
theorem turn_long {P : Program} {w : World} {K : PySem.W.Frag} {tg : Expr} (it : Addr) (lo : Int) (n : Nat) : Turn P w K tg (Itr lo n) [it] it (fun i h => IsLongIter h it (lo + (i : Nat) * 1) ((n : Int) - (i : Nat)) 1) where
  mem := by simp
  obj := fun i h st b hb => by
    have e : b = it := by simpa using hb
    subst e
    exact ⟨_, st, fun v z => by
      have z' : Data.fields _ = Data.cell v := z
      cases z'⟩
  keep := fun i h h' st k => k it (by simp) _ st
  item := by
    intro X hP hw hK hc i pins s σ H E I hf st hg
    subst hP hw hK
    obtain ⟨f0, f1, f2, f3, f4, f5⟩ := hf it (by simp)
    have W := Walks.longrange (prog := X.prog) (w := X.w) (I.ok.hd hc) it lo 1 n
    refine W.item i s _ _ hg st fun v h' tk hv st' kk => ?_
    obtain ⟨t, rfl⟩ := hv
    have I1 : Inv X pins σ H { s with heap := h', toks := tk } := I.turned (fun b o hb e => kk b o (by simpa using hb) e) f0 f1 f3 f4 f5
    refine ⟨_, rfl, go_of (s := { s with heap := h', toks := tk }) (n := "longrange_iterator") st' rfl rfl (by decide) ⟨.int (lo + i), H, I1, ⟨t, ?_⟩, ⟨rfl, rfl⟩, st', fun b hb => (hf b hb).1⟩⟩
    rw [Int.mul_one]
  done := by
    intro X hP hw hK hc i pins s σ H E I hf st hg
    subst hP hw hK
    obtain ⟨f0, f1, f2, f3, f4, f5⟩ := hf it (by simp)
    exact wpAny_pyNext_long_end (I.ok.hd hc) st (by have : n ≤ i := hg; omega) fun h' eb => ⟨rfl, I.turned (t' := s.toks) (fun b o hb e => eb b o hb e) f0 f1 f3 f4 f5⟩
  self := fun _ _ _ _ _ st h => wpAny_pyIter_longiter st h
section
variable {X : Cx} {tg : Expr}
theorem range_itW {pins : List (Addr × Obj)} {σ : St} {H : Hp} {s : Shared} {R : It → Hp → Prop} {E : Value → Shared → Prop} {lo hi : Int} {t u v : Tok} {tk : Nat} (I : Inv X pins σ H s)
    (q : R (Itr lo (hi - lo).toNat) H) : wpAny (model X.prog X.w) X.A (pyIter (.ref s.heap.objs.size)) (PIE X pins σ tg R) E { s with heap := s.heap.push { cls := .type "range", data := .fields #[.int lo t, .int hi u, .int 1 v] }, toks := tk } := by
  have I1 : Inv X pins σ H { s with heap := s.heap.push { cls := .type "range", data := .fields #[.int lo t, .int hi u, .int 1 v] }, toks := tk } := I.kept fun b o e => Heap.get?_push_of_some _ e
  have e1 : lo + ((0 : Nat) : Int) * 1 = lo := by simp
  have e2 : (((hi - lo).toNat : Nat) : Int) - ((0 : Nat) : Int) = Builtin.Range.rangeSize lo hi 1 := by rw [rangeSize_one]; split <;> omega
  cases hs : Builtin.Range.small lo hi 1 with
  | true =>
    refine wpAny_pyIter_range (IsRange.new ..) hs ?_
    refine ⟨(s.heap.push { cls := .type "range", data := .fields #[.int lo t, .int hi u, .int 1 v] }).objs.size, [(s.heap.push { cls := .type "range", data := .fields #[.int lo t, .int hi u, .int 1 v] }).objs.size], _, _, H, rfl,
      I1.kept (t' := tk) fun b o e => Heap.get?_push_of_some _ e, turn_range _ lo (hi - lo).toNat, ?_, fun b hb => ?_, q⟩
    · show IsRangeIter _ _ (lo + ((0 : Nat) : Int) * 1) ((((hi - lo).toNat : Nat) : Int) - ((0 : Nat) : Int)) 1
      rw [e1, e2]
      exact Heap.get?_push_size _ rfl
    · have e : b = (s.heap.push { cls := .type "range", data := .fields #[.int lo t, .int hi u, .int 1 v] }).objs.size := by simpa using hb
      subst e
      exact I1.fpOk (Nat.le_refl _) (I1.hok.fresh (Nat.le_refl _))
  | false =>
    refine wpAny_pyIter_longrange (IsRange.new ..) hs ?_
    refine ⟨(s.heap.push { cls := .type "range", data := .fields #[.int lo t, .int hi u, .int 1 v] }).objs.size, [(s.heap.push { cls := .type "range", data := .fields #[.int lo t, .int hi u, .int 1 v] }).objs.size], _, _, H, rfl,
      I1.kept (t' := tk) fun b o e => Heap.get?_push_of_some _ e, turn_long _ lo (hi - lo).toNat, ?_, fun b hb => ?_, q⟩
    · show IsLongIter _ _ (lo + ((0 : Nat) : Int) * 1) ((((hi - lo).toNat : Nat) : Int) - ((0 : Nat) : Int)) 1
      rw [e1, e2]
      exact Heap.get?_push_size _ rfl
    · have e : b = (s.heap.push { cls := .type "range", data := .fields #[.int lo t, .int hi u, .int 1 v] }).objs.size := by simpa using hb
      subst e
      exact I1.fpOk (Nat.le_refl _) (I1.hok.fresh (Nat.le_refl _))
def iRng2W (ta : TA) : TI := fun σ H R => ta σ H fun vs H1 => ∃ i j : Int, vs = [.int i, .int j] ∧ R (Itr i (j - i).toNat) H1
theorem pi_range2W {a b : Expr} {ta : TA} {p pos : Pos} (hg : Gl X "range") (hm : X.mg "range" = none) (ha : PA X [a, b] ta) (hs : starEach [a, b] X.env = [(false, eval a X.env), (false, eval b X.env)] := by rfl) (hs2 : starEach [b] X.env = [(false, eval b X.env)] := by rfl) :
    PI X tg (.Call (.Name "range" p) [a, b] [] pos) (iRng2W ta) := by
  refine ⟨fun pins s σ H R I h => ?_⟩
  refine Call_ (ld_blt I hg hm boot_range (PyProof.Rows.callWith_type1 (thn (ha.run pos pins s σ H _ I h) fun us s1 ⟨vs, H1, I1, r1, q1⟩ => ?_) (by rw [hs, hs2]) (by rw [hs2]; rfl)))
  obtain ⟨i, j, e, q⟩ := q1
  subst e
  cases r1 with
  | cons r rr =>
    cases rr with
    | cons r' rr =>
      cases rr
      obtain ⟨t, rfl⟩ := r
      obtain ⟨t', rfl⟩ := r'
      exact call_range_2 (range_itW I1 q)
end
end L2
set_option Elab.async false
set_option linter.all false
set_option maxRecDepth 100000
set_option maxHeartbeats 1000000
set_option exponentiation.threshold 20000
namespace K38
open PySem PySem.Spec PyProof.Rows L2 Fen
abbrev sDue : Stmt := topS 40
abbrev sCtd : Stmt := topS 41
abbrev nDue : List Str := ["_law_plot", "_law_scale", "_law_way_here", "_law_rises", "_law_first", "_law_one"]
theorem scDue : FnScope nDue ["_law_plot", "_law_scale", "_law_way_here"] (defScope sDue) := ⟨rfl, rfl, rfl, by decide +kernel, rfl, by decide +kernel, by decide +kernel⟩
abbrev nCtd : List Str := ["_law_plot", "_law_scale", "_law_way_here", "_law_rises", "_law_found", "_law_k", "_law_one"]
theorem scCtd : FnScope nCtd ["_law_plot", "_law_scale", "_law_way_here"] (defScope sCtd) := ⟨rfl, rfl, rfl, by decide +kernel, rfl, by decide +kernel, by decide +kernel⟩
def sclL (n : Int) (ns : List Int) : List Int := ns.map (n * ·)
theorem Ends2.scale {ns : List Int} {n mn mx : Int} (h0 : 0 ≤ n) (h : Ends2 ns mn mx) : Ends2 (sclL n ns) (n * mn) (n * mx) := by
  obtain ⟨h1, h2, h3, h4⟩ := h
  refine ⟨List.mem_map.mpr ⟨mn, h1, rfl⟩, fun m hm => ?_, List.mem_map.mpr ⟨mx, h3, rfl⟩, fun m hm => ?_⟩
  · obtain ⟨z, hz, rfl⟩ := List.mem_map.mp hm
    exact Int.mul_le_mul_of_nonneg_left (h2 z hz) h0
  · obtain ⟨z, hz, rfl⟩ := List.mem_map.mp hm
    exact Int.mul_le_mul_of_nonneg_left (h4 z hz) h0
/-- there is a least and a greatest one -/
theorem ends_ex : ∀ {ns : List Int}, 0 < ns.length → ∃ mn mx, Ends2 ns mn mx
  | [], h => absurd h (by simp)
  | [a], _ => ⟨a, a, by simp, by simp, by simp, by simp⟩
  | a :: b :: r, _ => by
    obtain ⟨mn, mx, h1, h2, h3, h4⟩ := ends_ex (ns := b :: r) (by simp)
    refine ⟨if a ≤ mn then a else mn, if mx ≤ a then a else mx, ?_, fun m hm => ?_, ?_, fun m hm => ?_⟩
    · split
      · exact List.mem_cons_self
      · exact List.mem_cons_of_mem _ h1
    · rcases List.mem_cons.mp hm with rfl | z
      · split <;> omega
      · have := h2 m z
        split <;> omega
    · split
      · exact List.mem_cons_self
      · exact List.mem_cons_of_mem _ h3
    · rcases List.mem_cons.mp hm with rfl | z
      · split <;> omega
      · have := h4 m z
        split <;> omega
section
variable {P : Program} {w : World} {K : PySem.W.Frag} {mg : Str → Option Value} {base : Heap}
def spDue (K : PySem.W.Frag) : Sp := fun vs H Q _ => ∃ (t c o a : Addr) (b n : Int) (ks : Pts) (os : List Int) (d : Hull.P), vs = [.ref t, .int n, .ref a] ∧ FAt K H t c o b ks os ∧ IsF b (ks.map (·.2)) os ∧ 1 ≤ n ∧ n ≤ 10 ^ 30 ∧ SqT K H a [.int d.1, .int d.2] ∧ Ds d ∧
  ∀ H' mn mx, Same H H' → Ends2 (valL d (ks.map (·.2))) mn mx → Q (.int (lnN b n mn mx)) H'
/-- the values, grown, as a list -/
def tScl (K : PySem.W.Frag) : TE := fun σ H Q => ∃ (t c o a : Addr) (b n : Int) (ks : Pts) (os : List Int) (d : Hull.P), σ[0]? = some (some (.ref t)) ∧ σ[1]? = some (some (.int n)) ∧ σ[2]? = some (some (.ref a)) ∧ FAt K H t c o b ks os ∧ IsF b (ks.map (·.2)) os ∧ 1 ≤ n ∧ n ≤ 10 ^ 30 ∧ SqT K H a [.int d.1, .int d.2] ∧ Ds d ∧
  ∀ H' x, Same H H' → H x = none → H' x = some (.lst ((sclL n (valL d (ks.map (·.2)))).map V.int)) → Q (.ref x) H'
theorem ok_due {f fV : Addr} {fd fdV : FuncData} {k : Nat} (F : Fun K "_law_due" "_law_due" sDue f fd) (mmin : mg "min" = none) (mmax : mg "max" = none) (CV : Cal P w K mg base (k + 1) "_law_values" fV fdV ["_law_plot", "_law_way_here"] (spVls K)) : FnOk P w K mg base CX0 (k + 1 + 1) f fd ["_law_plot", "_law_scale", "_law_way_here"] (spDue K) := by
  refine F.ok scDue (fun vs H Q E h => ?_) (fun cdv A outer s H vs Q E hr h => ?_)
  · obtain ⟨t, c, o, a, b, n, ks, os, d, rfl, _⟩ := h
    rfl
  · obtain ⟨t, c, o, a, b, n, ks, os, d, rfl, fa, isf, n1, n2, ha, hd, q⟩ := h
    refine ⟨_, pss_cons (ps_setLc (i := 3) (own := [("_law_one", 5)]) (g := gName 5) (tt := tYes) (te := tOp (rI CMulW fun i j => .int (i * j)) (tVar 1) (tVar 5)) rfl scDue.nd rfl rfl (sw_true rfl rfl rfl (by decide +kernel)) (pi_list (pe_cal CV hr (pa_cons (pv 0) (pa_cons (pv 2) pa_nil)))) (blkOk_by (N := nDue) (sc := defScope sDue) (by decide +kernel)) (fun _ _ _ _ _ => pg_name (i := 5) scDue.nd rfl (Or.inl rfl)) (fun _ _ _ _ _ => pts_nil)
          (fun _ _ _ _ _ => pe_op op_mulW (pv 1) (pv 5)))
      (pss_cons (ps_set (i := 4) scDue.nd rfl (.inl rfl) (pe_un un_neg (pe_op op_fdivW (pe_un un_neg (pe_callB (cr_min rfl) (by rfl) mmin (by decide +kernel) (pa_cons (pv 3) pa_nil))) (pe_ix ix_tup (pv 0) pe_int (fun _ _ => rfl)))))
      (pss_one (ps_ret (pe_callB (call_max2 rfl) (by rfl) mmax (by decide +kernel) (pa_cons pe_int (pa_cons (pe_op op_add (pe_op op_sub (pe_op op_fdivW (pe_callB (cr_max rfl) (by rfl) mmax (by decide +kernel) (pa_cons (pv 3) pa_nil)) (pe_ix ix_tup (pv 0) pe_int (fun _ _ => rfl))) (pv 4)) pe_int) pa_nil)))))), ?_⟩
    have l1 := isf.l1
    have l2 := isf.l2
    rw [List.length_map] at l1 l2
    have nb := n_small n1 n2
    have b1 := isf.b1
    have b2 := isf.b2
    have bb : b.natAbs < 2 ^ 100 := Nat.lt_of_le_of_lt (show b.natAbs ≤ 30 by omega) (by decide)
    have wd : ∀ x : Int, CDivW x b := fun x => wide_div (by omega) bb (by decide) (by decide)
    have lv : (valL d (ks.map (·.2))).length = ks.length := by rw [valL, List.length_map, List.length_map]
    refine ⟨.ref t, rfl, .ref a, rfl, t, c, o, a, b, ks, os, d, rfl, fa, isf, ha, hd, fun H1 x s1 nx hx => ?_⟩
    have hvs : ∀ m ∈ valL d (ks.map (·.2)), m.natAbs < 2 ^ 241 := fun m hm => by
      obtain ⟨p, hp, rfl⟩ := List.mem_map.mp hm
      exact val_small hd (isf.co p hp)
    obtain ⟨mn, mx, en⟩ := ends_ex (ns := valL d (ks.map (·.2))) (by omega)
    have q1 : ∀ H', Same H H' → Ends2 (valL d (ks.map (·.2))) mn mx → Q (.int (lnN b n mn mx)) H' := fun H' => q H' mn mx
    generalize hNS : valL d (ks.map (·.2)) = NS at hx lv hvs en q1
    refine ⟨x, rfl, ⟨_, SqL.of hx⟩, fun D nD => ?_⟩
    refine lc_list (K := K) (a := x) (xs := NS.map V.int) (fun j H' => Same H1 H' ∧ H' D = some (.lst ((sclL n (NS.take j)).map V.int))) ⟨same_new nD, upd_same⟩ (fun j H' _ z => SqL.of (z.1 _ _ hx)) ?_ ?_
    · rintro j v H9 hv ⟨s9, hD⟩
      obtain ⟨m, hm, rfl⟩ : ∃ m, NS[j]? = some m ∧ v = .int m := by
        rw [List.getElem?_map] at hv
        cases e : NS[j]? with
        | none => rw [e] at hv; cases hv
        | some m => rw [e] at hv; exact ⟨m, rfl, (Option.some.inj hv).symm⟩
      have lj := (List.getElem?_eq_some_iff.mp hm).1
      refine ⟨rfl, yesT ?_⟩
      refine ⟨_, rfl, _, rfl, _, _, rfl, rfl, wide_mul nb (hvs m (List.mem_of_getElem? hm)) (by decide) (by decide) (by decide), ?_⟩
      refine ⟨_, hD, ?_, fun a u e => ?_, ?_⟩
      · rw [List.length_map, sclL, List.length_map, List.length_take]
        exact Nat.lt_of_lt_of_le (show min j NS.length < 11 by omega) (by decide)
      · rw [upd_ne (fun w => by rw [w, nD] at e; cases e)]
        exact s9 a u e
      · rw [upd_same, take_succ_at hm]
        unfold sclL
        rw [List.map_append, List.map_append]
        rfl
    · rintro H9 ⟨s9, hD⟩
      rw [List.length_map, List.take_length] at hD
      have ens := en.scale (show 0 ≤ n by omega)
      have f9 := (fa.same s1).same s9
      have ls : (sclL n NS).length = ks.length := by rw [sclL, List.length_map]; exact lv
      refine ⟨.ref D, rfl, D, sclL n NS, rfl, SqL.of hD, by omega, fun m1 mm1 lm1 => ?_⟩
      have e1 : m1 = n * mn := Int.le_antisymm (lm1 _ ens.1) (ens.2.1 _ mm1)
      subst e1
      refine ⟨_, rfl, .ref t, rfl, t, _, 0, .int b, rfl, rfl, f9.tup, atI_nat (j := 0) rfl, _, _, rfl, rfl, wd _, _, rfl, ?_⟩
      refine ⟨.ref D, rfl, D, sclL n NS, rfl, SqL.of hD, by omega, fun m2 mm2 lm2 => ?_⟩
      have e2 : m2 = n * mx := Int.le_antisymm (ens.2.2.2 _ mm2) (lm2 _ ens.2.2.1)
      subst e2
      refine ⟨.ref t, rfl, t, _, 0, .int b, rfl, rfl, f9.tup, atI_nat (j := 0) rfl, _, _, rfl, rfl, wd _, _, rfl, _, _, rfl, rfl, _, _, rfl, rfl, _, _, rfl, ?_⟩
      have p0 := lnN_pos (b := b) (show 0 < b by omega) (show 0 ≤ n by omega) (en.2.1 mx en.2.2.1)
      have ev : (if n * mx / b - -(-(n * mn) / b) + 1 > 0 then n * mx / b - -(-(n * mn) / b) + 1 else 0) = lnN b n mn mx := by
        unfold lnN at p0 ⊢
        split <;> omega
      rw [ev]
      exact q1 _ (s1.trans s9) en
end
end K38
set_option Elab.async false
set_option linter.all false
set_option maxRecDepth 100000
set_option maxHeartbeats 1000000
set_option exponentiation.threshold 20000
namespace K38
open PySem PySem.Spec PyProof.Rows L2 Fen
/-- how many of the first ones lie between -/
def cnt (L G v : Int) : Int := if (if v ≤ G + 1 then v else G + 1) - L > 0 then (if v ≤ G + 1 then v else G + 1) - L else 0
theorem cnt_step {L G v : Int} : cnt L G (v + 1) = if L ≤ v ∧ v ≤ G then cnt L G v + 1 else cnt L G v := by
  unfold cnt
  split <;> split <;> split <;> split <;> (try split) <;> omega
theorem le_fl {b x k : Int} (hb : 0 < b) : k * b ≤ x ↔ k ≤ x / b := (Int.le_ediv_iff_mul_le hb).symm
theorem ce_le {b x k : Int} (hb : 0 < b) : x ≤ k * b ↔ -(-x / b) ≤ k := by
  have := le_fl (x := -x) (k := -k) hb
  rw [Int.neg_mul] at this
  omega
theorem ed_small {b x : Int} {m : Nat} (h : x.natAbs < m) : (x / b).natAbs ≤ m := Nat.le_of_lt (Nat.lt_of_le_of_lt (Int.natAbs_ediv_le_natAbs x b) h)
section
variable {P : Program} {w : World} {K : PySem.W.Frag} {mg : Str → Option Value} {base : Heap}
theorem ok_ctd {f fV : Addr} {fd fdV : FuncData} {k : Nat} (F : Fun K "_law_counted" "_law_counted" sCtd f fd) (mmin : mg "min" = none) (mmax : mg "max" = none) (mr : mg "range" = none) (CV : Cal P w K mg base (k + 1) "_law_values" fV fdV ["_law_plot", "_law_way_here"] (spVls K)) : FnOk P w K mg base CX0 (k + 1 + 1) f fd ["_law_plot", "_law_scale", "_law_way_here"] (spDue K) := by
  refine F.ok scCtd (fun vs H Q E h => ?_) (fun cdv A outer s H vs Q E hr h => ?_)
  · obtain ⟨t, c, o, a, b, n, ks, os, d, rfl, _⟩ := h
    rfl
  · obtain ⟨t, c, o, a, b, n, ks, os, d, rfl, fa, isf, n1, n2, ha, hd, q⟩ := h
    refine ⟨_, pss_cons (ps_par (i := 3) (j := 4) rfl scCtd.nd rfl rfl (by decide) rfl rfl (pa_cons (pe_lc (own := [("_law_one", 6)]) (g := gName 6) (tt := tYes) (te := tOp (rI CMulW fun i j => .int (i * j)) (tVar 1) (tVar 6)) rfl scCtd.nd (pi_list (pe_cal CV hr (pa_cons (pv 0) (pa_cons (pv 2) pa_nil)))) (blkOk_by (N := nCtd) (sc := defScope sCtd) (by decide +kernel)) (fun _ _ _ _ _ => pg_name (i := 6) scCtd.nd rfl (Or.inl rfl)) (fun _ _ _ _ _ => pts_nil)
          (fun _ _ _ _ _ => pe_op op_mulW (pv 1) (pv 6))) (pa_cons pe_int pa_nil)) (by rfl))
      (pss_cons (ps_for PassesOwn.never rfl (pi_range2W (by rfl) mr (pa_cons (pe_op op_sub (pe_op op_fdivW (pe_callB (cr_min rfl) (by rfl) mmin (by decide +kernel) (pa_cons (pv 3) pa_nil)) (pe_ix ix_tup (pv 0) pe_int (fun _ _ => rfl))) pe_int) (pa_cons (pe_op op_add (pe_op op_fdivW (pe_callB (cr_max rfl) (by rfl) mmax (by decide +kernel) (pa_cons (pv 3) pa_nil)) (pe_ix ix_tup (pv 0) pe_int (fun _ _ => rfl))) pe_int) pa_nil))) (pg_name (i := 5) scCtd.nd rfl (.inl rfl))
        (pss_one (ps_if (pt_chain op_le op_le (pe_callB (cr_min rfl) (by rfl) mmin (by decide +kernel) (pa_cons (pv 3) pa_nil)) (pe_op op_mulW (pv 5) (pe_ix ix_tup (pv 0) pe_int (fun _ _ => rfl))) (pe_callB (cr_max rfl) (by rfl) mmax (by decide +kernel) (pa_cons (pv 3) pa_nil))) (pss_one (ps_set (i := 4) scCtd.nd rfl (.inl rfl) (pe_op op_add (pv 4) pe_int))) pss_nil)))
      (pss_one (ps_ret (pv 4)))), ?_⟩
    have l1 := isf.l1
    have l2 := isf.l2
    rw [List.length_map] at l1 l2
    have nb := n_small n1 n2
    have b1 := isf.b1
    have b2 := isf.b2
    have bp : 0 < b := by omega
    have bb : b.natAbs < 2 ^ 100 := Nat.lt_of_le_of_lt (show b.natAbs ≤ 30 by omega) (by decide)
    have wd : ∀ x : Int, CDivW x b := fun x => wide_div (by omega) bb (by decide) (by decide)
    have lv : (valL d (ks.map (·.2))).length = ks.length := by rw [valL, List.length_map, List.length_map]
    refine ⟨.ref t, rfl, .ref a, rfl, t, c, o, a, b, ks, os, d, rfl, fa, isf, ha, hd, fun H1 x s1 nx hx => ?_⟩
    have hvs : ∀ m ∈ valL d (ks.map (·.2)), m.natAbs < 2 ^ 241 := fun m hm => by
      obtain ⟨p, hp, rfl⟩ := List.mem_map.mp hm
      exact val_small hd (isf.co p hp)
    obtain ⟨mn, mx, en⟩ := ends_ex (ns := valL d (ks.map (·.2))) (by omega)
    have q1 : ∀ H', Same H H' → Ends2 (valL d (ks.map (·.2))) mn mx → Q (.int (lnN b n mn mx)) H' := fun H' => q H' mn mx
    generalize hNS : valL d (ks.map (·.2)) = NS at hx lv hvs en q1
    refine ⟨x, rfl, ⟨_, SqL.of hx⟩, fun D nD => ?_⟩
    refine lc_list (K := K) (a := x) (xs := NS.map V.int) (fun j H' => Same H1 H' ∧ H' D = some (.lst ((sclL n (NS.take j)).map V.int))) ⟨same_new nD, upd_same⟩ (fun j H' _ z => SqL.of (z.1 _ _ hx)) ?_ ?_
    · rintro j v H9 hv ⟨s9, hD⟩
      obtain ⟨m, hm, rfl⟩ : ∃ m, NS[j]? = some m ∧ v = .int m := by
        rw [List.getElem?_map] at hv
        cases e : NS[j]? with
        | none => rw [e] at hv; cases hv
        | some m => rw [e] at hv; exact ⟨m, rfl, (Option.some.inj hv).symm⟩
      have lj := (List.getElem?_eq_some_iff.mp hm).1
      refine ⟨rfl, yesT ?_⟩
      refine ⟨_, rfl, _, rfl, _, _, rfl, rfl, wide_mul nb (hvs m (List.mem_of_getElem? hm)) (by decide) (by decide) (by decide), ?_⟩
      refine ⟨_, hD, ?_, fun a u e => ?_, ?_⟩
      · rw [List.length_map, sclL, List.length_map, List.length_take]
        exact Nat.lt_of_lt_of_le (show min j NS.length < 11 by omega) (by decide)
      · rw [upd_ne (fun w => by rw [w, nD] at e; cases e)]
        exact s9 a u e
      · rw [upd_same, take_succ_at hm]
        unfold sclL
        rw [List.map_append, List.map_append]
        rfl
    · rintro H9 ⟨s9, hD⟩
      rw [List.length_map, List.take_length] at hD
      have ens := en.scale (show 0 ≤ n by omega)
      have f9 := (fa.same s1).same s9
      have ls : (sclL n NS).length = ks.length := by rw [sclL, List.length_map]; exact lv
      have eqn : ∀ m1, m1 ∈ sclL n NS → (∀ m ∈ sclL n NS, m1 ≤ m) → m1 = n * mn := fun m1 mm1 lm1 => Int.le_antisymm (lm1 _ ens.1) (ens.2.1 _ mm1)
      have eqx : ∀ m1, m1 ∈ sclL n NS → (∀ m ∈ sclL n NS, m ≤ m1) → m1 = n * mx := fun m1 mm1 lm1 => Int.le_antisymm (ens.2.2.2 _ mm1) (lm1 _ ens.2.2.1)
      refine ⟨_, _, rfl, ?_⟩
      refine ⟨.ref D, rfl, D, sclL n NS, rfl, SqL.of hD, by omega, fun m1 mm1 lm1 => ?_⟩
      obtain rfl := eqn m1 mm1 lm1
      refine ⟨.ref t, rfl, t, _, 0, .int b, rfl, rfl, f9.tup, atI_nat (j := 0) rfl, _, _, rfl, rfl, wd _, _, _, rfl, rfl, ?_⟩
      refine ⟨.ref D, rfl, D, sclL n NS, rfl, SqL.of hD, by omega, fun m2 mm2 lm2 => ?_⟩
      obtain rfl := eqx m2 mm2 lm2
      refine ⟨.ref t, rfl, t, _, 0, .int b, rfl, rfl, f9.tup, atI_nat (j := 0) rfl, _, _, rfl, rfl, wd _, _, _, rfl, rfl, _, _, rfl, ?_⟩
      have le : n * mn ≤ n * mx := Int.mul_le_mul_of_nonneg_left (en.2.1 mx en.2.2.1) (by omega)
      have x1 := mul_lt' nb (hvs mn en.1)
      have x2 := mul_lt' nb (hvs mx en.2.2.1)
      generalize hX : n * mn = X at *
      generalize hY : n * mx = Y at *
      have fl := Int.ediv_le_ediv bp le
      have fs := fl_sum (x := X) bp (Int.le_refl _)
      have fs2 : X / b ≤ -(-X / b) := by
        have h1 := (le_fl (x := X) (k := X / b) bp).mpr (Int.le_refl _)
        have h2 := (ce_le (x := X) (k := -(-X / b)) bp).mpr (Int.le_refl _)
        exact Int.le_of_mul_le_mul_right (Int.le_trans h1 h2) bp
      have y1 := ed_small (b := b) x1
      have y2 := ed_small (b := b) x2
      refine for_range (lo := X / b - 1) (fun i σ H' => ∃ y5, σ = [some (.ref t), some (.int n), some (.ref a), some (.ref D), some (.int (cnt (-(-X / b)) (Y / b) (X / b - 1 + (i : Nat)))), y5, none] ∧ H' = H9) ⟨none, ?_, rfl⟩ ?_ ?_
      · have e0 : cnt (-(-X / b)) (Y / b) (X / b - 1 + ((0 : Nat) : Int)) = 0 := by
          unfold cnt
          split <;> split <;> omega
        rw [e0]
        rfl
      · rintro i σ H' hi ⟨y5, rfl, rfl⟩
        refine ⟨.ref D, rfl, D, sclL n NS, rfl, SqL.of hD, by omega, fun m1 mm1 lm1 => ?_⟩
        rw [eqn m1 mm1 lm1]
        clear mm1 lm1 m1
        have ksm : (X / b - 1 + (i : Nat)).natAbs < 2 ^ 350 := by
          have e : (2 : Nat) ^ (100 + 241) + 2 < 2 ^ 350 := by decide +kernel
          generalize (2 : Nat) ^ (100 + 241) = M at *
          generalize (2 : Nat) ^ 350 = N at *
          omega
        refine ⟨_, rfl, .ref t, rfl, t, _, 0, .int b, rfl, rfl, f9.tup, atI_nat (j := 0) rfl, _, _, rfl, rfl, wide_mul ksm bb (by decide) (by decide) (by decide), _, _, rfl, rfl, _, rfl, ?_⟩
        have st : cnt (-(-X / b)) (Y / b) (X / b - 1 + ((i + 1 : Nat) : Int)) = if -(-X / b) ≤ X / b - 1 + (i : Nat) ∧ X / b - 1 + (i : Nat) ≤ Y / b then cnt (-(-X / b)) (Y / b) (X / b - 1 + (i : Nat)) + 1 else cnt (-(-X / b)) (Y / b) (X / b - 1 + (i : Nat)) := by
          rw [show X / b - 1 + ((i + 1 : Nat) : Int) = X / b - 1 + (i : Nat) + 1 by omega]
          exact cnt_step
        refine ite2 (fun h1 => ?_) (fun h1 => ?_)
        · have g1 : X ≤ (X / b - 1 + (i : Nat)) * b := of_decide_eq_true h1
          refine ⟨.ref D, rfl, D, sclL n NS, rfl, SqL.of hD, by omega, fun m2 mm2 lm2 => ?_⟩
          rw [eqx m2 mm2 lm2]
          clear mm2 lm2 m2
          refine ⟨_, _, rfl, rfl, _, rfl, ite2 (fun h2 => ?_) (fun h2 => ?_)⟩
          · have g2 : (X / b - 1 + (i : Nat)) * b ≤ Y := of_decide_eq_true h2
            refine ⟨_, rfl, _, _, rfl, rfl, some (.int (X / b - 1 + (i : Nat))), ?_, rfl⟩
            rw [st, if_pos ⟨(ce_le bp).mp g1, (le_fl bp).mp g2⟩]
            rfl
          · refine ⟨some (.int (X / b - 1 + (i : Nat))), ?_, rfl⟩
            rw [st, if_neg (fun z => h2 (decide_eq_true ((le_fl bp).mpr z.2)))]
            rfl
        · refine ⟨_, rfl, iteF ⟨some (.int (X / b - 1 + (i : Nat))), ?_, rfl⟩⟩
          rw [st, if_neg (fun z => h1 (decide_eq_true ((ce_le bp).mpr z.1)))]
          rfl
      · rintro σ H' ⟨y5, rfl, rfl⟩
        refine ⟨_, rfl, ?_⟩
        have ee : cnt (-(-X / b)) (Y / b) (X / b - 1 + ((Y / b + 2 - (X / b - 1)).toNat : Nat)) = Y / b + -X / b + 1 := by
          unfold cnt
          split <;> split <;> omega
        rw [ee]
        have z := q1 _ (s1.trans s9) en
        unfold lnN at z
        rw [hX, hY] at z
        exact z
end
end K38
set_option Elab.async false
set_option linter.all false
set_option maxRecDepth 100000
set_option maxHeartbeats 1000000
set_option exponentiation.threshold 20000
namespace K38
open PySem PySem.Spec PyProof.Rows L2 Fen
abbrev sRt : Stmt := topS 42
abbrev nRt : List Str := ["_law_plot", "_law_scale", "_law_way_here", "_law_kept", "_law_due_here", "_law_told"]
theorem scRt : FnScope nRt ["_law_plot", "_law_scale", "_law_way_here"] (defScope sRt) := ⟨rfl, rfl, rfl, by decide +kernel, rfl, by decide +kernel, by decide +kernel⟩
/-- ints of up to a hundred and twenty figures -/
theorem int_showW {i : Int} (h : i.natAbs < 10 ^ 120) : (PyData.int i).showable = true ∧ (PyData.int i).shown.length ≤ 130 := by
  have lg : i.natAbs.log2 < 1920 := Nat.lt_of_lt_of_le (PySem.Flt.log2_lt_of (by decide) (Nat.lt_trans h (by decide +kernel : 10 ^ 120 < 2 ^ 400))) (by decide)
  refine ⟨by simp [PyData.showable, lg], ?_⟩
  show (Str.ofString (toString i)).length ≤ 130
  rw [PySem.ofString_length]
  exact Nat.le_trans (PySem.int_text_length_le10 (k := 120) (by decide) h) (by decide)
theorem ptW_show {p : Hull.P} (h1 : p.1.natAbs < 10 ^ 120) (h2 : p.2.natAbs < 10 ^ 120) : (ptD p).showable = true ∧ (ptD p).hasDict = false ∧ (ptD p).shown.length ≤ 270 := by
  obtain ⟨a1, a2⟩ := int_showW h1
  obtain ⟨b1, b2⟩ := int_showW h2
  refine ⟨by
    simp [PyData.showable] at a1 b1
    simp [ptD, PyData.showable, PyData.showableAll, a1, b1], rfl, ?_⟩
  have z := tupleText_len_le (PyData.shownAll [.int p.1, .int p.2])
  simp only [PyData.shownAll, List.map_cons, List.map_nil, List.sum_cons, List.sum_nil, List.length_cons, List.length_nil] at z
  show (tupleText (PyData.shownAll [.int p.1, .int p.2])).length ≤ 270
  simp only [PyData.shownAll]
  omega
/-- a fence and a direction -/
def kD (b : Int) (cs : List Hull.P) (os : List Int) (d : Hull.P) : PyData := .list [fD b cs os, ptD d]
theorem kD_rp {b : Int} {cs : List Hull.P} {os : List Int} {d : Hull.P} (f : IsF b cs os) (h1 : d.1.natAbs ≤ 10 ^ 40) (h2 : d.2.natAbs ≤ 10 ^ 40) : (kD b cs os d).showable = true ∧ (kD b cs os d).hasDict = false ∧ (kD b cs os d).shown.length ≤ sizeLine ∧ (kD b cs os d).depth ≤ 20 := by
  have r := f.rp
  obtain ⟨a1, a2, a3⟩ := ptW_show (p := d) (Nat.lt_of_le_of_lt h1 (by decide)) (Nat.lt_of_le_of_lt h2 (by decide))
  refine ⟨by simp only [kD, PyData.showable, PyData.showableAll, r.sh, a1, Bool.true_and], by simp [kD, PyData.hasDict, PyData.hasDictAll, r.nd, a2], ?_, ?_⟩
  · have z1 := listText_len_le (PyData.shownAll [fD b cs os, ptD d])
    refine Nat.le_trans z1 ?_
    have := r.len
    simp only [PyData.shownAll, List.map_cons, List.map_nil, List.sum_cons, List.sum_nil, List.length_cons, List.length_nil]
    exact Nat.le_trans (show _ ≤ 3000 by omega) (by decide)
  · have := r.dep
    simp only [kD, ptD, PyData.depth, PyData.depthAll]
    omega
/-- the same number three times -/
def triD (i : Int) : PyData := .list [.int i, .int i, .int i]
theorem tri_rp {i : Int} (h : i.natAbs < 10 ^ 120) : (triD i).showable = true ∧ (triD i).hasDict = false ∧ (triD i).shown.length ≤ sizeLine ∧ (triD i).depth ≤ 20 := by
  obtain ⟨a1, a3⟩ := int_showW h
  refine ⟨by
    simp [PyData.showable] at a1
    simp [triD, PyData.showable, PyData.showableAll, a1], rfl, ?_, ?_⟩
  · have z1 := listText_len_le (PyData.shownAll [.int i, .int i, .int i])
    refine Nat.le_trans z1 ?_
    simp only [PyData.shownAll, List.map_cons, List.map_nil, List.sum_cons, List.sum_nil, List.length_cons, List.length_nil]
    exact Nat.le_trans (show _ ≤ 3000 by omega) (by decide)
  · simp only [triD, PyData.depth, PyData.depthAll]
    omega
theorem isf_shut {b : Int} {cs : List Hull.P} {os : List Int} (f : IsF b cs os) : IsF b cs [] := ⟨f.b1, f.b2, f.l1, f.l2, f.co, f.sh, List.Pairwise.nil, fun o ho => nomatch ho⟩
theorem lnN_small {b n mn mx : Int} (hb : 0 < b) (nb : n.natAbs < 2 ^ 100) (h1 : mn.natAbs < 2 ^ 241) (h2 : mx.natAbs < 2 ^ 241) : (lnN b n mn mx).natAbs < 10 ^ 120 := by
  have x1 := mul_lt' nb h1
  have x2 := mul_lt' nb h2
  have y1 := ed_small (b := b) (x := -(n * mn)) (m := 2 ^ (100 + 241)) (by rw [Int.natAbs_neg]; exact x1)
  have y2 := ed_small (b := b) x2
  have e : 2 * (2 : Nat) ^ (100 + 241) + 2 < 10 ^ 120 := by decide +kernel
  unfold lnN
  generalize (2 : Nat) ^ (100 + 241) = M at *
  generalize (10 : Nat) ^ 120 = N at *
  omega
theorem lnN_neg {b n mn mx : Int} : lnN b n (-mx) (-mn) = lnN b n mn mx := by
  unfold lnN
  rw [Int.mul_neg, Int.mul_neg, Int.neg_neg]
  omega
/-- counted one by one, where they are few -/
def TCo (K : PySem.W.Frag) : TS := fun D σ H => ∃ (t c o a : Addr) (b n : Int) (ks : Pts) (os : List Int) (d : Hull.P) (y3 y5 : Option V) (mn mx : Int), σ = [some (.ref t), some (.int n), some (.ref a), y3, some (.int (lnN b n mn mx)), y5] ∧ FAt K H t c o b ks os ∧ IsF b (ks.map (·.2)) os ∧ 1 ≤ n ∧ n ≤ 10 ^ 30 ∧ SqT K H a [.int d.1, .int d.2] ∧ Ds d ∧ Ends2 (valL d (ks.map (·.2))) mn mx ∧
  ∀ H', Same H H' → D.nx [some (.ref t), some (.int n), some (.ref a), y3, some (.int (lnN b n mn mx)), y5] H'
section
variable {P : Program} {w : World} {K : PySem.W.Frag} {mg : Str → Option Value} {base : Heap}
def spRt (K : PySem.W.Frag) : Sp := fun vs H Q _ => ∃ (t c o a : Addr) (b n : Int) (ks : Pts) (os : List Int) (d : Hull.P), vs = [.ref t, .int n, .ref a] ∧ FAt K H t c o b ks os ∧ IsF b (ks.map (·.2)) os ∧ 1 ≤ n ∧ n ≤ 10 ^ 30 ∧ SqT K H a [.int d.1, .int d.2] ∧ d ≠ (0, 0) ∧ d.1.natAbs ≤ 10 ^ 40 ∧ d.2.natAbs ≤ 10 ^ 40 ∧
  ∀ H', Same H H' → Q (.bl true) H'
theorem ok_rt {f fU fC fF : Addr} {fd fdU fdC fdF : FuncData} {k : Nat} (F : Fun K "_law_right" "_law_right" sRt f fd) (mrepr : mg "repr" = none)
    (CU : Cal P w K mg base (k + 1) "_law_due" fU fdU ["_law_plot", "_law_scale", "_law_way_here"] (spDue K)) (CC : Cal P w K mg base (k + 1) "_law_counted" fC fdC ["_law_plot", "_law_scale", "_law_way_here"] (spDue K))
    (CF : Cal P w K mg base (k + 1) "line_number" fF fdF ["fence", "size", "direction"] (spLn K)) (kF : KwRev K fdF "fence" "size" "direction") :
    FnG P w K mg base CX0 (k + 1 + 1) f fd ["_law_plot", "_law_scale", "_law_way_here"] (spRt K) := by
  refine F.okG scRt (fun vs H Q E h => ?_) (fun cdv A outer s H vs Q E hgd hr h => ?_)
  · obtain ⟨t, c, o, a, b, n, ks, os, d, rfl, _⟩ := h
    rfl
  · obtain ⟨t, c, o, a, b, n, ks, os, d, rfl, fa, isf, n1, n2, ha, ne, d1, d2, q⟩ := h
    refine ⟨_, pss_cons (ps_par (i := 3) (j := 4) rfl scRt.nd rfl rfl (by decide) rfl rfl (pa_cons (pe_callB (call_reprD hgd hr) (by rfl) mrepr (by decide +kernel) (pa_cons (pe_lst (pa_cons (pv 0) (pa_cons (pv 2) pa_nil))) pa_nil)) (pa_cons (pe_cal CU hr (pa_cons (pv 0) (pa_cons (pv 1) (pa_cons (pv 2) pa_nil)))) pa_nil)) (by rfl))
      (pss_cons (PS.of (TCo K) (ps_if (PW.pt (pw_and (pt_cmpR op_lt (pv 4) pe_int (nomark _)) (pw_and1 (pt_cmpR op_ne (pe_cal CC hr (pa_cons (pv 0) (pa_cons (pv 1) (pa_cons (pv 2) pa_nil)))) (pv 4) (nomark _))))) (pss_one (ps_ret pe_bl)) pss_nil) ?s0)
      (pss_cons (ps_set (i := 5) scRt.nd rfl (.inl rfl) (pe_lst (pa_cons (pe_cal CF hr (pa_cons (pv 0) (pa_cons (pv 1) (pa_cons (pv 2) pa_nil)))) (pa_cons (pe_calR CF kF hr (pv 2) (pv 1) (pv 0)) pa_nil))))
      (pss_cons (ps_expr (pe_bm PySem.F.plainAttrs_list PySem.F.slot_list_append PySem.F.type_list_append mt_append (pv 5) (pa_cons (pe_cal CF hr (pa_cons (pe_tup (pa_cons (pe_ix ix_tup (pv 0) pe_int (fun _ _ => rfl)) (pa_cons (pe_ix ix_tup (pv 0) pe_int (fun _ _ => rfl)) (pa_cons (pe_lst pa_nil) pa_nil)))) (pa_cons (pv 1) (pa_cons (pe_tup (pa_cons (pe_op op_sub pe_int (pe_ix ix_tup (pv 2) pe_int (fun _ _ => rfl))) (pa_cons (pe_op op_sub pe_int (pe_ix ix_tup (pv 2) pe_int (fun _ _ => rfl))) pa_nil))) pa_nil)))) pa_nil)))
      (pss_one (ps_ret (pe_and (pe_cmpR op_eq (pe_callB (call_reprD hgd hr) (by rfl) mrepr (by decide +kernel) (pa_cons (pv 5) pa_nil)) (pe_callB (call_reprD hgd hr) (by rfl) mrepr (by decide +kernel) (pa_cons (pe_op op_rep (pe_lst (pa_cons (pv 4) pa_nil)) pe_int) pa_nil)) (nomark _)) (pe_and1 (pe_cmpR op_eq (pe_callB (call_reprD hgd hr) (by rfl) mrepr (by decide +kernel) (pa_cons (pe_lst (pa_cons (pv 0) (pa_cons (pv 2) pa_nil))) pa_nil)) (pv 3) (nomark _))))))))), ?_⟩
    case s0 =>
      rintro D σ H ⟨t, c, o, a, b, n, ks, os, d, y3, y5, mn, mx, rfl, fa, isf, n1, n2, ha, hd, en, go⟩
      refine ⟨_, rfl, _, _, rfl, rfl, _, rfl, ite2 (fun e => ?_) (fun e => iteF (go H (Same.refl _)))⟩
      refine ⟨.ref t, rfl, .int n, rfl, .ref a, rfl, t, c, o, a, b, n, ks, os, d, rfl, fa, isf, n1, n2, ha, hd, fun H1 mn1 mx1 s1 en1 => ?_⟩
      obtain ⟨rfl, rfl⟩ := en.uniq en1
      refine ⟨_, rfl, rfl, _, rfl, ?_⟩
      rw [decide_eq_true (rfl : V.int (lnN b n mn mx) = V.int (lnN b n mn mx))]
      exact iteF (go H1 s1)
    have hd := ds_of d1 d2
    have co : ∀ q ∈ ks.map (·.2), Cor q := isf.co
    have b1 := isf.b1
    obtain ⟨kr1, kr2, kr3, kr4⟩ := kD_rp (d := d) isf d1 d2
    refine ⟨.ref t, rfl, .ref a, rfl, by show 2 ≤ sizeLine; decide, fun L nL => ?_⟩
    have s2 := same_new (o := .lst [.ref t, .ref a]) nL
    have gL : (upd H L (.lst [.ref t, .ref a])) L = some (.lst [.ref t, .ref a]) := upd_same
    generalize upd H L (.lst [.ref t, .ref a]) = H2 at s2 gL ⊢
    have kd : ∀ {H' : Hp} {M : Addr}, Same H H' → H' M = some (.lst [.ref t, .ref a]) → Dp K H' (.ref M) (kD b (ks.map (·.2)) os d) := fun s h => .lst (SqL.of h) (.cons (fa.same s).dp (.cons (dp_pt (s.seqT ha)) .nil))
    generalize kD b (ks.map (·.2)) os d = KD at kd kr1 kr2 kr3 kr4
    refine ⟨L, KD, rfl, kd s2 gL, kr1, kr2, kr3, kr4, ?_⟩
    refine ⟨.ref t, rfl, .int n, rfl, .ref a, rfl, t, c, o, a, b, n, ks, os, d, rfl, fa.same s2, isf, n1, n2, s2.seqT ha, hd, fun H3 mn mx s3 en => ⟨_, _, rfl, ?_⟩⟩
    have s23 := s2.trans s3
    obtain ⟨ml, m1, m2⟩ := ends_small hd co en
    have sm := lnN_small (b := b) (by omega) (n_small n1 n2) m1 m2
    refine ⟨t, c, o, a, b, n, ks, os, d, _, _, mn, mx, rfl, fa.same s23, isf, n1, n2, s23.seqT ha, hd, en, fun H3' s3' => ?_⟩
    have s3 := s23.trans s3'
    refine ⟨.ref t, rfl, .int n, rfl, .ref a, rfl, t, c, o, a, b, n, ks, os, d, rfl, fa.same s3, isf, n1, n2, s3.seqT ha, ne, hd, fun H4 mn1 mx1 s4 en1 => ?_⟩
    obtain ⟨rfl, rfl⟩ := en.uniq en1
    have s34 := s3.trans s4
    refine ⟨.ref a, rfl, .int n, rfl, .ref t, rfl, _, _, _, rfl, t, c, o, a, b, n, ks, os, d, rfl, fa.same s34, isf, n1, n2, s34.seqT ha, ne, hd, fun H5 mn2 mx2 s5 en2 => ?_⟩
    obtain ⟨rfl, rfl⟩ := en.uniq en2
    have s35 := s34.trans s5
    obtain ⟨t1, t2, t3, t4⟩ := tri_rp sm
    have eng := fun (mn3 mx3 : Int) (en3 : Ends2 (valL (0 - d.1, 0 - d.2) (ks.map (·.2))) mn3 mx3) => (show lnN b n mn3 mx3 = lnN b n mn mx by
      obtain ⟨z1, z2⟩ := en.neg.uniq en3
      rw [← z1, ← z2]
      exact lnN_neg)
    generalize hW : lnN b n mn mx = W at sm t1 t2 t3 t4 eng ⊢
    refine ⟨by show 2 ≤ sizeLine; decide, fun T nT => ?_⟩
    have s6 := same_new (o := .lst [.int W, .int W]) nT
    have gT : (upd H5 T (.lst [.int W, .int W])) T = some (.lst [.int W, .int W]) := upd_same
    have s36 := s35.trans s6
    have nTH : H T = none := s35.free nT
    generalize upd H5 T (.lst [.int W, .int W]) = H6 at s36 gT ⊢
    refine ⟨.ref T, rfl, .inl ⟨rfl, _, SqL.of gT⟩, ?_⟩
    have f6 := fa.same s36
    refine ⟨.ref t, rfl, t, _, 0, .int b, rfl, rfl, f6.tup, atI_nat (j := 0) rfl, .ref t, rfl, t, _, 1, .ref c, rfl, rfl, f6.tup, atI_nat (j := 1) rfl, by show 0 ≤ sizeLine; decide, fun e ne_ => ?_⟩
    have s7 := same_new (o := .lst []) ne_
    refine ⟨by show 3 ≤ sizeLine; decide, fun u nu => ?_⟩
    have s8 := s7.trans (same_new (o := .tup [.int b, .ref c, .ref e]) nu)
    have ge := (same_new (o := .tup [.int b, .ref c, .ref e]) nu) _ _ (upd_same : (upd H6 e (.lst [])) e = some (.lst []))
    have gu : (upd (upd H6 e (.lst [])) u (.tup [.int b, .ref c, .ref e])) u = some (.tup [.int b, .ref c, .ref e]) := upd_same
    generalize upd (upd H6 e (.lst [])) u (.tup [.int b, .ref c, .ref e]) = H8 at s8 ge gu ⊢
    have s38 := s36.trans s8
    have a8 := s38.seqT ha
    refine ⟨_, rfl, .ref a, rfl, a, _, 0, .int d.1, rfl, rfl, a8, atI_nat (j := 0) rfl, _, _, rfl, rfl, .ref a, rfl, a, _, 1, .int d.2, rfl, rfl, a8, atI_nat (j := 1) rfl, _, _, rfl, rfl, by show 2 ≤ sizeLine; decide, fun v nv => ?_⟩
    have s9 := same_new (o := .tup [.int (0 - d.1), .int (0 - d.2)]) nv
    have s39 := s38.trans s9
    have nd : (0 - d.1, 0 - d.2) ≠ ((0, 0) : Hull.P) := fun z => ne (by
      have z1 := congrArg Prod.fst z
      have z2 := congrArg Prod.snd z
      simp only at z1 z2
      rcases d with ⟨x, y⟩
      simp only at z1 z2
      obtain rfl : x = 0 := by omega
      obtain rfl : y = 0 := by omega
      rfl)
    have hdn : Ds (0 - d.1, 0 - d.2) := ⟨by show (0 - d.1).natAbs < _; have := hd.1; omega, by show (0 - d.2).natAbs < _; have := hd.2; omega⟩
    have f9 := fa.same s39
    refine ⟨u, c, e, v, b, n, ks, [], (0 - d.1, 0 - d.2), rfl, ⟨SqT.of (s9 _ _ gu), f9.cor, f9.pts, SqL.of (s9 _ _ ge)⟩, isf_shut isf, n1, n2, SqT.of upd_same, nd, hdn, fun HA mn3 mx3 sA en3 => ?_⟩
    rw [eng mn3 mx3 en3]
    have s3A := s39.trans sA
    have s8A := s8.trans (s9.trans sA)
    refine ⟨T, [.int W, .int W], .int W, rfl, rfl, s8A _ _ gT, by show 2 < sizeLine; decide, ?_⟩
    have gT2 : (upd HA T (.lst ([V.int W, .int W] ++ [.int W]))) T = some (.lst [.int W, .int W, .int W]) := upd_same
    have sB : Same H (upd HA T (.lst ([V.int W, .int W] ++ [.int W]))) := fun y z e => by
      rw [upd_ne (ne_of_none e nTH)]
      exact s3A _ _ e
    generalize upd HA T (.lst ([V.int W, .int W] ++ [.int W])) = HB at gT2 sB ⊢
    have q2 : ∀ {H' : Hp} {M : Addr}, H' M = some (.lst [.int W, .int W, .int W]) → Dp K H' (.ref M) (triD W) := fun h => .lst (SqL.of h) (.cons (.int W) (.cons (.int W) (.cons (.int W) .nil)))
    generalize triD W = TD at t1 t2 t3 t4 q2
    refine ⟨.ref T, rfl, T, TD, rfl, q2 gT2, t1, t2, t3, t4, ?_⟩
    refine ⟨_, rfl, by show 1 ≤ sizeLine; decide, fun M nM => ?_⟩
    refine ⟨M, 3, _, rfl, rfl, upd_same, by decide, by decide, by show 1 * 3 ≤ sizeLine; decide, fun N nN => ?_⟩
    have sM := same_new (o := .lst [.int W]) nM
    have sN := same_new (o := .lst (List.replicate (3 : Int).toNat [V.int W]).flatten) nN
    refine ⟨N, TD, rfl, q2 upd_same, t1, t2, t3, t4, rfl, _, rfl, ?_⟩
    rw [decide_eq_true (rfl : V.str TD.shown = V.str TD.shown)]
    have sC := sB.trans (sM.trans sN)
    refine iteT ?_
    refine ⟨.ref t, rfl, .ref a, rfl, by show 2 ≤ sizeLine; decide, fun L2 nL2 => ?_⟩
    have sD := sC.trans (same_new (o := .lst [.ref t, .ref a]) nL2)
    refine ⟨L2, KD, rfl, kd sD upd_same, kr1, kr2, kr3, kr4, _, rfl, rfl, ?_⟩
    rw [decide_eq_true (rfl : V.str KD.shown = V.str KD.shown)]
    exact q _ sD
end
end K38
set_option Elab.async false
set_option linter.all false
set_option maxRecDepth 100000
set_option maxHeartbeats 1000000
set_option exponentiation.threshold 20000
namespace K38
open PySem PySem.Spec PyProof.Rows L2 Fen
abbrev sLw : Stmt := topS 43
abbrev nLw : List Str := ["_law_script", "_law_stock_here", "_law_turn", "_law_plot", "_law_lap", "_law_scale", "_law_level", "_law_told"]
theorem scLw : FnScope nLw ["_law_script"] (defScope sLw) := ⟨rfl, rfl, rfl, by decide +kernel, rfl, by decide +kernel, by decide +kernel⟩
theorem cor_little {x y : Int} (h1 : x.natAbs ≤ 1000) (h2 : y.natAbs ≤ 1000) : Cor (x, y) := by
  have e : (10 : Int) ^ 30 = 1000000000000000000000000000000 := by decide
  unfold Cor
  rw [e]
  dsimp only
  omega
theorem isf_tri {os : List Int} (h1 : os.Pairwise (· < ·)) (h2 : ∀ o ∈ os, 0 ≤ o ∧ o < (3 : Nat)) : IsF 2 [(0, 0), (2, 0), (0, 1)] os := by
  have z := shape_hul (s := [(0, 0), (0, 1), (2, 0)]) (by decide) (by decide)
  have e : Fen.hul [((0 : Int), (0 : Int)), (0, 1), (2, 0)] = [(0, 0), (2, 0), (0, 1)] := by decide +kernel
  rw [e] at z
  refine ⟨by decide, by decide, by decide, by decide, fun p hp => ?_, z.1, h1, h2⟩
  simp only [List.mem_cons, List.not_mem_nil, or_false] at hp
  rcases hp with rfl | rfl | rfl <;> exact cor_little (by decide) (by decide)
theorem isf_pt {b : Int} {p : Hull.P} (h1 : 1 ≤ b) (h2 : b ≤ 30) (h : Cor p) : IsF b [p] [] := ⟨h1, h2, by simp, by simp, fun q hq => by rw [List.mem_singleton.mp hq]; exact h, .inl rfl, List.Pairwise.nil, fun o ho => nomatch ho⟩
theorem isf_lev {os : List Int} (h1 : os.Pairwise (· < ·)) (h2 : ∀ o ∈ os, 0 ≤ o ∧ o < (2 : Nat)) : IsF 2 [(0, 1), (2, 1)] os := by
  have z := shape_hul (s := [(0, 1), (2, 1)]) (by decide) (by decide)
  have e : Fen.hul [((0 : Int), (1 : Int)), (2, 1)] = [(0, 1), (2, 1)] := by decide +kernel
  rw [e] at z
  refine ⟨by decide, by decide, by decide, by decide, fun p hp => ?_, z.1, h1, h2⟩
  simp only [List.mem_cons, List.not_mem_nil, or_false] at hp
  rcases hp with rfl | rfl <;> exact cor_little (by decide) (by decide)
theorem ln_of {b n : Int} {d : Hull.P} {cs : List Hull.P} {mn mx x y : Int} (e : Ends2 (valL d cs) mn mx) (h : Ends2 (valL d cs) x y) : lnN b n mn mx = lnN b n x y := by
  obtain ⟨rfl, rfl⟩ := h.uniq e
  rfl
section
variable {P : Program} {w : World} {K : PySem.W.Frag} {mg : Str → Option Value} {base : Heap}
def spLw (K : PySem.W.Frag) : Sp := fun vs H Q _ => ∃ (a : Addr) (ns : List Int), vs = [.ref a] ∧ SqL K H a (ns.map V.int) ∧ ns.length ≤ 63 ∧ ∀ H', Q (.bl true) H'
theorem ok_lw {f fS fD fL fW fR fF : Addr} {fd fdS fdD fdL fdW fdR fdF : FuncData} {k : Nat} (F : Fun K "law" "law" sLw f fd) (mr : mg "range" = none) (mi : mg "int" = none)
    (CS : Cal P w K mg base (k + 1) "_law_stock" fS fdS ["_law_script"] (spSto K)) (CD : Cal P w K mg base (k + 1) "_law_draw" fD fdD ["_law_stock_here", "_law_wide"] spDrw) (CL : Cal P w K mg base (k + 1) "_law_drawn" fL fdL ["_law_stock_here", "_law_bound", "_law_most", "_law_many"] (spDwn K)) (CW : Cal P w K mg base (k + 1) "_law_way" fW fdW ["_law_stock_here", "_law_far"] (spWay K))
    (CR : CalG P w K mg base (k + 1) "_law_right" fR fdR ["_law_plot", "_law_scale", "_law_way_here"] (spRt K)) (CF : Cal P w K mg base (k + 1) "line_number" fF fdF ["fence", "size", "direction"] (spLn K)) :
    FnG P w K mg base CX0 (k + 1 + 1) f fd ["_law_script"] (spLw K) := by
  refine F.okG scLw (fun vs H Q E h => ?_) (fun cdv A outer s H vs Q E hgd hr h => ?_)
  · obtain ⟨a, ns, rfl, _⟩ := h
    rfl
  · obtain ⟨a, ns, rfl, hS, hl, q⟩ := h
    refine ⟨_, pss_cons (ps_set (i := 1) scLw.nd rfl (.inl rfl) (pe_cal CS hr (pa_cons (pv 0) pa_nil)))
      (pss_cons (ps_for PassesOwn.never rfl (pi_range1 (by rfl) mr (pa_cons pe_int pa_nil)) (pg_name (i := 2) scLw.nd rfl (.inl rfl))
        (pss_cons (ps_set (i := 3) scLw.nd rfl (.inl rfl) (pe_cal CL hr (pa_cons (pv 1) (pa_cons (pe_ix ix_list (pe_lst (pa_cons pe_int (pa_cons pe_int (pa_cons (pe_op op_pow pe_int pe_int) pa_nil)))) (pe_op op_mod (pe_callTy call_int1 (by rfl) mi (by decide +kernel) (pa_cons (pv 2) pa_nil)) pe_int) (fun _ _ => rfl)) (pa_cons pe_int (pa_cons pe_int pa_nil))))))
        (pss_one (ps_for PassesOwn.never rfl (pi_range1 (by rfl) mr (pa_cons pe_int pa_nil)) (pg_name (i := 4) scLw.nd rfl (.inl rfl))
          (pss_cons (ps_set (i := 5) scLw.nd rfl (.inl rfl) (pe_ix ix_list (pe_lst (pa_cons pe_int (pa_cons (pe_op op_add pe_int (pe_cal CD hr (pa_cons (pv 1) (pa_cons pe_int pa_nil)))) (pa_cons (pe_op op_sub (pe_op op_pow pe_int pe_int) (pe_cal CD hr (pa_cons (pv 1) (pa_cons pe_int pa_nil)))) pa_nil)))) (pe_cal CD hr (pa_cons (pv 1) (pa_cons pe_int pa_nil))) (fun _ _ => rfl)))
          (pss_one (ps_if (pt_not (pt_val (pe_calG CR hgd hr (pa_cons (pv 3) (pa_cons (pv 5) (pa_cons (pe_cal CW hr (pa_cons (pv 1) (pa_cons (pe_op op_sub (pe_op op_pow pe_int pe_int) pe_int) pa_nil))) pa_nil)))))) (pss_one (ps_ret pe_bl)) pss_nil)))))))
      (pss_cons (ps_par (i := 3) (j := 6) rfl scLw.nd rfl rfl (by decide) rfl rfl (pa_cons (pe_fenS (K := K) (os := []) pe_int (pe_ptl (pa_pt pe_int pe_int (pa_pt pe_int pe_int (pa_pt pe_int pe_int pa_ptnil))) (by decide)) pa_nil (fun _ _ _ q => q) (by decide)) (pa_cons (pe_fenS (K := K) (os := [0, 1]) pe_int (pe_ptl (pa_pt pe_int pe_int (pa_pt pe_int pe_int pa_ptnil)) (by decide)) (pa_cons pe_int (pa_cons pe_int pa_nil)) (fun _ _ _ q => q) (by decide)) pa_nil)) (by rfl))
      (pss_cons (ps_set (i := 7) scLw.nd rfl (.inl rfl) (pe_lst (pa_cons (pe_cal CF hr (pa_cons (pv 3) (pa_cons pe_int (pa_cons (pe_tup (pa_cons pe_int (pa_cons pe_int pa_nil))) pa_nil)))) (pa_cons (pe_cal CF hr (pa_cons (pv 3) (pa_cons pe_int (pa_cons (pe_tup (pa_cons pe_int (pa_cons pe_int pa_nil))) pa_nil)))) (pa_cons (pe_cal CF hr (pa_cons (pv 6) (pa_cons pe_int (pa_cons (pe_tup (pa_cons pe_int (pa_cons pe_int pa_nil))) pa_nil)))) pa_nil)))))
      (pss_cons (ps_set (i := 7) scLw.nd rfl (.inl rfl) (pe_op op_cat (pv 7) (pe_lst (pa_cons (pe_cal CF hr (pa_cons (pv 6) (pa_cons pe_int (pa_cons (pe_tup (pa_cons pe_int (pa_cons pe_int pa_nil))) pa_nil)))) (pa_cons (pe_cal CF hr (pa_cons (pe_fenS (K := K) (os := []) pe_int (pe_ptl (pa_pt pe_int pe_int pa_ptnil) (by decide)) pa_nil (fun _ _ _ q => q) (by decide)) (pa_cons pe_int (pa_cons (pe_tup (pa_cons pe_int (pa_cons pe_int pa_nil))) pa_nil)))) pa_nil)))))
      (pss_one (ps_ret (pe_cmpR (op_eqD (hu_of64 hr)) (pe_op op_cat (pv 7) (pe_lst (pa_cons (pe_cal CF hr (pa_cons (pe_fenS (K := K) (os := []) pe_int (pe_ptl (pa_pt pe_int pe_int pa_ptnil) (by decide)) pa_nil (fun _ _ _ q => q) (by decide)) (pa_cons pe_int (pa_cons (pe_tup (pa_cons pe_int (pa_cons pe_int pa_nil))) pa_nil)))) pa_nil))) (pe_lst (pa_cons pe_int (pa_cons pe_int (pa_cons pe_int (pa_cons pe_int (pa_cons pe_int (pa_cons pe_int pa_nil))))))) (nomark _)))))))), ?_⟩
    have e30 : (10 : Int) ^ 30 = 1000000000000000000000000000000 := by decide
    have e30' : (10 : Int) ^ (30 : Int).toNat = 1000000000000000000000000000000 := by decide
    refine ⟨.ref a, rfl, a, ns, rfl, hS, hl, fun H1 p s1 np hb => ?_⟩
    refine ⟨10, rfl, by decide, by decide, ?_⟩
    refine for_range (lo := 0) (fun i σ H' => ∃ y2 y3 y4 y5, σ = [some (.ref a), some (.ref p), y2, y3, y4, y5, none, none] ∧ Drew p H1 H' (100 * i)) ⟨_, _, _, _, rfl, Drew.of hb (Same.refl _)⟩ ?_ ?_
    · rintro i σ H2 hi ⟨y2, y3, y4, y5, rfl, d2⟩
      have i10 : i < 10 := hi
      refine ⟨.ref p, rfl, 10, 30, rfl, rfl, ⟨by decide, by decide, by decide⟩, by show 3 ≤ sizeLine; decide, fun l nl => ?_⟩
      have c1 := same_new (o := .lst [V.int 6, .int 40, .int ((10 : Int) ^ (30 : Int).toNat)]) nl
      have d3 := d2.new c1
      obtain ⟨far, hfar, far1, far2⟩ : ∃ far : Int, atI [V.int 6, .int 40, .int ((10 : Int) ^ (30 : Int).toNat)] ((0 + (i : Nat)) % 3) = some (.int far) ∧ 1 ≤ far ∧ far ≤ 10 ^ 30 := by
        rw [e30, e30']
        have : ((0 : Int) + (i : Nat)) % 3 = 0 ∨ ((0 : Int) + (i : Nat)) % 3 = 1 ∨ ((0 : Int) + (i : Nat)) % 3 = 2 := by omega
        rcases this with h | h | h <;> rw [h]
        · exact ⟨6, rfl, by decide, by decide⟩
        · exact ⟨40, rfl, by decide, by decide⟩
        · exact ⟨_, rfl, by decide, by decide⟩
      refine ⟨_, rfl, .inl ⟨_, rfl, _, _, rfl, rfl, (by decide : (0 : Int) < 3), l, _, _, .int far, rfl, rfl, SqL.of upd_same, hfar, ?_⟩⟩
      refine ⟨p, far, 30, 10, 100 * i, rfl, d3.bag, by omega, far1, far2, by decide, by decide, by decide, by decide, fun H4 t c o b ks os d4 nt cp op fp isf => ?_⟩
      have fa := fp.fat
      have dA : Drew p H1 H4 (100 * i + 40) := d3.then d4
      refine ⟨3, rfl, by decide, by decide, ?_⟩
      refine for_range (lo := 0) (fun j σ H' => ∃ y4 y5, σ = [some (.ref a), some (.ref p), some (.int (0 + (i : Nat))), some (.ref t), y4, y5, none, none] ∧ Drew p H4 H' (100 * i + 40 + 10 * j)) ⟨_, _, rfl, ⟨fun _ _ _ e => e, dA.bag⟩⟩ ?_ ?_
      · rintro j σ H5 hj ⟨y4, y5, rfl, d5⟩
        have j3 : j < 3 := hj
        refine ⟨_, rfl, p, 60, _, rfl, by decide, by decide +kernel, d5.bag, by omega, fun r1 H6 a0 a1 d6 o6 => ⟨_, _, rfl, rfl, ?_⟩⟩
        refine ⟨10, 30, rfl, rfl, ⟨by decide, by decide, by decide⟩, _, rfl, p, 99, _, rfl, by decide, by decide +kernel, d6.bag, by omega, fun r2 H7 b0 b1 d7 o7 => ⟨_, _, rfl, rfl, by show 3 ≤ sizeLine; decide, fun l3 nl3 => ?_⟩⟩
        have dB : Drew p H4 H7 _ := d5.then (d6.then d7)
        have c3 := same_new (o := .lst [.int 1, .int (1 + r1), .int ((10 : Int) ^ (30 : Int).toNat - r2)]) nl3
        have l3p := dB.list_ne nl3
        have g3 : (upd H7 l3 (.lst [.int 1, .int (1 + r1), .int ((10 : Int) ^ (30 : Int).toNat - r2)])) l3 = some (.lst [.int 1, .int (1 + r1), .int ((10 : Int) ^ (30 : Int).toNat - r2)]) := upd_same
        have dC := dB.new c3
        refine ⟨_, rfl, p, 3, _, rfl, by decide, by decide +kernel, dC.bag, by omega, fun r3 H8 f0 f1 d8 o8 => ?_⟩
        obtain ⟨n, hn, n1, n2⟩ : ∃ n : Int, atI [V.int 1, .int (1 + r1), .int ((10 : Int) ^ (30 : Int).toNat - r2)] r3 = some (.int n) ∧ 1 ≤ n ∧ n ≤ 10 ^ 30 := by
          rw [e30, e30']
          have : r3 = 0 ∨ r3 = 1 ∨ r3 = 2 := by omega
          rcases this with rfl | rfl | rfl
          · exact ⟨_, rfl, by omega, by omega⟩
          · exact ⟨_, rfl, by omega, by omega⟩
          · exact ⟨_, rfl, by omega, by omega⟩
        have dD : Drew p H4 H8 _ := dC.then d8
        refine ⟨l3, _, r3, .int n, rfl, rfl, SqL.of (by rw [o8 l3 l3p]; exact g3), hn, ?_⟩
        refine ⟨.ref t, rfl, .int n, rfl, .ref p, rfl, 10, 40, rfl, rfl, ⟨by decide, by decide, by decide⟩, _, _, rfl, rfl, p, (10 : Int) ^ (40 : Int).toNat - 1, _, rfl, dD.bag, by omega, by decide, by decide, fun H9 x d d9 hx nd z1 z2 => ?_⟩
        have dE : Drew p H4 H9 _ := dD.then d9
        refine ⟨t, c, o, x, b, n, ks, os, d, rfl, FAt.drew fa d4.bag dE cp op, isf, n1, n2, hx, nd, z1, z2, fun H7 s7 => ⟨true, rfl, iteF ?_⟩⟩
        have dF := dE.new s7
        exact ⟨_, _, rfl, ⟨dF.x, dF.bag.more (by omega)⟩⟩
      · rintro σ H5 ⟨y4, y5, rfl, d5⟩
        have dB := dA.then d5
        exact ⟨_, _, _, _, rfl, ⟨dB.x, dB.bag.more (by omega)⟩⟩
    rintro σ H2 ⟨y2, y3, y4, y5, rfl, d2⟩
    have iA : IsF 2 [(0, 0), (2, 0), (0, 1)] [] := isf_tri List.Pairwise.nil fun o ho => nomatch ho
    have iB : IsF 2 [(0, 1), (2, 1)] [0, 1] := isf_lev (by decide) (by decide)
    have iC : IsF 6 [(3, 2)] [] := isf_pt (by decide) (by decide) (cor_little (by decide) (by decide))
    refine fun H3 tA s3 TA => fun H4 tB s4 TB => ⟨_, _, rfl, ?_⟩
    obtain ⟨cA, oA, kA, fA, eA⟩ := TA.same s4
    obtain ⟨cB, oB, kB, fB, eB⟩ := TB
    rw [← eA] at iA
    rw [← eB] at iB
    have ds : ∀ x y : Int, x.natAbs ≤ 100 → y.natAbs ≤ 100 → Ds (x, y) := fun x y h1 h2 => ⟨Nat.lt_of_le_of_lt h1 (by decide), Nat.lt_of_le_of_lt h2 (by decide)⟩
    -- two of the field, one of the level stretch
    refine ⟨.ref tA, rfl, by show 2 ≤ sizeLine; decide, fun x1 nx1 => ?_⟩
    have c1 := same_new (o := .tup [.int 0, .int 1]) nx1
    refine ⟨tA, cA, oA, x1, 2, 3, kA, [], (0, 1), rfl, (fA.same c1).fat, iA, by decide, by decide, SqT.of upd_same, by decide, ds _ _ (by decide) (by decide), fun H5 mn1 mx1 s5 en1 => ?_⟩
    rw [eA] at en1
    rw [ln_of (b := 2) (n := 3) en1 (x := 0) (y := 1) (by unfold Ends2; decide)]
    have s45 := c1.trans s5
    refine ⟨.ref tA, rfl, by show 2 ≤ sizeLine; decide, fun x2 nx2 => ?_⟩
    have c2 := s45.trans (same_new (o := .tup [.int 1, .int 2]) nx2)
    refine ⟨tA, cA, oA, x2, 2, 3, kA, [], (1, 2), rfl, (fA.same c2).fat, iA, by decide, by decide, SqT.of upd_same, by decide, ds _ _ (by decide) (by decide), fun H6 mn2 mx2 s6 en2 => ?_⟩
    rw [eA] at en2
    rw [ln_of (b := 2) (n := 3) en2 (x := 0) (y := 2) (by unfold Ends2; decide)]
    have s46 := c2.trans s6
    refine ⟨.ref tB, rfl, by show 2 ≤ sizeLine; decide, fun x3 nx3 => ?_⟩
    have c3 := s46.trans (same_new (o := .tup [.int 0, .int 1]) nx3)
    refine ⟨tB, cB, oB, x3, 2, 1, kB, [0, 1], (0, 1), rfl, (fB.same c3).fat, iB, by decide, by decide, SqT.of upd_same, by decide, ds _ _ (by decide) (by decide), fun H7 mn3 mx3 s7 en3 => ?_⟩
    rw [eB] at en3
    rw [ln_of (b := 2) (n := 1) en3 (x := 1) (y := 1) (by unfold Ends2; decide)]
    have s47 := c3.trans s7
    refine ⟨by show 3 ≤ sizeLine; decide, fun L nL => ?_⟩
    have eL : HO.lst [V.int (lnN 2 3 0 1), .int (lnN 2 3 0 2), .int (lnN 2 1 1 1)] = .lst [.int 2, .int 4, .int 0] := by rw [show lnN 2 3 0 1 = 2 from by decide, show lnN 2 3 0 2 = 4 from by decide, show lnN 2 1 1 1 = 0 from by decide]
    have s48 := s47.trans (same_new (o := .lst [.int (lnN 2 3 0 1), .int (lnN 2 3 0 2), .int (lnN 2 1 1 1)]) nL)
    have gL : (upd H7 L (.lst [.int (lnN 2 3 0 1), .int (lnN 2 3 0 2), .int (lnN 2 1 1 1)])) L = some (.lst [.int 2, .int 4, .int 0]) := by rw [upd_same]; exact congrArg some eL
    generalize upd H7 L (.lst [.int (lnN 2 3 0 1), .int (lnN 2 3 0 2), .int (lnN 2 1 1 1)]) = H8 at s48 gL ⊢
    -- the level stretch at another size, a point
    refine ⟨.ref L, rfl, .ref tB, rfl, by show 2 ≤ sizeLine; decide, fun x4 nx4 => ?_⟩
    have c4 := s48.trans (same_new (o := .tup [.int 0, .int 1]) nx4)
    have k4 := same_new (o := .tup [.int 0, .int 1]) nx4
    refine ⟨tB, cB, oB, x4, 2, 2, kB, [0, 1], (0, 1), rfl, (fB.same c4).fat, iB, by decide, by decide, SqT.of upd_same, by decide, ds _ _ (by decide) (by decide), fun H9 mn4 mx4 s9 en4 => ?_⟩
    rw [eB] at en4
    rw [ln_of (b := 2) (n := 2) en4 (x := 1) (y := 1) (by unfold Ends2; decide)]
    refine fun HA tC sA TC => ?_
    obtain ⟨cC, oC, kC, fC, eC⟩ := TC
    rw [← eC] at iC
    refine ⟨by show 2 ≤ sizeLine; decide, fun x5 nx5 => ?_⟩
    have k5 := same_new (o := .tup [.int 5, .int 7]) nx5
    refine ⟨tC, cC, oC, x5, 6, 6, kC, [], (5, 7), rfl, (fC.same k5).fat, iC, by decide, by decide, SqT.of upd_same, by decide, ds _ _ (by decide) (by decide), fun HB mn5 mx5 sB en5 => ?_⟩
    rw [eC] at en5 iC
    rw [ln_of (b := 6) (n := 6) en5 (x := 29) (y := 29) (by unfold Ends2; decide)]
    have k8B := (k4.trans s9).trans (sA.trans (k5.trans sB))
    refine ⟨by show 2 ≤ sizeLine; decide, fun M nM => ?_⟩
    have eM : HO.lst [V.int (lnN 2 2 1 1), .int (lnN 6 6 29 29)] = .lst [.int 1, .int 1] := by rw [show lnN 2 2 1 1 = 1 from by decide, show lnN 6 6 29 29 = 1 from by decide]
    have kM := same_new (o := .lst [.int (lnN 2 2 1 1), .int (lnN 6 6 29 29)]) nM
    have gM : (upd HB M (.lst [.int (lnN 2 2 1 1), .int (lnN 6 6 29 29)])) M = some (.lst [.int 1, .int 1]) := by rw [upd_same]; exact congrArg some eM
    have gL2 := kM _ _ (k8B _ _ gL)
    generalize upd HB M (.lst [.int (lnN 2 2 1 1), .int (lnN 6 6 29 29)]) = HC at gM gL2 ⊢
    refine ⟨L, M, _, _, rfl, rfl, gL2, gM, by show 5 ≤ sizeLine; decide, fun N nN => ?_⟩
    have gN : (upd HC N (.lst ([V.int 2, .int 4, .int 0] ++ [.int 1, .int 1]))) N = some (.lst [.int 2, .int 4, .int 0, .int 1, .int 1]) := upd_same
    generalize upd HC N (.lst ([V.int 2, .int 4, .int 0] ++ [.int 1, .int 1])) = HD at gN ⊢
    -- the same point at a size where it is no stake
    refine ⟨.ref N, rfl, fun HE tE sE TE => ?_⟩
    obtain ⟨cE, oE, kE, fE, eE⟩ := TE
    rw [← eE] at iC
    refine ⟨by show 2 ≤ sizeLine; decide, fun x6 nx6 => ?_⟩
    have k6 := same_new (o := .tup [.int 0, .int 3]) nx6
    refine ⟨tE, cE, oE, x6, 6, 1, kE, [], (0, 3), rfl, (fE.same k6).fat, iC, by decide, by decide, SqT.of upd_same, by decide, ds _ _ (by decide) (by decide), fun HF mn6 mx6 sF en6 => ?_⟩
    rw [eE] at en6
    rw [ln_of (b := 6) (n := 1) en6 (x := 6) (y := 6) (by unfold Ends2; decide)]
    have gN2 := sF _ _ (k6 _ _ (sE _ _ gN))
    refine ⟨by show 1 ≤ sizeLine; decide, fun O nO => ?_⟩
    have kO := same_new (o := .lst [.int (lnN 6 1 6 6)]) nO
    have eO : HO.lst [V.int (lnN 6 1 6 6)] = .lst [.int 1] := by rw [show lnN 6 1 6 6 = 1 from by decide]
    have gO : (upd HF O (.lst [.int (lnN 6 1 6 6)])) O = some (.lst [.int 1]) := by rw [upd_same]; exact congrArg some eO
    have gN3 := kO _ _ gN2
    generalize upd HF O (.lst [.int (lnN 6 1 6 6)]) = HG at gO gN3 ⊢
    refine ⟨N, O, _, _, rfl, rfl, gN3, gO, by show 6 ≤ sizeLine; decide, fun R nR => ?_⟩
    have gR : (upd HG R (.lst ([V.int 2, .int 4, .int 0, .int 1, .int 1] ++ [.int 1]))) R = some (.lst [.int 2, .int 4, .int 0, .int 1, .int 1, .int 1]) := upd_same
    generalize upd HG R (.lst ([V.int 2, .int 4, .int 0, .int 1, .int 1] ++ [.int 1])) = HH at gR ⊢
    refine ⟨by show 6 ≤ sizeLine; decide, fun S nS => ?_⟩
    have kS := same_new (o := .lst [.int 2, .int 4, .int 0, .int 1, .int 1, .int 1]) nS
    have lst : ∀ {H : Hp} {a : Addr}, H a = some (.lst [V.int 2, .int 4, .int 0, .int 1, .int 1, .int 1]) → Dp K H (.ref a) (.list [.int 2, .int 4, .int 0, .int 1, .int 1, .int 1]) := fun h => .lst (SqL.of h) (.cons (.int _) (.cons (.int _) (.cons (.int _) (.cons (.int _) (.cons (.int _) (.cons (.int _) .nil))))))
    refine ⟨_, _, lst (kS _ _ gR), lst upd_same, by decide, by decide, ?_⟩
    rw [show PyData.eqv (.list [.int 2, .int 4, .int 0, .int 1, .int 1, .int 1]) (.list [.int 2, .int 4, .int 0, .int 1, .int 1, .int 1]) = true from by decide]
    exact q _
end
end K38
set_option Elab.async false
set_option linter.all false
set_option maxRecDepth 100000
set_option maxHeartbeats 1000000
set_option exponentiation.threshold 20000
namespace K38
open PySem PySem.Spec PyProof.Rows L2 Fen
theorem kw_rev {K : PySem.W.Frag} {x qual : Str} {st : Stmt} {f : Addr} {fd : FuncData} {a b c : Str} (F : Fun K x qual st f fd)
    (h : ∀ (kV doc pm : Value) (an : Option Addr) (cdv ct u v z : Value), bindArgs (PySem.W.fnOf x qual (defArgs st) (defBody st) (defScope st) .none kV doc pm an cdv ct) ⟨[], [(c, u), (b, v), (a, z)]⟩ = pure [(a, z), (b, v), (c, u)]) : KwRev K fd a b c := by
  obtain ⟨oc, od, kV, doc, pm, an, cdv, ct, osl, rfl, lk, hcd⟩ := F.ex
  exact fun s u v z _ => .of_eq (h kV doc pm an cdv ct u v z)
theorem top_mk {P : Program} {w : World} {K : PySem.W.Frag} {h : Heap} {mg : Str → Option Value} {fa  : Addr} {t1 t2 t3 : Tok} (X : K.In h) (G : h.Ns mainGlobals mg) (hfa : mg "law" = some (.ref fa))
    (v1 : PySem.W.nsIn K mainGlobals "LIMIT" = some (some (.int 1000000000000000000000000000000 t1)))
    (v2 : PySem.W.nsIn K mainGlobals "GREATEST_BOTTOM" = some (some (.int 30 t2)))
    (v3 : PySem.W.nsIn K mainGlobals "MOST_CORNERS" = some (some (.int 10 t3)))
    (b0 : PySem.W.nsIn K mainGlobals "isinstance" = some none)
    (b1 : PySem.W.nsIn K mainGlobals "int" = some none)
    (b2 : PySem.W.nsIn K mainGlobals "bool" = some none)
    (b3 : PySem.W.nsIn K mainGlobals "tuple" = some none)
    (b4 : PySem.W.nsIn K mainGlobals "list" = some none)
    (b5 : PySem.W.nsIn K mainGlobals "len" = some none)
    (b6 : PySem.W.nsIn K mainGlobals "enumerate" = some none)
    (b7 : PySem.W.nsIn K mainGlobals "min" = some none)
    (b8 : PySem.W.nsIn K mainGlobals "max" = some none)
    (b9 : PySem.W.nsIn K mainGlobals "zip" = some none)
    (b10 : PySem.W.nsIn K mainGlobals "all" = some none)
    (b11 : PySem.W.nsIn K mainGlobals "range" = some none)
    (b12 : PySem.W.nsIn K mainGlobals "abs" = some none)
    (b13 : PySem.W.nsIn K mainGlobals "sum" = some none)
    (b14 : PySem.W.nsIn K mainGlobals "repr" = some none)
    (b15 : PySem.W.nsIn K mainGlobals "sorted" = some none)
    (b16 : PySem.W.nsIn K mainGlobals "set" = some none)
    {fTurnP : Addr} {ocTurnP : Value} {odTurnP anTurnP : Option Addr} {slTurnP : Array (Option Value)} {kVTurnP dcTurnP pmTurnP cdTurnP ctTurnP : Value} (eTurnP : PySem.W.nsIn K mainGlobals "turn" = some (some (.ref fTurnP))) (lTurnP : K.lookup fTurnP = some ⟨ocTurnP, odTurnP, .func (PySem.W.fnOf "turn" "turn" (defArgs sTurnP) (defBody sTurnP) (defScope sTurnP) .none kVTurnP dcTurnP pmTurnP anTurnP cdTurnP ctTurnP), slTurnP⟩) (jTurnP : PySem.W.codeIn K cdTurnP "turn" = true) (kTurnP : PySem.W.keepIn K (.ref fTurnP) = true)
    {fNx : Addr} {ocNx : Value} {odNx anNx : Option Addr} {slNx : Array (Option Value)} {kVNx dcNx pmNx cdNx ctNx : Value} (eNx : PySem.W.nsIn K mainGlobals "next_corner" = some (some (.ref fNx))) (lNx : K.lookup fNx = some ⟨ocNx, odNx, .func (PySem.W.fnOf "next_corner" "next_corner" (defArgs sNx) (defBody sNx) (defScope sNx) .none kVNx dcNx pmNx anNx cdNx ctNx), slNx⟩) (jNx : PySem.W.codeIn K cdNx "next_corner" = true) (kNx : PySem.W.keepIn K (.ref fNx) = true)
    {fLs : Addr} {ocLs : Value} {odLs anLs : Option Addr} {slLs : Array (Option Value)} {kVLs dcLs pmLs cdLs ctLs : Value} (eLs : PySem.W.nsIn K mainGlobals "is_left_of_side" = some (some (.ref fLs))) (lLs : K.lookup fLs = some ⟨ocLs, odLs, .func (PySem.W.fnOf "is_left_of_side" "is_left_of_side" (defArgs sLs) (defBody sLs) (defScope sLs) .none kVLs dcLs pmLs anLs cdLs ctLs), slLs⟩) (jLs : PySem.W.codeIn K cdLs "is_left_of_side" = true) (kLs : PySem.W.keepIn K (.ref fLs) = true)
    {fOut : Addr} {ocOut : Value} {odOut anOut : Option Addr} {slOut : Array (Option Value)} {kVOut dcOut pmOut cdOut ctOut : Value} (eOut : PySem.W.nsIn K mainGlobals "is_outline" = some (some (.ref fOut))) (lOut : K.lookup fOut = some ⟨ocOut, odOut, .func (PySem.W.fnOf "is_outline" "is_outline" (defArgs sOut) (defBody sOut) (defScope sOut) .none kVOut dcOut pmOut anOut cdOut ctOut), slOut⟩) (jOut : PySem.W.codeIn K cdOut "is_outline" = true) (kOut : PySem.W.keepIn K (.ref fOut) = true)
    {fInt : Addr} {ocInt : Value} {odInt anInt : Option Addr} {slInt : Array (Option Value)} {kVInt dcInt pmInt cdInt ctInt : Value} (eInt : PySem.W.nsIn K mainGlobals "is_integer" = some (some (.ref fInt))) (lInt : K.lookup fInt = some ⟨ocInt, odInt, .func (PySem.W.fnOf "is_integer" "is_integer" (defArgs sInt) (defBody sInt) (defScope sInt) .none kVInt dcInt pmInt anInt cdInt ctInt), slInt⟩) (jInt : PySem.W.codeIn K cdInt "is_integer" = true) (kInt : PySem.W.keepIn K (.ref fInt) = true)
    {fBet : Addr} {ocBet : Value} {odBet anBet : Option Addr} {slBet : Array (Option Value)} {kVBet dcBet pmBet cdBet ctBet : Value} (eBet : PySem.W.nsIn K mainGlobals "is_between" = some (some (.ref fBet))) (lBet : K.lookup fBet = some ⟨ocBet, odBet, .func (PySem.W.fnOf "is_between" "is_between" (defArgs sBet) (defBody sBet) (defScope sBet) .none kVBet dcBet pmBet anBet cdBet ctBet), slBet⟩) (jBet : PySem.W.codeIn K cdBet "is_between" = true) (kBet : PySem.W.keepIn K (.ref fBet) = true)
    {fIsP : Addr} {ocIsP : Value} {odIsP anIsP : Option Addr} {slIsP : Array (Option Value)} {kVIsP dcIsP pmIsP cdIsP ctIsP : Value} (eIsP : PySem.W.nsIn K mainGlobals "is_point" = some (some (.ref fIsP))) (lIsP : K.lookup fIsP = some ⟨ocIsP, odIsP, .func (PySem.W.fnOf "is_point" "is_point" (defArgs sIsP) (defBody sIsP) (defScope sIsP) .none kVIsP dcIsP pmIsP anIsP cdIsP ctIsP), slIsP⟩) (jIsP : PySem.W.codeIn K cdIsP "is_point" = true) (kIsP : PySem.W.keepIn K (.ref fIsP) = true)
    {fIsC : Addr} {ocIsC : Value} {odIsC anIsC : Option Addr} {slIsC : Array (Option Value)} {kVIsC dcIsC pmIsC cdIsC ctIsC : Value} (eIsC : PySem.W.nsIn K mainGlobals "is_corner" = some (some (.ref fIsC))) (lIsC : K.lookup fIsC = some ⟨ocIsC, odIsC, .func (PySem.W.fnOf "is_corner" "is_corner" (defArgs sIsC) (defBody sIsC) (defScope sIsC) .none kVIsC dcIsC pmIsC anIsC cdIsC ctIsC), slIsC⟩) (jIsC : PySem.W.codeIn K cdIsC "is_corner" = true) (kIsC : PySem.W.keepIn K (.ref fIsC) = true)
    {fIsB : Addr} {ocIsB : Value} {odIsB anIsB : Option Addr} {slIsB : Array (Option Value)} {kVIsB dcIsB pmIsB cdIsB ctIsB : Value} (eIsB : PySem.W.nsIn K mainGlobals "is_bottom" = some (some (.ref fIsB))) (lIsB : K.lookup fIsB = some ⟨ocIsB, odIsB, .func (PySem.W.fnOf "is_bottom" "is_bottom" (defArgs sIsB) (defBody sIsB) (defScope sIsB) .none kVIsB dcIsB pmIsB anIsB cdIsB ctIsB), slIsB⟩) (jIsB : PySem.W.codeIn K cdIsB "is_bottom" = true) (kIsB : PySem.W.keepIn K (.ref fIsB) = true)
    {fCs : Addr} {ocCs : Value} {odCs anCs : Option Addr} {slCs : Array (Option Value)} {kVCs dcCs pmCs cdCs ctCs : Value} (eCs : PySem.W.nsIn K mainGlobals "are_corners" = some (some (.ref fCs))) (lCs : K.lookup fCs = some ⟨ocCs, odCs, .func (PySem.W.fnOf "are_corners" "are_corners" (defArgs sCs) (defBody sCs) (defScope sCs) .none kVCs dcCs pmCs anCs cdCs ctCs), slCs⟩) (jCs : PySem.W.codeIn K cdCs "are_corners" = true) (kCs : PySem.W.keepIn K (.ref fCs) = true)
    {fTot : Addr} {ocTot : Value} {odTot anTot : Option Addr} {slTot : Array (Option Value)} {kVTot dcTot pmTot cdTot ctTot : Value} (eTot : PySem.W.nsIn K mainGlobals "side_total" = some (some (.ref fTot))) (lTot : K.lookup fTot = some ⟨ocTot, odTot, .func (PySem.W.fnOf "side_total" "side_total" (defArgs sTot) (defBody sTot) (defScope sTot) .none kVTot dcTot pmTot anTot cdTot ctTot), slTot⟩) (jTot : PySem.W.codeIn K cdTot "side_total" = true) (kTot : PySem.W.keepIn K (.ref fTot) = true)
    {fSd : Addr} {ocSd : Value} {odSd anSd : Option Addr} {slSd : Array (Option Value)} {kVSd dcSd pmSd cdSd ctSd : Value} (eSd : PySem.W.nsIn K mainGlobals "are_open_sides" = some (some (.ref fSd))) (lSd : K.lookup fSd = some ⟨ocSd, odSd, .func (PySem.W.fnOf "are_open_sides" "are_open_sides" (defArgs sSd) (defBody sSd) (defScope sSd) .none kVSd dcSd pmSd anSd cdSd ctSd), slSd⟩) (jSd : PySem.W.codeIn K cdSd "are_open_sides" = true) (kSd : PySem.W.keepIn K (.ref fSd) = true)
    {fChB : Addr} {ocChB : Value} {odChB anChB : Option Addr} {slChB : Array (Option Value)} {kVChB dcChB pmChB cdChB ctChB : Value} (eChB : PySem.W.nsIn K mainGlobals "check_bottom" = some (some (.ref fChB))) (lChB : K.lookup fChB = some ⟨ocChB, odChB, .func (PySem.W.fnOf "check_bottom" "check_bottom" (defArgs sChB) (defBody sChB) (defScope sChB) .none kVChB dcChB pmChB anChB cdChB ctChB), slChB⟩) (jChB : PySem.W.codeIn K cdChB "check_bottom" = true) (kChB : PySem.W.keepIn K (.ref fChB) = true)
    {fChk : Addr} {ocChk : Value} {odChk anChk : Option Addr} {slChk : Array (Option Value)} {kVChk dcChk pmChk cdChk ctChk : Value} (eChk : PySem.W.nsIn K mainGlobals "check_fence" = some (some (.ref fChk))) (lChk : K.lookup fChk = some ⟨ocChk, odChk, .func (PySem.W.fnOf "check_fence" "check_fence" (defArgs sChk) (defBody sChk) (defScope sChk) .none kVChk dcChk pmChk anChk cdChk ctChk), slChk⟩) (jChk : PySem.W.codeIn K cdChk "check_fence" = true) (kChk : PySem.W.keepIn K (.ref fChk) = true)
    {fCkS : Addr} {ocCkS : Value} {odCkS anCkS : Option Addr} {slCkS : Array (Option Value)} {kVCkS dcCkS pmCkS cdCkS ctCkS : Value} (eCkS : PySem.W.nsIn K mainGlobals "check_size" = some (some (.ref fCkS))) (lCkS : K.lookup fCkS = some ⟨ocCkS, odCkS, .func (PySem.W.fnOf "check_size" "check_size" (defArgs sCkS) (defBody sCkS) (defScope sCkS) .none kVCkS dcCkS pmCkS anCkS cdCkS ctCkS), slCkS⟩) (jCkS : PySem.W.codeIn K cdCkS "check_size" = true) (kCkS : PySem.W.keepIn K (.ref fCkS) = true)
    {fCkd : Addr} {ocCkd : Value} {odCkd anCkd : Option Addr} {slCkd : Array (Option Value)} {kVCkd dcCkd pmCkd cdCkd ctCkd : Value} (eCkd : PySem.W.nsIn K mainGlobals "check_direction" = some (some (.ref fCkd))) (lCkd : K.lookup fCkd = some ⟨ocCkd, odCkd, .func (PySem.W.fnOf "check_direction" "check_direction" (defArgs sCkd) (defBody sCkd) (defScope sCkd) .none kVCkd dcCkd pmCkd anCkd cdCkd ctCkd), slCkd⟩) (jCkd : PySem.W.codeIn K cdCkd "check_direction" = true) (kCkd : PySem.W.keepIn K (.ref fCkd) = true)
    {fLea : Addr} {ocLea : Value} {odLea anLea : Option Addr} {slLea : Array (Option Value)} {kVLea dcLea pmLea cdLea ctLea : Value} (eLea : PySem.W.nsIn K mainGlobals "least_from" = some (some (.ref fLea))) (lLea : K.lookup fLea = some ⟨ocLea, odLea, .func (PySem.W.fnOf "least_from" "least_from" (defArgs sLea) (defBody sLea) (defScope sLea) .none kVLea dcLea pmLea anLea cdLea ctLea), slLea⟩) (jLea : PySem.W.codeIn K cdLea "least_from" = true) (kLea : PySem.W.keepIn K (.ref fLea) = true)
    {fGrt : Addr} {ocGrt : Value} {odGrt anGrt : Option Addr} {slGrt : Array (Option Value)} {kVGrt dcGrt pmGrt cdGrt ctGrt : Value} (eGrt : PySem.W.nsIn K mainGlobals "greatest_to" = some (some (.ref fGrt))) (lGrt : K.lookup fGrt = some ⟨ocGrt, odGrt, .func (PySem.W.fnOf "greatest_to" "greatest_to" (defArgs sGrt) (defBody sGrt) (defScope sGrt) .none kVGrt dcGrt pmGrt anGrt cdGrt ctGrt), slGrt⟩) (jGrt : PySem.W.codeIn K cdGrt "greatest_to" = true) (kGrt : PySem.W.keepIn K (.ref fGrt) = true)
    {fEnd : Addr} {ocEnd : Value} {odEnd anEnd : Option Addr} {slEnd : Array (Option Value)} {kVEnd dcEnd pmEnd cdEnd ctEnd : Value} (eEnd : PySem.W.nsIn K mainGlobals "ends_along" = some (some (.ref fEnd))) (lEnd : K.lookup fEnd = some ⟨ocEnd, odEnd, .func (PySem.W.fnOf "ends_along" "ends_along" (defArgs sEnd) (defBody sEnd) (defScope sEnd) .none kVEnd dcEnd pmEnd anEnd cdEnd ctEnd), slEnd⟩) (jEnd : PySem.W.codeIn K cdEnd "ends_along" = true) (kEnd : PySem.W.keepIn K (.ref fEnd) = true)
    {fLn : Addr} {ocLn : Value} {odLn anLn : Option Addr} {slLn : Array (Option Value)} {kVLn dcLn pmLn cdLn ctLn : Value} (eLn : PySem.W.nsIn K mainGlobals "line_number" = some (some (.ref fLn))) (lLn : K.lookup fLn = some ⟨ocLn, odLn, .func (PySem.W.fnOf "line_number" "line_number" (defArgs sLn) (defBody sLn) (defScope sLn) .none kVLn dcLn pmLn anLn cdLn ctLn), slLn⟩) (jLn : PySem.W.codeIn K cdLn "line_number" = true) (kLn : PySem.W.keepIn K (.ref fLn) = true)
    {fSto : Addr} {ocSto : Value} {odSto anSto : Option Addr} {slSto : Array (Option Value)} {kVSto dcSto pmSto cdSto ctSto : Value} (eSto : PySem.W.nsIn K mainGlobals "_law_stock" = some (some (.ref fSto))) (lSto : K.lookup fSto = some ⟨ocSto, odSto, .func (PySem.W.fnOf "_law_stock" "_law_stock" (defArgs sSto) (defBody sSto) (defScope sSto) .none kVSto dcSto pmSto anSto cdSto ctSto), slSto⟩) (jSto : PySem.W.codeIn K cdSto "_law_stock" = true) (kSto : PySem.W.keepIn K (.ref fSto) = true)
    {fDrw : Addr} {ocDrw : Value} {odDrw anDrw : Option Addr} {slDrw : Array (Option Value)} {kVDrw dcDrw pmDrw cdDrw ctDrw : Value} (eDrw : PySem.W.nsIn K mainGlobals "_law_draw" = some (some (.ref fDrw))) (lDrw : K.lookup fDrw = some ⟨ocDrw, odDrw, .func (PySem.W.fnOf "_law_draw" "_law_draw" (defArgs sDrw) (defBody sDrw) (defScope sDrw) .none kVDrw dcDrw pmDrw anDrw cdDrw ctDrw), slDrw⟩) (jDrw : PySem.W.codeIn K cdDrw "_law_draw" = true) (kDrw : PySem.W.keepIn K (.ref fDrw) = true)
    {fTr : Addr} {ocTr : Value} {odTr anTr : Option Addr} {slTr : Array (Option Value)} {kVTr dcTr pmTr cdTr ctTr : Value} (eTr : PySem.W.nsIn K mainGlobals "_law_cross" = some (some (.ref fTr))) (lTr : K.lookup fTr = some ⟨ocTr, odTr, .func (PySem.W.fnOf "_law_cross" "_law_cross" (defArgs sTr) (defBody sTr) (defScope sTr) .none kVTr dcTr pmTr anTr cdTr ctTr), slTr⟩) (jTr : PySem.W.codeIn K cdTr "_law_cross" = true) (kTr : PySem.W.keepIn K (.ref fTr) = true)
    {fCor : Addr} {ocCor : Value} {odCor anCor : Option Addr} {slCor : Array (Option Value)} {kVCor dcCor pmCor cdCor ctCor : Value} (eCor : PySem.W.nsIn K mainGlobals "_law_around" = some (some (.ref fCor))) (lCor : K.lookup fCor = some ⟨ocCor, odCor, .func (PySem.W.fnOf "_law_around" "_law_around" (defArgs sCor) (defBody sCor) (defScope sCor) .none kVCor dcCor pmCor anCor cdCor ctCor), slCor⟩) (jCor : PySem.W.codeIn K cdCor "_law_around" = true) (kCor : PySem.W.keepIn K (.ref fCor) = true)
    {fDwn : Addr} {ocDwn : Value} {odDwn anDwn : Option Addr} {slDwn : Array (Option Value)} {kVDwn dcDwn pmDwn cdDwn ctDwn : Value} (eDwn : PySem.W.nsIn K mainGlobals "_law_drawn" = some (some (.ref fDwn))) (lDwn : K.lookup fDwn = some ⟨ocDwn, odDwn, .func (PySem.W.fnOf "_law_drawn" "_law_drawn" (defArgs sDwn) (defBody sDwn) (defScope sDwn) .none kVDwn dcDwn pmDwn anDwn cdDwn ctDwn), slDwn⟩) (jDwn : PySem.W.codeIn K cdDwn "_law_drawn" = true) (kDwn : PySem.W.keepIn K (.ref fDwn) = true)
    {fWay : Addr} {ocWay : Value} {odWay anWay : Option Addr} {slWay : Array (Option Value)} {kVWay dcWay pmWay cdWay ctWay : Value} (eWay : PySem.W.nsIn K mainGlobals "_law_way" = some (some (.ref fWay))) (lWay : K.lookup fWay = some ⟨ocWay, odWay, .func (PySem.W.fnOf "_law_way" "_law_way" (defArgs sWay) (defBody sWay) (defScope sWay) .none kVWay dcWay pmWay anWay cdWay ctWay), slWay⟩) (jWay : PySem.W.codeIn K cdWay "_law_way" = true) (kWay : PySem.W.keepIn K (.ref fWay) = true)
    {fVls : Addr} {ocVls : Value} {odVls anVls : Option Addr} {slVls : Array (Option Value)} {kVVls dcVls pmVls cdVls ctVls : Value} (eVls : PySem.W.nsIn K mainGlobals "_law_values" = some (some (.ref fVls))) (lVls : K.lookup fVls = some ⟨ocVls, odVls, .func (PySem.W.fnOf "_law_values" "_law_values" (defArgs sVls) (defBody sVls) (defScope sVls) .none kVVls dcVls pmVls anVls cdVls ctVls), slVls⟩) (jVls : PySem.W.codeIn K cdVls "_law_values" = true) (kVls : PySem.W.keepIn K (.ref fVls) = true)
    {fDue : Addr} {ocDue : Value} {odDue anDue : Option Addr} {slDue : Array (Option Value)} {kVDue dcDue pmDue cdDue ctDue : Value} (eDue : PySem.W.nsIn K mainGlobals "_law_due" = some (some (.ref fDue))) (lDue : K.lookup fDue = some ⟨ocDue, odDue, .func (PySem.W.fnOf "_law_due" "_law_due" (defArgs sDue) (defBody sDue) (defScope sDue) .none kVDue dcDue pmDue anDue cdDue ctDue), slDue⟩) (jDue : PySem.W.codeIn K cdDue "_law_due" = true) (kDue : PySem.W.keepIn K (.ref fDue) = true)
    {fCtd : Addr} {ocCtd : Value} {odCtd anCtd : Option Addr} {slCtd : Array (Option Value)} {kVCtd dcCtd pmCtd cdCtd ctCtd : Value} (eCtd : PySem.W.nsIn K mainGlobals "_law_counted" = some (some (.ref fCtd))) (lCtd : K.lookup fCtd = some ⟨ocCtd, odCtd, .func (PySem.W.fnOf "_law_counted" "_law_counted" (defArgs sCtd) (defBody sCtd) (defScope sCtd) .none kVCtd dcCtd pmCtd anCtd cdCtd ctCtd), slCtd⟩) (jCtd : PySem.W.codeIn K cdCtd "_law_counted" = true) (kCtd : PySem.W.keepIn K (.ref fCtd) = true)
    {fRt : Addr} {ocRt : Value} {odRt anRt : Option Addr} {slRt : Array (Option Value)} {kVRt dcRt pmRt cdRt ctRt : Value} (eRt : PySem.W.nsIn K mainGlobals "_law_right" = some (some (.ref fRt))) (lRt : K.lookup fRt = some ⟨ocRt, odRt, .func (PySem.W.fnOf "_law_right" "_law_right" (defArgs sRt) (defBody sRt) (defScope sRt) .none kVRt dcRt pmRt anRt cdRt ctRt), slRt⟩) (jRt : PySem.W.codeIn K cdRt "_law_right" = true) (kRt : PySem.W.keepIn K (.ref fRt) = true)
    {fLw : Addr} {ocLw : Value} {odLw anLw : Option Addr} {slLw : Array (Option Value)} {kVLw dcLw pmLw cdLw ctLw : Value} (eLw : PySem.W.nsIn K mainGlobals "law" = some (some (.ref fLw))) (lLw : K.lookup fLw = some ⟨ocLw, odLw, .func (PySem.W.fnOf "law" "law" (defArgs sLw) (defBody sLw) (defScope sLw) .none kVLw dcLw pmLw anLw cdLw ctLw), slLw⟩) (jLw : PySem.W.codeIn K cdLw "law" = true) (kLw : PySem.W.keepIn K (.ref fLw) = true)
    : ∃ fd : FuncData, (∀ (s : Shared) (u : Value), BindsTo s fd ⟨[u], []⟩ [("_law_script", u)]) ∧ ∀ base : Heap, K.In base → base.Ns mainGlobals mg → FnG P w K mg base CX0 8 fa fd ["_law_script"] (spLw K) := by
  have z := hfa.symm.trans (PySem.W.mg_of X G eLw)
  cases z
  have m : ∀ {x : Str} {v : Value}, PySem.W.nsIn K mainGlobals x = some (some v) → mg x = some v := fun e => PySem.W.mg_of X G e
  have n : ∀ {x : Str}, PySem.W.nsIn K mainGlobals x = some none → mg x = none := fun e => PySem.W.mg_none_of X G e
  have FTurnP := fun_mk (st := sTurnP) lTurnP jTurnP kTurnP
  have BTurnP := FTurnP.binds (ps := ["one", "two", "three"]) fun _ _ _ _ _ _ us hl => match us, hl with | [_, _, _], _ => rfl
  have FNx := fun_mk (st := sNx) lNx jNx kNx
  have BNx := FNx.binds (ps := ["corners", "side"]) fun _ _ _ _ _ _ us hl => match us, hl with | [_, _], _ => rfl
  have FLs := fun_mk (st := sLs) lLs jLs kLs
  have BLs := FLs.binds (ps := ["corners", "side"]) fun _ _ _ _ _ _ us hl => match us, hl with | [_, _], _ => rfl
  have FOut := fun_mk (st := sOut) lOut jOut kOut
  have BOut := FOut.binds (ps := ["corners"]) fun _ _ _ _ _ _ us hl => match us, hl with | [_], _ => rfl
  have FInt := fun_mk (st := sInt) lInt jInt kInt
  have BInt := FInt.binds (ps := ["value"]) fun _ _ _ _ _ _ us hl => match us, hl with | [_], _ => rfl
  have FBet := fun_mk (st := sBet) lBet jBet kBet
  have BBet := FBet.binds (ps := ["value", "least", "greatest"]) fun _ _ _ _ _ _ us hl => match us, hl with | [_, _, _], _ => rfl
  have FIsP := fun_mk (st := sIsP) lIsP jIsP kIsP
  have BIsP := FIsP.binds (ps := ["value"]) fun _ _ _ _ _ _ us hl => match us, hl with | [_], _ => rfl
  have FIsC := fun_mk (st := sIsC) lIsC jIsC kIsC
  have BIsC := FIsC.binds (ps := ["value"]) fun _ _ _ _ _ _ us hl => match us, hl with | [_], _ => rfl
  have FIsB := fun_mk (st := sIsB) lIsB jIsB kIsB
  have BIsB := FIsB.binds (ps := ["value"]) fun _ _ _ _ _ _ us hl => match us, hl with | [_], _ => rfl
  have FCs := fun_mk (st := sCs) lCs jCs kCs
  have BCs := FCs.binds (ps := ["value"]) fun _ _ _ _ _ _ us hl => match us, hl with | [_], _ => rfl
  have FTot := fun_mk (st := sTot) lTot jTot kTot
  have BTot := FTot.binds (ps := ["corners"]) fun _ _ _ _ _ _ us hl => match us, hl with | [_], _ => rfl
  have FSd := fun_mk (st := sSd) lSd jSd kSd
  have BSd := FSd.binds (ps := ["value", "total"]) fun _ _ _ _ _ _ us hl => match us, hl with | [_, _], _ => rfl
  have FChB := fun_mk (st := sChB) lChB jChB kChB
  have BChB := FChB.binds (ps := ["value"]) fun _ _ _ _ _ _ us hl => match us, hl with | [_], _ => rfl
  have FChk := fun_mk (st := sChk) lChk jChk kChk
  have BChk := FChk.binds (ps := ["value"]) fun _ _ _ _ _ _ us hl => match us, hl with | [_], _ => rfl
  have FCkS := fun_mk (st := sCkS) lCkS jCkS kCkS
  have BCkS := FCkS.binds (ps := ["value"]) fun _ _ _ _ _ _ us hl => match us, hl with | [_], _ => rfl
  have FCkd := fun_mk (st := sCkd) lCkd jCkd kCkd
  have BCkd := FCkd.binds (ps := ["value"]) fun _ _ _ _ _ _ us hl => match us, hl with | [_], _ => rfl
  have FLea := fun_mk (st := sLea) lLea jLea kLea
  have BLea := FLea.binds (ps := ["top", "bottom", "beyond"]) fun _ _ _ _ _ _ us hl => match us, hl with | [_, _, _], _ => rfl
  have FGrt := fun_mk (st := sGrt) lGrt jGrt kGrt
  have BGrt := FGrt.binds (ps := ["top", "bottom", "beyond"]) fun _ _ _ _ _ _ us hl => match us, hl with | [_, _, _], _ => rfl
  have FEnd := fun_mk (st := sEnd) lEnd jEnd kEnd
  have BEnd := FEnd.binds (ps := ["corners", "direction"]) fun _ _ _ _ _ _ us hl => match us, hl with | [_, _], _ => rfl
  have FLn := fun_mk (st := sLn) lLn jLn kLn
  have BLn := FLn.binds (ps := ["fence", "size", "direction"]) fun _ _ _ _ _ _ us hl => match us, hl with | [_, _, _], _ => rfl
  have FSto := fun_mk (st := sSto) lSto jSto kSto
  have BSto := FSto.binds (ps := ["_law_script"]) fun _ _ _ _ _ _ us hl => match us, hl with | [_], _ => rfl
  have FDrw := fun_mk (st := sDrw) lDrw jDrw kDrw
  have BDrw := FDrw.binds (ps := ["_law_stock_here", "_law_wide"]) fun _ _ _ _ _ _ us hl => match us, hl with | [_, _], _ => rfl
  have FTr := fun_mk (st := sTr) lTr jTr kTr
  have BTr := FTr.binds (ps := ["_law_one", "_law_two", "_law_three"]) fun _ _ _ _ _ _ us hl => match us, hl with | [_, _, _], _ => rfl
  have FCor := fun_mk (st := sCor) lCor jCor kCor
  have BCor := FCor.binds (ps := ["_law_spots"]) fun _ _ _ _ _ _ us hl => match us, hl with | [_], _ => rfl
  have FDwn := fun_mk (st := sDwn) lDwn jDwn kDwn
  have BDwn := FDwn.binds (ps := ["_law_stock_here", "_law_bound", "_law_most", "_law_many"]) fun _ _ _ _ _ _ us hl => match us, hl with | [_, _, _, _], _ => rfl
  have FWay := fun_mk (st := sWay) lWay jWay kWay
  have BWay := FWay.binds (ps := ["_law_stock_here", "_law_far"]) fun _ _ _ _ _ _ us hl => match us, hl with | [_, _], _ => rfl
  have FVls := fun_mk (st := sVls) lVls jVls kVls
  have BVls := FVls.binds (ps := ["_law_plot", "_law_way_here"]) fun _ _ _ _ _ _ us hl => match us, hl with | [_, _], _ => rfl
  have FDue := fun_mk (st := sDue) lDue jDue kDue
  have BDue := FDue.binds (ps := ["_law_plot", "_law_scale", "_law_way_here"]) fun _ _ _ _ _ _ us hl => match us, hl with | [_, _, _], _ => rfl
  have FCtd := fun_mk (st := sCtd) lCtd jCtd kCtd
  have BCtd := FCtd.binds (ps := ["_law_plot", "_law_scale", "_law_way_here"]) fun _ _ _ _ _ _ us hl => match us, hl with | [_, _, _], _ => rfl
  have FRt := fun_mk (st := sRt) lRt jRt kRt
  have BRt := FRt.binds (ps := ["_law_plot", "_law_scale", "_law_way_here"]) fun _ _ _ _ _ _ us hl => match us, hl with | [_, _, _], _ => rfl
  have FLw := fun_mk (st := sLw) lLw jLw kLw
  have BLw := FLw.binds (ps := ["_law_script"]) fun _ _ _ _ _ _ us hl => match us, hl with | [_], _ => rfl
  have e30 : (1000000000000000000000000000000 : Int) = 10 ^ 30 := by decide
  have T : Nms mg := ⟨(n b0), (n b1), (n b2), (n b3), (n b4), (n b5), (n b6), ⟨t1, by rw [m v1, e30]⟩, ⟨t2, m v2⟩, ⟨t3, m v3⟩⟩
  have T2 : Nm2 mg := ⟨(n b7), (n b8), (n b9), (n b10), (n b11), (n b12), (n b13), (n b14), (n b15)⟩
  refine ⟨PySem.W.fnOf "law" "law" (defArgs sLw) (defBody sLw) (defScope sLw) .none kVLw dcLw pmLw anLw cdLw ctLw, fun s v => .of_eq rfl, fun base _ _ => ?_⟩
  have oNx : FnOk P w K mg base CX0 1 fNx _ ["corners", "side"] (spNx K) := ok_nx FNx T
  have oLs : FnOk P w K mg base CX0 2 fLs _ ["corners", "side"] (spLs K) := ok_ls FLs FTurnP BTurnP (m eTurnP) FNx BNx (m eNx) T
  have oOut : FnOk P w K mg base CX0 3 fOut _ ["corners"] (spOut K) := ok_out FOut oLs FLs.kp BLs (m eLs) T T2
  have oBet : FnOk P w K mg base CX0 2 fBet _ ["value", "least", "greatest"] (spBet) := ok_bet FBet FInt BInt (m eInt) T
  have oIsP : FnOk P w K mg base CX0 2 fIsP _ ["value"] (spIsP K) := ok_isP FIsP FInt BInt (m eInt) T
  have oIsC : FnOk P w K mg base CX0 3 fIsC _ ["value"] (spIsC K) := ok_isC FIsC oIsP FIsP.kp BIsP (m eIsP) T
  have oIsB : FnOk P w K mg base CX0 3 fIsB _ ["value"] (spIsB) := ok_isB FIsB oBet FBet.kp BBet (m eBet) T
  have oCs : FnOk P w K mg base CX0 4 fCs _ ["value"] (spCs K) := ok_cs FCs oIsC FIsC.kp BIsC (m eIsC) oOut FOut.kp BOut (m eOut) T T2
  have oTot : FnOk P w K mg base CX0 1 fTot _ ["corners"] (spTot K) := ok_tot FTot T
  have oSd : FnOk P w K mg base CX0 3 fSd _ ["value", "total"] (spSd K) := ok_sd FSd oBet FBet.kp BBet (m eBet) T
  have oChB : FnOk P w K mg base CX0 4 fChB _ ["value"] (spChB) := ok_chB FChB oIsB FIsB.kp BIsB (m eIsB)
  have oChk : FnOk P w K mg base CX0 5 fChk _ ["value"] (spChk K) := ok_chk FChk T oChB FChB.kp BChB (m eChB) oCs FCs.kp BCs (m eCs) (oTot.mono (by decide)) FTot.kp BTot (m eTot) (oSd.mono (by decide)) FSd.kp BSd (m eSd)
  have oCkd : FnOk P w K mg base CX0 3 fCkd _ ["value"] (spCkd K) := ok_ckd FCkd ⟨oIsP.mono (by decide), FIsP.kp, BIsP, m eIsP⟩
  have oEnd : FnOk P w K mg base CX0 1 fEnd _ ["corners", "direction"] (spEnd K) := ok_end FEnd (n b7) (n b8)
  have oCkS : FnOk P w K mg base CX0 3 fCkS _ ["value"] (spCkS) := ok_ckS FCkS T ⟨oBet.mono (by decide), FBet.kp, BBet, m eBet⟩
  have oLea : FnOk P w K mg base CX0 1 fLea _ ["top", "bottom", "beyond"] (spLea) := ok_lea FLea
  have oGrt : FnOk P w K mg base CX0 2 fGrt _ ["top", "bottom", "beyond"] (spGrt) := ok_grt FGrt ⟨oLea.mono (by decide), FLea.kp, BLea, m eLea⟩
  have oLn : FnOk P w K mg base CX0 6 fLn _ ["fence", "size", "direction"] (spLn K) := ok_ln FLn ⟨oChk.mono (by decide), FChk.kp, BChk, m eChk⟩ ⟨oCkS.mono (by decide), FCkS.kp, BCkS, m eCkS⟩ ⟨oCkd.mono (by decide), FCkd.kp, BCkd, m eCkd⟩ ⟨oEnd.mono (by decide), FEnd.kp, BEnd, m eEnd⟩ ⟨oGrt.mono (by decide), FGrt.kp, BGrt, m eGrt⟩ ⟨oLea.mono (by decide), FLea.kp, BLea, m eLea⟩
  have oSto : FnOk P w K mg base CX0 1 fSto _ ["_law_script"] (spSto K) := ok_sto FSto (n b1) (n b12)
  have oDrw : FnOk P w K mg base CX0 1 fDrw _ ["_law_stock_here", "_law_wide"] (spDrw) := ok_drw FDrw (n b1)
  have oTr : FnOk P w K mg base CX0 1 fTr _ ["_law_one", "_law_two", "_law_three"] (spTr K) := ok_tr FTr
  have oCor : FnOk P w K mg base CX0 2 fCor _ ["_law_spots"] (spHul K) := ok_cor FCor ⟨oTr.mono (by decide), FTr.kp, BTr, m eTr⟩ (n b5) (n b15) (n b16)
  have oDwn : FnOk P w K mg base CX0 3 fDwn _ ["_law_stock_here", "_law_bound", "_law_most", "_law_many"] (spDwn K) := ok_dwn FDwn (n b5) (n b11) (n b4) ⟨oDrw.mono (by decide), FDrw.kp, BDrw, m eDrw⟩ ⟨oCor.mono (by decide), FCor.kp, BCor, m eCor⟩
  have oWay : FnOk P w K mg base CX0 2 fWay _ ["_law_stock_here", "_law_far"] (spWay K) := ok_way FWay ⟨oDrw.mono (by decide), FDrw.kp, BDrw, m eDrw⟩
  have oVls : FnOk P w K mg base CX0 1 fVls _ ["_law_plot", "_law_way_here"] (spVls K) := ok_vls FVls
  have oDue : FnOk P w K mg base CX0 2 fDue _ ["_law_plot", "_law_scale", "_law_way_here"] (spDue K) := ok_due FDue (n b7) (n b8) ⟨oVls.mono (by decide), FVls.kp, BVls, m eVls⟩
  have oCtd : FnOk P w K mg base CX0 2 fCtd _ ["_law_plot", "_law_scale", "_law_way_here"] (spDue K) := ok_ctd FCtd (n b7) (n b8) (n b11) ⟨oVls.mono (by decide), FVls.kp, BVls, m eVls⟩
  have oRt : FnG P w K mg base CX0 7 fRt _ ["_law_plot", "_law_scale", "_law_way_here"] (spRt K) := ok_rt FRt (n b14) ⟨oDue.mono (by decide), FDue.kp, BDue, m eDue⟩ ⟨oCtd.mono (by decide), FCtd.kp, BCtd, m eCtd⟩ ⟨oLn.mono (by decide), FLn.kp, BLn, m eLn⟩ (kw_rev FLn fun _ _ _ _ _ _ _ _ _ => rfl)
  exact ok_lw FLw (n b11) (n b1) ⟨oSto.mono (by decide), FSto.kp, BSto, m eSto⟩ ⟨oDrw.mono (by decide), FDrw.kp, BDrw, m eDrw⟩ ⟨oDwn.mono (by decide), FDwn.kp, BDwn, m eDwn⟩ ⟨oWay.mono (by decide), FWay.kp, BWay, m eWay⟩ ⟨oRt.mono (by decide), FRt.kp, BRt, m eRt⟩ ⟨oLn.mono (by decide), FLn.kp, BLn, m eLn⟩
end K38
set_option Elab.async false
set_option linter.all false
set_option maxRecDepth 100000
open PySem PySem.W PyProof.Rows
set_option maxHeartbeats 0 in
theorem PySem.Challenge.cw_growfences_k38_lines_that_meet_fences_holds : PySem.Challenge.rw_growfences_k38_lines_that_meet_fences.Holds := by
  w_on; o_law; k_head; (case hw => w_witness2)
  k_fill
  refine L2.walk_ofG (l := PySem.Challenge.rw_growfences_k38_lines_that_meet_fences) (n := 63) (k := 8) (x := "_law_script") (sp := fun w => K38.spLw _) rfl (by decide) rfl ⟨rfl, by decide, by decide⟩ (fun w h Y => PySem.W.kIn_of Y) ?F (fun _ _ a ns hl _ hS => ⟨a, ns, rfl, hS, hl, fun _ => rfl⟩)
  case F =>
    intro w mg fa h KX G hmg
    refine' K38.top_mk KX G hmg ?v1 ?v2 ?v3 ?b0 ?b1 ?b2 ?b3 ?b4 ?b5 ?b6 ?b7 ?b8 ?b9 ?b10 ?b11 ?b12 ?b13 ?b14 ?b15 ?b16 ?eTurnP ?lTurnP ?jTurnP ?kTurnP ?eNx ?lNx ?jNx ?kNx ?eLs ?lLs ?jLs ?kLs ?eOut ?lOut ?jOut ?kOut ?eInt ?lInt ?jInt ?kInt ?eBet ?lBet ?jBet ?kBet ?eIsP ?lIsP ?jIsP ?kIsP ?eIsC ?lIsC ?jIsC ?kIsC ?eIsB ?lIsB ?jIsB ?kIsB ?eCs ?lCs ?jCs ?kCs ?eTot ?lTot ?jTot ?kTot ?eSd ?lSd ?jSd ?kSd ?eChB ?lChB ?jChB ?kChB ?eChk ?lChk ?jChk ?kChk ?eCkS ?lCkS ?jCkS ?kCkS ?eCkd ?lCkd ?jCkd ?kCkd ?eLea ?lLea ?jLea ?kLea ?eGrt ?lGrt ?jGrt ?kGrt ?eEnd ?lEnd ?jEnd ?kEnd ?eLn ?lLn ?jLn ?kLn ?eSto ?lSto ?jSto ?kSto ?eDrw ?lDrw ?jDrw ?kDrw ?eTr ?lTr ?jTr ?kTr ?eCor ?lCor ?jCor ?kCor ?eDwn ?lDwn ?jDwn ?kDwn ?eWay ?lWay ?jWay ?kWay ?eVls ?lVls ?jVls ?kVls ?eDue ?lDue ?jDue ?kDue ?eCtd ?lCtd ?jCtd ?kCtd ?eRt ?lRt ?jRt ?kRt ?eLw ?lLw ?jLw ?kLw
    (case v1 => k_is)
    (case v2 => k_is)
    (case v3 => k_is)
    (case b0 => k_is)
    (case b1 => k_is)
    (case b2 => k_is)
    (case b3 => k_is)
    (case b4 => k_is)
    (case b5 => k_is)
    (case b6 => k_is)
    (case b7 => k_is)
    (case b8 => k_is)
    (case b9 => k_is)
    (case b10 => k_is)
    (case b11 => k_is)
    (case b12 => k_is)
    (case b13 => k_is)
    (case b14 => k_is)
    (case b15 => k_is)
    (case b16 => k_is)
    (case eTurnP => k_is)
    (case lTurnP => k_is)
    (case jTurnP => k_is)
    (case kTurnP => k_is)
    (case eNx => k_is)
    (case lNx => k_is)
    (case jNx => k_is)
    (case kNx => k_is)
    (case eLs => k_is)
    (case lLs => k_is)
    (case jLs => k_is)
    (case kLs => k_is)
    (case eOut => k_is)
    (case lOut => k_is)
    (case jOut => k_is)
    (case kOut => k_is)
    (case eInt => k_is)
    (case lInt => k_is)
    (case jInt => k_is)
    (case kInt => k_is)
    (case eBet => k_is)
    (case lBet => k_is)
    (case jBet => k_is)
    (case kBet => k_is)
    (case eIsP => k_is)
    (case lIsP => k_is)
    (case jIsP => k_is)
    (case kIsP => k_is)
    (case eIsC => k_is)
    (case lIsC => k_is)
    (case jIsC => k_is)
    (case kIsC => k_is)
    (case eIsB => k_is)
    (case lIsB => k_is)
    (case jIsB => k_is)
    (case kIsB => k_is)
    (case eCs => k_is)
    (case lCs => k_is)
    (case jCs => k_is)
    (case kCs => k_is)
    (case eTot => k_is)
    (case lTot => k_is)
    (case jTot => k_is)
    (case kTot => k_is)
    (case eSd => k_is)
    (case lSd => k_is)
    (case jSd => k_is)
    (case kSd => k_is)
    (case eChB => k_is)
    (case lChB => k_is)
    (case jChB => k_is)
    (case kChB => k_is)
    (case eChk => k_is)
    (case lChk => k_is)
    (case jChk => k_is)
    (case kChk => k_is)
    (case eCkS => k_is)
    (case lCkS => k_is)
    (case jCkS => k_is)
    (case kCkS => k_is)
    (case eCkd => k_is)
    (case lCkd => k_is)
    (case jCkd => k_is)
    (case kCkd => k_is)
    (case eLea => k_is)
    (case lLea => k_is)
    (case jLea => k_is)
    (case kLea => k_is)
    (case eGrt => k_is)
    (case lGrt => k_is)
    (case jGrt => k_is)
    (case kGrt => k_is)
    (case eEnd => k_is)
    (case lEnd => k_is)
    (case jEnd => k_is)
    (case kEnd => k_is)
    (case eLn => k_is)
    (case lLn => k_is)
    (case jLn => k_is)
    (case kLn => k_is)
    (case eSto => k_is)
    (case lSto => k_is)
    (case jSto => k_is)
    (case kSto => k_is)
    (case eDrw => k_is)
    (case lDrw => k_is)
    (case jDrw => k_is)
    (case kDrw => k_is)
    (case eTr => k_is)
    (case lTr => k_is)
    (case jTr => k_is)
    (case kTr => k_is)
    (case eCor => k_is)
    (case lCor => k_is)
    (case jCor => k_is)
    (case kCor => k_is)
    (case eDwn => k_is)
    (case lDwn => k_is)
    (case jDwn => k_is)
    (case kDwn => k_is)
    (case eWay => k_is)
    (case lWay => k_is)
    (case jWay => k_is)
    (case kWay => k_is)
    (case eVls => k_is)
    (case lVls => k_is)
    (case jVls => k_is)
    (case kVls => k_is)
    (case eDue => k_is)
    (case lDue => k_is)
    (case jDue => k_is)
    (case kDue => k_is)
    (case eCtd => k_is)
    (case lCtd => k_is)
    (case jCtd => k_is)
    (case kCtd => k_is)
    (case eRt => k_is)
    (case lRt => k_is)
    (case jRt => k_is)
    (case kRt => k_is)
    (case eLw => k_is)
    (case lLw => k_is)
    (case jLw => k_is)
    (case kLw => k_is)
