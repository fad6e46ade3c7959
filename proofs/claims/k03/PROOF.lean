import PyProof.Rows.All
import Wide.All
import OpenK.AllK
import Wide.FinOn
import HandS.ForMost
import HandS.Wide
import HandS.OwnEq
import HandS.Style
import HandS.ForExc
import HandS.ExcInit
import HandS.ExcIs
import HandS.ExcValue
import HandS.IsInst
import HandS.Exc
import HandS.ExcOwn
import HandS.TryOnly
import HandS.Words
import HandS.Walk
import HandS.WordsExc
import HandS.TupSets
import HandS.SortRule
import HandS.TupLe
import PyProof.ReprRoads
import PyProof.ReprLen
import HandS.Gcd
import HandS.Deep
import HandS.Conv
import KE.DataCmp
import HandS.SortInts
import PySem.Challenge.RW_growfences_k03_same_and_lowest
set_option Elab.async false
set_option linter.all false
set_option maxRecDepth 100000
set_option maxHeartbeats 2000000
/-! a def's promise while no repr is under way (guards: none) -/
namespace L2
open PySem PySem.Spec PyProof.Rows
/-- as FnOk, where no guarded built-in is under way -/
structure FnG (P : Program) (w : World) (K : PySem.W.Frag) (mg : Str → Option Value) (base : Heap) (CX : CXT) (k : Nat) (f : Addr) (fd : FuncData) (ps : List Str) (sp : Sp) : Prop where
  len : ∀ vs H Q E, sp vs H Q E → vs.length = ps.length
  go : ∀ (A : Around) (outer : List Env) (s : Shared) (H : Hp) (args : Args) (us : List Value) (vs : List V) (Q : VK) (E : XK), A.guards = some [] → Room k A → Env0 P w K mg base A outer s H → BindsTo s fd args (ps.zip us) → Vals vs us → sp vs H Q E →
    codeAny (model P w) A (.call (.ref f) args) (CR CX outer P w H s Q E) s
section
variable {P : Program} {w : World} {K : PySem.W.Frag} {mg : Str → Option Value} {base : Heap} {CX : CXT} {k : Nat} {f : Addr} {fd : FuncData} {ps : List Str} {sp : Sp}
theorem FnOk.g (F : FnOk P w K mg base CX k f fd ps sp) : FnG P w K mg base CX k f fd ps sp := ⟨F.len, fun A outer s H args us vs Q E _ => F.run A outer s H args us vs Q E⟩
theorem FnG.mono {j : Nat} (F : FnG P w K mg base CX j f fd ps sp) (h : j ≤ k) : FnG P w K mg base CX k f fd ps sp := ⟨F.len, fun A outer s H args us vs Q E g hr => F.go A outer s H args us vs Q E g (hr.mono h)⟩
/-- from the body, met with the known guards -/
theorem Fun.okG {x qual : Str} {st : Stmt} {N : List Str} (F : Fun K x qual st f fd) (S : FnScope N ps (defScope st)) (len : ∀ vs H Q E, sp vs H Q E → vs.length = ps.length)
    (hb : ∀ (cdv : Value) (A : Around) (outer : List Env) (s : Shared) (H : Hp) (vs : List V) (Q : VK) (E : XK), (A.deeper (envOfC qual (defScope st) s.heap.objs.size f cdv)).guards = some [] → Room k (A.deeper (envOfC qual (defScope st) s.heap.objs.size f cdv)) → sp vs H Q E →
      ∃ t, PSs (cxOf CX0 P w K mg base N qual (defScope st) f cdv A outer s H E).nox (defBody st) t ∧ t { nx := fun _ H' => Q .non H', rt := Q } (start N vs) H) : FnG P w K mg base CX0 (k + 1) f fd ps sp := by
  obtain ⟨oc, od, kV, doc, pm, an, cdv, ct, osl, rfl, lk, hcd⟩ := F.ex
  refine ⟨len, fun A outer s H args us vs Q E hgd hr e0 hbi rel hsp => ?_⟩
  have sz := len _ _ _ _ hsp
  have kp : ∀ b o, base.get? b = some o → s.heap.get? b = some o := fun b o e => (e0.bs b o e).1
  have KX : K.In s.heap := e0.mod.kin.keeps kp
  refine codeAny_call_function hr.depth (KX _ _ lk) rfl S.co S.gen rfl (PySem.W.codeRec_of KX hcd) (hbi _ _ _ _ ?_)
  refine wpAny_newFunctionEnv_cells S.kind (fun y hy => ?_) fun env he s1 x => ?_
  · obtain ⟨n, v⟩ := y
    rcases S.par n (List.of_mem_zip hy).1 with q | q
    · exact .inl q
    · exact .inr ⟨q, PySem.W.cellsFrom_some _ _ _ (.inl q)⟩
  subst he
  refine ⟨(e0.mod.nolimit.keeps kp).keeps x.toInCall.keep, codeAny_func ?_⟩
  obtain ⟨t, ht, hq⟩ := hb cdv A outer s H vs Q E hgd (hr.deeper _) hsp
  have I0 : Inv (cxOf CX0 P w K mg base N qual (defScope st) f cdv A outer s H E) [] (start N vs) H s1 := inv_start S hr.hd e0 sz rel x
  refine wpAny_mono (ht.nox.run [] s1 (start N vs) H _ I0 hq) (fun fl s' z => ?_) fun e s' z => z
  match fl, z with
  | .ret u, ⟨v, σ', H', J, rv, q⟩ => exact ⟨v, H', J.os, J.bare, J.base, J.hok, rv, q⟩
  | .next, ⟨σ', H', J, q⟩ => exact ⟨.non, H', J.os, J.bare, J.base, J.hok, rfl, q⟩
  | .brk, ⟨_, _, _, q⟩ => exact q.elim
  | .cont, ⟨_, _, _, q⟩ => exact q.elim
end
section
variable {X : Cx} {CX : CXT} {k : Nat} {f : Addr} {fd : FuncData} {ps : List Str} {sp : Sp} {ds : List Value} {dvs : List V} {E : XK} {x : Str} {p pos : Pos} {e : Expr} {es : List Expr} {t : TA}
theorem run_fnG {pins : List (Addr × Obj)} {σ : St} {H : Hp} {s : Shared} {Q : VK} {us : List Value} {vs : List V} (F : FnG X.prog X.w X.K X.mg X.base CX k f fd ps sp) (hgd : X.A.guards = some []) (hr : Room k X.A) (hb : Binds X.K fd ps ds) (hd : Vals dvs ds) (hx : Passes CX X E)
    (I : Inv X pins σ H s) (r : Vals vs us) (h : sp (vs ++ dvs) H Q E) : wpAny (model X.prog X.w) X.A (call (.ref f) us) (EP X pins σ Q) X.xe s := by
  have rr : Vals (vs ++ dvs) (us ++ ds) := r.append hd
  have hl : (us ++ ds).length = ps.length := rr.length.symm.trans (F.len _ _ _ _ h)
  refine wpAny_call (codeAny_mono (F.go X.A X.stack s H ⟨us, []⟩ (us ++ ds) (vs ++ dvs) Q E hgd hr I.env0 (hb s us I.kIn hl) rr h) fun r s' z => ?_)
  match r, z with
  | .error e, z => exact hx pins σ H s e s' I z
  | .ok (.ret u), z => exact I.after z
  | .ok .next, z => exact z.elim
  | .ok .brk, z => exact z.elim
  | .ok .cont, z => exact z.elim
theorem pe_callG (F : FnG X.prog X.w X.K X.mg X.base CX k f fd ps sp) (hgd : X.A.guards = some []) (hr : Room k X.A) (hg : Gl X x) (hm : X.mg x = some (.ref f)) (hk : PySem.W.keepIn X.K (.ref f) = true) (hb : Binds X.K fd ps ds) (hd : Vals dvs ds) (hx : Passes CX X E)
    (ha : PA X (e :: es) t) (hdb : (x == ("__debug__" : Str)) = false := by decide) (he : starEach (e :: es) X.env = (false, eval e X.env) :: starEach es X.env := by rfl) (hpl : (backTo pos (starEach es X.env)).any (·.1) = false := by rfl) :
    PE X (.Call (.Name x p) (e :: es) [] pos) (tCall sp dvs E t) :=
  ⟨fun pins s σ H Q I h => wpAny_Call_Name_kw (ld_glob I hg hm (PySem.W.callWith_K (h₀ := X.base) I.ok.mod.kin hk (thn (ha.run pos pins s σ H _ I h) fun _ _ ⟨_, _, I1, r, q⟩ => ⟨I1.kIn, run_fnG F hgd hr hb hd hx I1 r q⟩) he hpl) hdb)⟩
end
/-- nothing but the script is tracked, and it is never written -/
theorem law_callG {P : Program} {w : World} {K : PySem.W.Frag} {mg mb : Str → Option Value} {k : Nat} {fa a : Addr} {fd : FuncData} {x : Str} {sp : Sp} {s₁ : Shared} {vs : List Value} {ns : List Int}
    (KX : K.In s₁.heap) (hns : s₁.heap.Ns mainGlobals mg) (hb : s₁.heap.Ns builtinsNs mb) (hbb : ∀ x : Str, x ≠ "__name__" → mb x = bootBuiltins x) (hlim : s₁.heap.NoLimit) (hg : s₁.gens = #[])
    (ha : s₁.heap.get? a = some { cls := .type "list", data := .seq vs.toArray }) (hi : IntsAre vs ns) (hl : ns.length ≤ sizeLine) (hr : Room k callerA)
    (F : ∀ base : Heap, K.In base → base.Ns mainGlobals mg → FnG P w K mg base CX0 k fa fd [x] sp) (hbind : ∀ (s : Shared) (u : Value), BindsTo s fd ⟨[u], []⟩ [(x, u)])
    (hsp : ∀ H : Hp, Only H → SqL K H a (ns.map V.int) → sp [.ref a] H (fun v _ => v = .bl true) fun _ _ _ => False) :
    codeAny (model P w) callerA (.call (.ref fa) ⟨[.ref a], []⟩) (fun r s' => r = .ok (.ret (.bool true)) ∧ OldK s₁.heap s'.heap ∧ s'.os = s₁.os ∧ AllBare s'.gens) s₁ := by
  have rv := vals_ints hi
  have run : ∀ H : Hp, Only H → (∀ b, H b ≠ none → b = a ∧ K.lookup a = none) → SqL K H a (ns.map V.int) → HOk P w H s₁.heap →
      codeAny (model P w) callerA (.call (.ref fa) ⟨[.ref a], []⟩) (fun r s' => r = .ok (.ret (.bool true)) ∧ OldK s₁.heap s'.heap ∧ s'.os = s₁.os ∧ AllBare s'.gens) s₁ := by
    intro H hO hA hS hok
    have free : ∀ {b : Addr}, b ≠ a → H b = none := fun {b} hb => Classical.byContradiction fun z => hb (hA b z).1
    have dictFree : ∀ {b : Addr} {o : Obj} {es : Array DictEntry} {ep : Nat}, s₁.heap.get? b = some o → o.data = .dict es ep → H b = none := fun {b o es ep} e1 e2 => free fun z => by
      rw [z] at e1
      rw [ha] at e1
      cases e1
      cases e2
    have down : ∀ {b : Addr} {m : Str → Option Value}, s₁.heap.Ns b m → (hidT s₁.heap H).Ns b m := fun {b m} n => by
      obtain ⟨o, es, ep, e1, e2, r⟩ := n
      exact ⟨o, es, ep, hidT_get e1 (dictFree e1 e2), e2, r⟩
    have kin : K.In (hidT s₁.heap H) := fun b o e => hidT_get (KX b o e) (Classical.byContradiction fun z => by
      have y := hA b z
      rw [y.1, y.2] at e
      cases e)
    have e0 : Env0 P w K mg (hidT s₁.heap H) callerA [] s₁ H := ⟨rfl, ⟨kin, down hns, ⟨mb, down hb, hbb⟩, by
      obtain ⟨mc, h1, h2⟩ := hlim
      exact ⟨mc, down h1, h2⟩⟩, fun _ _ e => of_hidT e, Nat.le_of_eq (hidT_size _ _), trivial, fun b hb => absurd (show b ∈ ([] : List Addr) from hb) (by simp), hok, .of_eq hg⟩
    refine codeAny_mono ((F _ kin (down hns)).go callerA [] s₁ H ⟨[.ref a], []⟩ [.ref a] [.ref a] _ _ rfl hr e0 (hbind s₁ (.ref a)) (.cons rfl .nil) (hsp H hO hS)) fun r s' z => ?_
    match r, z with
    | .error e, z => exact z.elim
    | .ok .next, z => exact z.elim
    | .ok .brk, z => exact z.elim
    | .ok .cont, z => exact z.elim
    | .ok (.ret u), ⟨v, H', os, bare, un, hok', rel, hv⟩ =>
      have hv' : v = .bl true := hv
      subst hv'
      obtain rfl : u = Value.bool true := rel
      refine ⟨rfl, OldK.of_keep fun b o e => ?_, os, bare⟩
      rcases hO b with n | ⟨ob, xs, n⟩
      · exact un.keep b o e n (by simp [frs]) (by simp)
      · have y1 := (hok b _ n).1
        have y2 := (hok' b _ (un.frzs b ob _ n)).1
        rw [e] at y1
        cases y1
        exact y2
  have zl : (ns.map V.int).length ≤ sizeLine := by rw [List.length_map]; exact hl
  by_cases hk : K.lookup a = none
  · refine run (fun b => if b = a then some (.frz { cls := .type "list", data := .seq vs.toArray } (.lst (ns.map V.int))) else none) (fun b => ?_) (fun b z => ?_) (.inl (.inr ⟨_, if_pos rfl⟩)) fun b u z => ?_
    · by_cases e : b = a
      · exact .inr ⟨_, _, if_pos e⟩
      · exact .inl (if_neg e)
    · by_cases e : b = a
      · exact ⟨e, hk⟩
      · exact absurd (if_neg e) z
    · by_cases e : b = a
      · subst e
        cases (if_pos rfl).symm.trans z
        exact ⟨ha, zl, vs, _, rv, ha⟩
      · cases (if_neg e).symm.trans z
  · cases q : K.lookup a with
    | none => exact absurd q hk
    | some o =>
      have e := (KX a o q).symm.trans ha
      cases e
      exact run (fun _ => none) (fun _ => .inl rfl) (fun b z => absurd rfl z) (.inr ⟨_, vs.toArray, _, q, rfl, rfl, rfl, by rw [List.size_toArray, hi.length]; exact hl, by simpa using rv⟩) fun b u z => nomatch z
theorem walk_ofG {l : PySem.W.OpenLaw} {n k : Nat} {q : Program} {loose : List Str} {XP : (Str → Option Value) → Heap → Prop} {YP : World → Heap → Prop} {d : DefRec} {K : Params → PySem.W.Frag} {sp : World → Sp} {x : Str}
    (hn : l.most = some n) (hn2 : n ≤ sizeLine) (hdf : d.params.defaults = []) (hr : Room k callerA) (hY : ∀ (w : World) (h : Heap), YP w h → (K w.params).In h)
    (F : ∀ (w : World) (mg : Str → Option Value) (fa : Addr) (h : Heap), (K w.params).In h → h.Ns mainGlobals mg → mg d.name = some (.ref fa) → ∃ fd : FuncData, (∀ (s : Shared) (u : Value), BindsTo s fd ⟨[u], []⟩ [(x, u)]) ∧
        ∀ base : Heap, (K w.params).In base → base.Ns mainGlobals mg → FnG l.prog w (K w.params) mg base CX0 k fa fd [x] (sp w))
    (hsp : ∀ (w : World) (H : Hp) (a : Addr) (ns : List Int), ns.length ≤ n → Only H → SqL (K w.params) H a (ns.map V.int) → sp w [.ref a] H (fun v _ => v = .bl true) fun _ _ _ => False) :
    PySem.W.WalkO q loose XP YP l.row.toRowW d [] (fun f vs => PySem.call f vs) :=
  Att.attach_call hn hdf fun w s₀ s₁ mg mb fa o pm cd doc a vs ns G Y ho hd hcd hmg hobj hints hlen hg => by
    obtain ⟨fd, hb, hF⟩ := F w mg fa _ (hY w _ Y) G.T.g hmg
    exact law_callG (hY w _ Y) G.T.g G.T.b G.T.builtins G.T.nolimit hg hobj hints (Nat.le_trans hlen hn2) hr hF hb fun H hO hS => hsp w H a ns hlen hO hS
end L2
set_option Elab.async false
set_option linter.all false
set_option maxRecDepth 100000
set_option maxHeartbeats 1000000
set_option exponentiation.threshold 20000
namespace L2
open PySem PySem.Spec PyProof.Rows
/-! ** of greater ints -/
def CPowW (i j : Int) : Prop := 0 ≤ j ∧ ((i.natAbs.log2 + 1 : Nat) : Int) * j ≤ 2 ^ 27
theorem op_powW {X : Cx} : OpR X (binaryOp .Pow) (rI CPowW fun i j => .int (i ^ j.toNat)) := opI fun i j _ _ _ _ _ hc q => by
  refine PyProof.Rows.pow_int hc.1 (Int.le_trans ?_ hc.2) q
  refine Int.mul_le_mul_of_nonneg_right ?_ hc.1
  unfold Builtin.Int.intBits
  split <;> omega
theorem pow_ok {i j : Int} {b : Nat} (hj : 0 ≤ j) (hj2 : j ≤ 3) (hb : i.natAbs < 2 ^ b) (h0 : 0 < b) (h1 : b ≤ 1000) : CPowW i j := by
  have h := PySem.Flt.log2_lt_of h0 hb
  refine ⟨hj, ?_⟩
  have : ((i.natAbs.log2 + 1 : Nat) : Int) ≤ 1000 := by omega
  have h3 : ((i.natAbs.log2 + 1 : Nat) : Int) * j ≤ 1000 * 3 := Int.mul_le_mul this hj2 hj (by decide)
  exact Int.le_trans h3 (by decide)
/-! heaps -/
theorem same_new {H : Hp} {p : Addr} {o : HO} (h : H p = none) : Same H (upd H p o) := fun b x e => by
  rw [upd_ne (ne_of_none e h)]
  exact e
theorem cut_to (xs : List V) (n : Nat) : cutV xs none (some (n : Int)) = xs.take n := by
  unfold cutV
  rw [HT.sIx_none, show HT.sIx xs.length xs.length (some (n : Int)) = min n xs.length from HT.sIx_nat xs.length xs.length n, List.drop_zero, Nat.sub_zero, ← List.take_take, List.take_length]
theorem cut_last (xs : List V) : cutV xs none (some (-1)) = xs.dropLast := by
  unfold cutV
  rw [HT.sIx_none, List.drop_zero, Nat.sub_zero]
  have e : HT.sIx xs.length xs.length (some (-1)) = xs.length - 1 := by
    unfold HT.sIx
    simp only
    split <;> omega
  rw [e, List.dropLast_eq_take]
/-- all but what stands at p is as it was -/
def SameX (p : Addr) (H H' : Hp) : Prop := ∀ b o, b ≠ p → H b = some o → H' b = some o
theorem Same.x {p : Addr} {H H' : Hp} (s : Same H H') : SameX p H H' := fun b o _ e => s b o e
theorem SameX.trans {p : Addr} {H H1 H2 : Hp} (a : SameX p H H1) (b : SameX p H1 H2) : SameX p H H2 := fun c o n e => b c o n (a c o n e)
theorem SameX.put {p : Addr} {H : Hp} {o : HO} : SameX p H (upd H p o) := fun b o' n e => by
  rw [upd_ne n]
  exact e
/-- p is new: what was there before is as it was -/
theorem SameX.same {p : Addr} {H H' : Hp} (s : SameX p H H') (n : H p = none) : Same H H' := fun b o e => s b o (ne_of_none e n) e
theorem Same.seqT {K : PySem.W.Frag} {H H' : Hp} {a : Addr} {xs : List V} (e : Same H H') (h : SqT K H a xs) : SqT K H' a xs := SqT.ext h e
theorem hu_of64 {A : Around} {k : Nat} (hr : Room k A) : A.units + 64 < cLine := by
  have := hr.un
  omega
theorem yesT {σ : L2.St} {H : Hp} {R N : Hp → Prop} (h : R H) : tYes σ H fun b H3 => if b = true then R H3 else N H3 := by
  show if true = true then R H else N H
  rw [if_pos rfl]
  exact h
theorem sz20 {n : Nat} (h : n ≤ 4096) : n ≤ sizeLine := Nat.le_trans h (by decide)
/-- a statement that is never met -/
theorem ps_no {X : Cx} {st : Stmt} : PS X st (fun _ _ _ => False) := ⟨fun _ _ _ _ _ _ h => h.elim⟩
end L2
namespace L2
open PySem PySem.Spec PyProof.Rows
theorem pe_and1 {X : Cx} {a : Expr} {t : TE} {pos : Pos} (ha : PE X a t) : PE X (.BoolOp .And [a] pos) t := ⟨fun pins s σ H Q I h => by
  have z := ha.run pins s σ H Q I h
  first
    | exact z
    | (unfold eval; exact z)⟩
theorem pe_or1 {X : Cx} {a : Expr} {t : TE} {pos : Pos} (ha : PE X a t) : PE X (.BoolOp .Or [a] pos) t := ⟨fun pins s σ H Q I h => by
  have z := ha.run pins s σ H Q I h
  first
    | exact z
    | (unfold eval; exact z)⟩
/-- a tuple, a list that is read: its type -/
theorem ty_tup {K : PySem.W.Frag} {H : Hp} {a : Addr} {xs : List V} (h : SqT K H a xs) : TyX K H (.ref a) (.type "tuple") := by
  rcases h with (h | ⟨o, h⟩) | ⟨o, its, n, h1, h2, _⟩
  · exact .base (.tup h)
  · exact .fTuple h
  · exact .kTuple h1 h2
theorem ty_lst {K : PySem.W.Frag} {H : Hp} {a : Addr} {xs : List V} (h : SqL K H a xs) : TyX K H (.ref a) (.type "list") := by
  rcases h with (h | ⟨o, h⟩) | ⟨o, its, n, h1, h2, _⟩
  · exact .base (.lst h)
  · exact .base (.frz h)
  · exact .kList h1 h2
end L2
set_option linter.all false
/-! the plane: cross products, the order by x and then y, a chain that turns left -/
namespace Hull
abbrev P := Int × Int
/-- the cross product of b - a and c - a -/
def turn (a b c : P) : Int := (b.1 - a.1) * (c.2 - a.2) - (b.2 - a.2) * (c.1 - a.1)
def Lt (a b : P) : Prop := a.1 < b.1 ∨ (a.1 = b.1 ∧ a.2 < b.2)
instance (a b : P) : Decidable (Lt a b) := by unfold Lt; exact inferInstance
theorem Lt.irrefl {a : P} (h : Lt a a) : False := by unfold Lt at h; omega
theorem Lt.trans {a b c : P} (h : Lt a b) (g : Lt b c) : Lt a c := by unfold Lt at *; omega
theorem Lt.ne {a b : P} (h : Lt a b) : a ≠ b := fun e => by subst e; exact h.irrefl
theorem Lt.asymm {a b : P} (h : Lt a b) (g : Lt b a) : False := (h.trans g).irrefl
theorem Lt.total (a b : P) : Lt a b ∨ a = b ∨ Lt b a := by
  unfold Lt
  by_cases h : a.1 < b.1
  · exact .inl (.inl h)
  · by_cases h2 : b.1 < a.1
    · exact .inr (.inr (.inl h2))
    · have e : a.1 = b.1 := by omega
      by_cases g : a.2 < b.2
      · exact .inl (.inr ⟨e, g⟩)
      · by_cases g2 : b.2 < a.2
        · exact .inr (.inr (.inr ⟨e.symm, g2⟩))
        · exact .inr (.inl (Prod.ext e (by omega)))
/-- vectors -/
def X (u v : P) : Int := u.1 * v.2 - u.2 * v.1
def Pos (u : P) : Prop := 0 < u.1 ∨ (u.1 = 0 ∧ 0 < u.2)
def sub (b a : P) : P := (b.1 - a.1, b.2 - a.2)
theorem pos_sub {a b : P} : Pos (sub b a) ↔ Lt a b := by unfold Pos sub Lt; constructor <;> intro h <;> dsimp only at * <;> omega
theorem turn_eq (a b c : P) : turn a b c = X (sub b a) (sub c a) := rfl
theorem X_id1 (u v w : P) : v.1 * X u w = u.1 * X v w + w.1 * X u v := by
  unfold X
  grind
/-- three vectors of the right half of the plane -/
theorem X_trans {u v w : P} (hu : Pos u) (hv : Pos v) (hw : Pos w) (h1 : 0 ≤ X u v) (h2 : 0 ≤ X v w) : 0 ≤ X u w := by
  rcases hv with hv | ⟨hv, hv2⟩
  · have u0 : 0 ≤ u.1 := by unfold Pos at hu; omega
    have w0 : 0 ≤ w.1 := by unfold Pos at hw; omega
    have e := X_id1 u v w
    have a1 := Int.mul_nonneg u0 h2
    have a2 := Int.mul_nonneg w0 h1
    refine Int.not_lt.mp fun z => ?_
    have z2 : v.1 * X u w < 0 := Int.mul_neg_of_pos_of_neg hv z
    omega
  · have h3 : 0 ≤ - (v.2 * w.1) := by
      unfold X at h2
      rw [hv, Int.zero_mul] at h2
      omega
    have w1 : w.1 = 0 := by
      have w0 : 0 ≤ w.1 := by unfold Pos at hw; omega
      refine Int.le_antisymm (Int.not_lt.mp fun z => ?_) w0
      have := Int.mul_pos hv2 z
      omega
    have w2 : 0 < w.2 := by unfold Pos at hw; omega
    have u0 : 0 ≤ u.1 := by unfold Pos at hu; omega
    unfold X
    rw [w1, Int.mul_zero, Int.sub_zero]
    exact Int.mul_nonneg u0 (Int.le_of_lt w2)
theorem X_trans_lt {u v w : P} (hu : Pos u) (hv : Pos v) (hw : Pos w) (h1 : 0 < X u v) (h2 : 0 < X v w) : 0 < X u w := by
  rcases hv with hv | ⟨hv, hv2⟩
  · have w0 : 0 ≤ w.1 := by unfold Pos at hw; omega
    have u0 : 0 < u.1 := by
      rcases hu with hu | ⟨hu, hu2⟩
      · exact hu
      · exfalso
        unfold X at h1
        rw [hu, Int.zero_mul] at h1
        have := Int.mul_pos hu2 hv
        omega
    have e := X_id1 u v w
    have a1 := Int.mul_pos u0 h2
    have a2 := Int.mul_nonneg w0 (Int.le_of_lt h1)
    refine Int.not_le.mp fun z => ?_
    have z2 : v.1 * X u w ≤ v.1 * 0 := Int.mul_le_mul_of_nonneg_left z (Int.le_of_lt hv)
    omega
  · exfalso
    unfold X at h2
    rw [hv, Int.zero_mul] at h2
    have w0 : 0 ≤ w.1 := by unfold Pos at hw; omega
    have := Int.mul_nonneg (Int.le_of_lt hv2) w0
    omega
/-! algebra of turns -/
theorem turn_cyc (a b c : P) : turn a b c = turn b c a := by unfold turn; grind
theorem turn_swap (a b c : P) : turn a b c = - turn b a c := by unfold turn; grind
theorem turn_aab (a b : P) : turn a a b = 0 := by simp [turn]
theorem turn_aba (a b : P) : turn a b a = 0 := by simp [turn]
theorem turn_abb (a b : P) : turn a b b = 0 := by unfold turn; rw [Int.mul_comm]; omega
/-- turn a b c by the directions a to b, b to c -/
theorem turn_dir (a b c : P) : turn a b c = X (sub b a) (sub c b) := by
  unfold turn X sub
  grind
end Hull
set_option linter.all false
namespace Hull
/-! the chain, its top first -/
def pop (r : P) : List P → List P
  | b :: a :: rest => if turn a b r ≤ 0 then pop r (a :: rest) else b :: a :: rest
  | st => st
def push (st : List P) (r : P) : List P := r :: pop r st
def half (ps : List P) : List P := ps.foldl push []
/-- over each edge, from a to b in b :: a :: .. -/
def Edges (Q : P → P → Prop) : List P → Prop
  | b :: a :: rest => Q a b ∧ Edges Q (a :: rest)
  | _ => True
theorem Edges.imp {Q R : P → P → Prop} (h : ∀ a b, Q a b → R a b) : ∀ {l : List P}, Edges Q l → Edges R l
  | [], _ => trivial
  | [_], _ => trivial
  | b :: a :: rest, e => ⟨h _ _ e.1, Edges.imp h e.2⟩
theorem Edges.both {Q R : P → P → Prop} : ∀ {l : List P}, Edges Q l → Edges R l → Edges (fun a b => Q a b ∧ R a b) l
  | [], _, _ => trivial
  | [_], _, _ => trivial
  | b :: a :: rest, e, f => ⟨⟨e.1, f.1⟩, Edges.both e.2 f.2⟩
/-- each edge goes up in the order, and each one turns left of all before it -/
def Conv : List P → Prop
  | b :: a :: rest => Lt a b ∧ Edges (fun p q => 0 < X (sub q p) (sub b a)) (a :: rest) ∧ Conv (a :: rest)
  | _ => True
theorem Conv.up : ∀ {l : List P}, Conv l → Edges Lt l
  | [], _ => trivial
  | [_], _ => trivial
  | b :: a :: rest, c => ⟨c.1, Conv.up c.2.2⟩
/-- all points of S lie on the left of each edge -/
abbrev Left (S : List P) (l : List P) : Prop := Edges (fun p q => ∀ s ∈ S, 0 ≤ turn p q s) l
theorem turn_add (p q e r : P) : turn p q r = turn p q e + X (sub q p) (sub r e) := by unfold turn X sub; grind
structure Inv (S : List P) (m b : P) (st : List P) : Prop where
  conv : Conv st
  left : Left S st
  mem : ∀ e ∈ st, e ∈ S
  bot : st.getLast? = some m
  top : st.head? = some b
theorem pop_inv {S : List P} {m r : P} : ∀ {st : List P} {b : P}, Inv S m b st → (∀ e ∈ st, Lt e r) → (∀ s ∈ S, Lt b s → 0 ≤ turn b r s) →
    ∃ e, Inv S m e (pop r st) ∧ (∀ s ∈ S, Lt e s → 0 ≤ turn e r s) ∧ (∀ a rest, pop r st = e :: a :: rest → 0 < turn a e r) ∧ ∀ x ∈ pop r st, x ∈ st
  | [], b, I, _, _ => by
    have := I.top
    cases this
  | [x], b, I, hr, ht => by
    have e : x = b := Option.some.inj I.top
    subst e
    exact ⟨x, I, ht, fun a rest h => by simp [pop] at h, fun y hy => hy⟩
  | b' :: a :: rest, b, I, hr, ht => by
    have e : b' = b := Option.some.inj I.top
    subst e
    by_cases h : turn a b' r ≤ 0
    · have ep : pop r (b' :: a :: rest) = pop r (a :: rest) := by simp [pop, h]
      have J : Inv S m a (a :: rest) := ⟨I.conv.2.2, I.left.2, fun e he => I.mem e (List.mem_cons_of_mem _ he), by have := I.bot; simpa using this, rfl⟩
      have ta : ∀ s ∈ S, Lt a s → 0 ≤ turn a r s := fun s hs hl => by
        have h1 : Pos (sub r a) := pos_sub.mpr (hr a (by simp))
        have h2 : Pos (sub b' a) := pos_sub.mpr I.conv.1
        have h3 : Pos (sub s a) := pos_sub.mpr hl
        have k1 : 0 ≤ X (sub r a) (sub b' a) := by
          have : turn a b' r = X (sub b' a) (sub r a) := rfl
          have e2 : X (sub r a) (sub b' a) = - X (sub b' a) (sub r a) := by unfold X; grind
          omega
        have k2 : 0 ≤ X (sub b' a) (sub s a) := I.left.1 s hs
        exact X_trans h1 h2 h3 k1 k2
      obtain ⟨e, K1, K2, K3, K4⟩ := pop_inv J (fun e he => hr e (List.mem_cons_of_mem _ he)) ta
      rw [ep]
      exact ⟨e, K1, K2, K3, fun x hx => List.mem_cons_of_mem _ (K4 x hx)⟩
    · have ep : pop r (b' :: a :: rest) = b' :: a :: rest := by simp [pop, h]
      rw [ep]
      refine ⟨b', I, ht, fun a' rest' q => ?_, fun x hx => hx⟩
      cases q
      omega
theorem push_inv {S : List P} {m b r : P} {st : List P} (I : Inv S m b st) (hr : ∀ s ∈ S, Lt s r) (hb : ∀ s ∈ S, ¬ Lt b s) (hm : ∀ s ∈ S, ¬ Lt s m) : Inv (r :: S) m r (push st r) := by
  obtain ⟨e, J, t, ex, sub'⟩ := pop_inv I (fun e he => hr e (I.mem e he)) (fun s hs hl => absurd hl (hb s hs))
  have heS : e ∈ S := by
    have h := J.top
    cases q : pop r st with
    | nil => rw [q] at h; cases h
    | cons x l =>
      rw [q] at h
      have : x = e := Option.some.inj h
      subst this
      exact J.mem x (by rw [q]; simp)
  have her := hr e heS
  show Inv (r :: S) m r (r :: pop r st)
  cases q : pop r st with
  | nil =>
    have h := J.top
    rw [q] at h
    cases h
  | cons x l =>
    rw [q] at J ex
    have xe : x = e := Option.some.inj J.top
    subst xe
    -- each edge so far against the new one
    have dirs : Edges (fun p q => 0 < X (sub q p) (sub r x)) (x :: l) := by
      cases l with
      | nil => trivial
      | cons a rest =>
        have g : 0 < X (sub x a) (sub r x) := by
          rw [← turn_dir]
          exact ex a rest rfl
        refine ⟨g, ?_⟩
        have up := J.conv.2.2.up
        exact Edges.imp (fun p q h => X_trans_lt (pos_sub.mpr h.2) (pos_sub.mpr J.conv.1) (pos_sub.mpr her) h.1 g) (Edges.both J.conv.2.1 up)
    refine ⟨⟨her, dirs, J.conv⟩, ⟨fun s hs => ?_, ?_⟩, fun y hy => ?_, ?_, rfl⟩
    · -- the new edge
      rcases List.mem_cons.mp hs with rfl | hs
      · rw [turn_abb]
        exact Int.le_refl _
      · rcases Lt.total x s with h | h | h
        · exact t s hs h
        · rw [← h, turn_aba]
          exact Int.le_refl _
        · cases l with
          | nil =>
            have : x = m := Option.some.inj J.bot
            subst this
            exact absurd h (hm s hs)
          | cons a rest =>
            have g : 0 < X (sub x a) (sub r x) := by
              rw [← turn_dir]
              exact ex a rest rfl
            have g2 : 0 ≤ turn a x s := J.left.1 s hs
            have k1 : 0 ≤ X (sub x s) (sub x a) := by
              have : X (sub x s) (sub x a) = turn a x s := by unfold X sub turn; grind
              omega
            have k := X_trans (pos_sub.mpr h) (pos_sub.mpr J.conv.1) (pos_sub.mpr her) k1 (Int.le_of_lt g)
            have : turn x r s = X (sub x s) (sub r x) := by unfold X sub turn; grind
            omega
    · -- the old edges
      refine Edges.imp (fun p q' h => ?_) (Edges.both J.left dirs)
      intro s hs
      rcases List.mem_cons.mp hs with rfl | hs
      · rw [turn_add p q' x s]
        have := h.1 x heS
        omega
      · exact h.1 s hs
    · rcases List.mem_cons.mp hy with rfl | hy
      · exact List.mem_cons_self
      · exact List.mem_cons_of_mem _ (J.mem y hy)
    · have := J.bot
      simp only [List.getLast?_cons_cons]
      exact this
end Hull
set_option linter.all false
namespace Hull
/-! the whole lower chain -/
structure Chain (S : List P) (m M : P) (st : List P) : Prop extends Inv S m M st where
  least : ∀ s ∈ S, ¬ Lt s m
  most : ∀ s ∈ S, ¬ Lt M s
theorem fold_chain {m : P} : ∀ (rest : List P) {S st : List P} {b : P}, Chain S m b st → m ∈ S → (∀ s ∈ S, ∀ x ∈ rest, Lt s x) → rest.Pairwise Lt →
    ∃ S' b', Chain S' m b' (rest.foldl push st) ∧ (∀ x, x ∈ S' ↔ x ∈ S ∨ x ∈ rest)
  | [], S, st, b, C, _, _, _ => ⟨S, b, C, fun x => by simp⟩
  | r :: rest, S, st, b, C, hm, h, hp => by
    have hr : ∀ s ∈ S, Lt s r := fun s hs => h s hs r (by simp)
    have J := push_inv C.toInv hr C.most C.least
    have D : Chain (r :: S) m r (push st r) := ⟨J, fun s hs => by
      rcases List.mem_cons.mp hs with rfl | hs
      · exact fun z => (z.trans (hr m hm)).irrefl
      · exact C.least s hs, fun s hs => by
      rcases List.mem_cons.mp hs with rfl | hs
      · exact fun z => z.irrefl
      · exact fun z => (z.trans (hr s hs)).irrefl⟩
    obtain ⟨S', b', K, K2⟩ := fold_chain rest D (List.mem_cons_of_mem _ hm) (fun s hs x hx => by
      rcases List.mem_cons.mp hs with rfl | hs
      · exact (List.pairwise_cons.mp hp).1 x hx
      · exact h s hs x (List.mem_cons_of_mem _ hx)) (List.pairwise_cons.mp hp).2
    refine ⟨S', b', K, fun x => ?_⟩
    rw [K2]
    simp only [List.mem_cons]
    constructor
    · rintro ((h | h) | h)
      · exact .inr (.inl h)
      · exact .inl h
      · exact .inr (.inr h)
    · rintro (h | h | h)
      · exact .inl (.inr h)
      · exact .inl (.inl h)
      · exact .inr h
theorem half_chain {m : P} {rest : List P} (h : (m :: rest).Pairwise Lt) : ∃ S M, Chain S m M (half (m :: rest)) ∧ ∀ x, x ∈ S ↔ x ∈ m :: rest := by
  have C0 : Chain [m] m m [m] := ⟨⟨trivial, trivial, fun e he => he, rfl, rfl⟩, fun s hs => by rw [List.mem_singleton.mp hs]; exact fun z => z.irrefl, fun s hs => by rw [List.mem_singleton.mp hs]; exact fun z => z.irrefl⟩
  obtain ⟨S, M, C, e⟩ := fold_chain rest C0 (by simp) (fun s hs x hx => by rw [List.mem_singleton.mp hs]; exact (List.pairwise_cons.mp h).1 x hx) (List.pairwise_cons.mp h).2
  refine ⟨S, M, C, fun x => ?_⟩
  rw [e]
  simp
/-! turned about -/
def neg (p : P) : P := (-p.1, -p.2)
theorem neg_neg (p : P) : neg (neg p) = p := by unfold neg; simp
theorem neg_inj {p q : P} (h : neg p = neg q) : p = q := by rw [← neg_neg p, h, neg_neg]
theorem lt_neg {a b : P} : Lt (neg b) (neg a) ↔ Lt a b := by unfold Lt neg; dsimp only; omega
theorem turn_neg (a b c : P) : turn (neg a) (neg b) (neg c) = turn a b c := by unfold turn neg; grind
theorem pop_neg (r : P) : ∀ st : List P, pop (neg r) (st.map neg) = (pop r st).map neg
  | [] => rfl
  | [_] => rfl
  | b :: a :: rest => by
    have ih := pop_neg r (a :: rest)
    simp only [List.map_cons] at ih ⊢
    unfold pop
    rw [turn_neg]
    split
    · exact ih
    · rfl
theorem half_neg (ps : List P) : half (ps.map neg) = (half ps).map neg := by
  have h : ∀ (l : List P) (st : List P), (l.map neg).foldl push (st.map neg) = (l.foldl push st).map neg := by
    intro l
    induction l with
    | nil => intro st; rfl
    | cons r l ih =>
      intro st
      show (l.map neg).foldl push (push (st.map neg) (neg r)) = (l.foldl push (push st r)).map neg
      have e : push (st.map neg) (neg r) = (push st r).map neg := by
        unfold push
        rw [pop_neg]
        rfl
      rw [e, ih]
  exact h ps []
/-! edges by places -/
theorem Edges.at {Q : P → P → Prop} : ∀ {pre : List P} {b a : P} {post : List P}, Edges Q (pre ++ b :: a :: post) → Q a b
  | [], _, _, _, h => h.1
  | [x], _, _, _, h => Edges.at (pre := []) h.2
  | x :: y :: pre, _, _, _, h => Edges.at (pre := y :: pre) h.2
theorem Conv.at : ∀ {pre : List P} {c b a : P} {post : List P}, Conv (pre ++ c :: b :: a :: post) → 0 < X (sub b a) (sub c b)
  | [], _, _, _, _, h => h.2.1.1
  | [x], _, _, _, _, h => Conv.at (pre := []) h.2.2
  | x :: y :: pre, _, _, _, _, h => Conv.at (pre := y :: pre) h.2.2
theorem Conv.down : ∀ {l : List P}, Conv l → l.Pairwise fun x y => Lt y x
  | [], _ => .nil
  | [_], _ => List.pairwise_singleton _ _
  | b :: a :: rest, c => by
    have ih := Conv.down c.2.2
    refine List.pairwise_cons.mpr ⟨fun y hy => ?_, ih⟩
    rcases List.mem_cons.mp hy with rfl | hy
    · exact c.1
    · exact ((List.pairwise_cons.mp ih).1 y hy).trans c.1
theorem last_cases (l : List P) : l = [] ∨ ∃ l' x, l = l' ++ [x] := by
  cases h : l.reverse with
  | nil => exact .inl (List.reverse_eq_nil_iff.mp h)
  | cons x r => exact .inr ⟨r.reverse, x, by rw [← List.reverse_reverse l, h]; simp⟩
/-! no third corner lies on the line of an edge -/
theorem strict {S T : List P} {m M : P} {L V : List P} (C : Chain S m M L) (D : Chain T (neg M) (neg m) V) (hT : ∀ x, x ∈ T ↔ neg x ∈ S) {pre post : List P} {p q c : P} (hL : L = pre ++ q :: p :: post) (hc : c ∈ L ∨ neg c ∈ V) (cp : c ≠ p) (cq : c ≠ q) : 0 < turn p q c := by
  have inS : ∀ x ∈ L, x ∈ S := C.mem
  have inT : ∀ x, neg x ∈ V → x ∈ S := fun x hx => by
    have := (hT (neg x)).mp (D.mem _ hx)
    rwa [neg_neg] at this
  have cS : c ∈ S := hc.elim (inS c) (inT c)
  have pS : p ∈ S := inS p (by rw [hL]; simp)
  have qS : q ∈ S := inS q (by rw [hL]; simp)
  have ge : 0 ≤ turn p q c := (Edges.at (by rw [← hL]; exact C.left) : ∀ s ∈ S, 0 ≤ turn p q s) c cS
  have pq : Lt p q := (Edges.at (by rw [← hL]; exact C.conv.up) : Lt p q)
  have srt := C.conv.down
  rcases Int.lt_or_eq_of_le ge with z | z
  · exact z
  exfalso
  have z0 : X (sub q p) (sub c p) = 0 := z.symm
  rcases Lt.total q c with h | h | h
  · -- beyond q
    have qM : q ≠ M := fun e => C.most c cS (e ▸ h)
    rcases last_cases pre with rfl | ⟨pre, q', rfl⟩
    · have := C.top
      rw [hL] at this
      exact qM (Option.some.inj this)
    · have hL' : L = pre ++ q' :: q :: p :: post := by rw [hL]; simp
      have k1 : 0 < X (sub q p) (sub q' q) := Conv.at (by rw [← hL']; exact C.conv)
      have k2 : 0 ≤ turn q q' c := (Edges.at (by rw [← hL']; exact C.left) : ∀ s ∈ S, 0 ≤ turn q q' s) c cS
      have qq' : Lt q q' := (Edges.at (by rw [← hL']; exact C.conv.up) : Lt q q')
      have k3 : 0 ≤ X (sub c q) (sub q p) := by
        have : X (sub c q) (sub q p) = - X (sub q p) (sub c p) := by unfold X sub; grind
        omega
      have k4 := X_trans (pos_sub.mpr qq') (pos_sub.mpr h) (pos_sub.mpr pq) k2 k3
      have : X (sub q' q) (sub q p) = - X (sub q p) (sub q' q) := by unfold X; grind
      omega
  · exact cq h.symm
  · rcases Lt.total c p with g | g | g
    · -- ahead of p
      have pm : p ≠ m := fun e => C.least c cS (e ▸ g)
      cases post with
      | nil =>
        have := C.bot
        rw [hL] at this
        simp at this
        exact pm this
      | cons p' post =>
        have hL' : L = (pre ++ [q]) ++ p :: p' :: post := by rw [hL]; simp
        have k1 : 0 < X (sub p p') (sub q p) := Conv.at (by rw [← hL]; exact C.conv)
        have k2 : 0 ≤ turn p' p c := (Edges.at (by rw [← hL']; exact C.left) : ∀ s ∈ S, 0 ≤ turn p' p s) c cS
        have pp' : Lt p' p := (Edges.at (by rw [← hL']; exact C.conv.up) : Lt p' p)
        have k3 : 0 ≤ X (sub p c) (sub p p') := by
          have : X (sub p c) (sub p p') = turn p' p c := by unfold X sub turn; grind
          omega
        have k4 : 0 ≤ X (sub q p) (sub p c) := by
          have : X (sub q p) (sub p c) = - X (sub q p) (sub c p) := by unfold X sub; grind
          omega
        have k5 := X_trans (pos_sub.mpr pq) (pos_sub.mpr g) (pos_sub.mpr pp') k4 k3
        have : X (sub q p) (sub p p') = - X (sub p p') (sub q p) := by unfold X; grind
        omega
    · exact cp g
    · -- between: not of the lower chain, so within the upper one
      have nL : c ∉ L := fun hcL => by
        rw [hL] at hcL srt
        rw [List.pairwise_append] at srt
        obtain ⟨_, s2, s3⟩ := srt
        rcases List.mem_append.mp hcL with x | x
        · exact (s3 c x q (by simp)).asymm h
        · rcases List.mem_cons.mp x with x | x
          · exact cq x
          · rcases List.mem_cons.mp x with x | x
            · exact cp x
            · exact ((List.pairwise_cons.mp (List.pairwise_cons.mp s2).2).1 c x).asymm g
      have cV : neg c ∈ V := hc.resolve_left nL
      obtain ⟨pre2, post2, hV⟩ := List.append_of_mem cV
      have cm : c ≠ m := fun e => C.least p pS (e ▸ g)
      have cM : c ≠ M := fun e => C.most q qS (e ▸ h)
      rcases last_cases pre2 with rfl | ⟨pre2, v, rfl⟩
      · have := D.top
        rw [hV] at this
        exact cm (neg_inj (Option.some.inj this))
      · cases post2 with
        | nil =>
          have := D.bot
          rw [hV] at this
          simp at this
          exact cM (neg_inj this)
        | cons u post2 =>
          have hV1 : V = pre2 ++ v :: neg c :: u :: post2 := by rw [hV]; simp
          have hV2 : V = (pre2 ++ [v]) ++ neg c :: u :: post2 := by rw [hV]
          have k0 : 0 < X (sub (neg c) u) (sub v (neg c)) := Conv.at (by rw [← hV1]; exact D.conv)
          have e1 : ∀ s ∈ S, 0 ≤ turn (neg c) v (neg s) := fun s hs => (Edges.at (by rw [← hV1]; exact D.left) : ∀ s ∈ T, 0 ≤ turn (neg c) v s) (neg s) ((hT _).mpr (by rw [neg_neg]; exact hs))
          have e2 : ∀ s ∈ S, 0 ≤ turn u (neg c) (neg s) := fun s hs => (Edges.at (by rw [← hV2]; exact D.left) : ∀ s ∈ T, 0 ≤ turn u (neg c) s) (neg s) ((hT _).mpr (by rw [neg_neg]; exact hs))
          have o1 : Lt (neg c) v := (Edges.at (by rw [← hV1]; exact D.conv.up) : Lt (neg c) v)
          have o2 : Lt u (neg c) := (Edges.at (by rw [← hV2]; exact D.conv.up) : Lt u (neg c))
          have p1 : Pos (sub (neg p) (neg c)) := pos_sub.mpr (lt_neg.mpr g)
          have p2 : Pos (sub (neg c) (neg q)) := pos_sub.mpr (lt_neg.mpr h)
          have x12 : X (sub (neg p) (neg c)) (sub (neg c) (neg q)) = - X (sub q p) (sub c p) := by unfold X sub neg; grind
          have a2 : 0 ≤ X (sub v (neg c)) (sub (neg p) (neg c)) := e1 p pS
          have a4 := X_trans (pos_sub.mpr o1) p1 p2 a2 (by omega)
          have b1 : 0 ≤ X (sub (neg c) (neg q)) (sub (neg c) u) := by
            have := e2 q qS
            have e : X (sub (neg c) (neg q)) (sub (neg c) u) = turn u (neg c) (neg q) := by unfold X sub turn; grind
            omega
          have a5 := X_trans (pos_sub.mpr o1) p2 (pos_sub.mpr o2) a4 b1
          have : X (sub v (neg c)) (sub (neg c) u) = - X (sub (neg c) u) (sub v (neg c)) := by unfold X; grind
          omega
end Hull
set_option linter.all false
namespace Hull
theorem no_both {S T : List P} {m M : P} {L V : List P} (C : Chain S m M L) (D : Chain T (neg M) (neg m) V) (hT : ∀ x, x ∈ T ↔ neg x ∈ S) {c : P} (h1 : c ∈ L) (h2 : neg c ∈ V) (cm : c ≠ m) (cM : c ≠ M) : False := by
  obtain ⟨pre, post, hL⟩ := List.append_of_mem h1
  obtain ⟨pre2, post2, hV⟩ := List.append_of_mem h2
  rcases last_cases pre with rfl | ⟨pre, q, rfl⟩
  · have := C.top
    rw [hL] at this
    exact cM (Option.some.inj this)
  cases post with
  | nil =>
    have := C.bot
    rw [hL] at this
    simp at this
    exact cm this
  | cons p post =>
    cases post2 with
    | nil =>
      have := D.bot
      rw [hV] at this
      simp at this
      exact cM (neg_inj this)
    | cons u post2 =>
      have hL1 : L = pre ++ q :: c :: p :: post := by rw [hL]; simp
      have hL2 : L = (pre ++ [q]) ++ c :: p :: post := hL
      have k0 : 0 < X (sub c p) (sub q c) := Conv.at (by rw [← hL1]; exact C.conv)
      have o1 : Lt c q := (Edges.at (by rw [← hL1]; exact C.conv.up) : Lt c q)
      have o2 : Lt p c := (Edges.at (by rw [← hL2]; exact C.conv.up) : Lt p c)
      have o3 : Lt u (neg c) := (Edges.at (by rw [← hV]; exact D.conv.up) : Lt u (neg c))
      have uT : u ∈ T := D.mem u (by rw [hV]; simp)
      have pS : p ∈ S := C.mem p (by rw [hL]; simp)
      have a1 : 0 ≤ X (sub q c) (sub (neg c) u) := by
        have h := (Edges.at (by rw [← hL1]; exact C.left) : ∀ s ∈ S, 0 ≤ turn c q s) (neg u) ((hT u).mp uT)
        have e : X (sub q c) (sub (neg c) u) = turn c q (neg u) := by unfold X sub turn neg; grind
        omega
      have a2 : 0 ≤ X (sub (neg c) u) (sub c p) := by
        have h := (Edges.at (by rw [← hV]; exact D.left) : ∀ s ∈ T, 0 ≤ turn u (neg c) s) (neg p) ((hT _).mpr (by rw [neg_neg]; exact pS))
        have e : X (sub (neg c) u) (sub c p) = turn u (neg c) (neg p) := by unfold X sub turn neg; grind
        omega
      have k := X_trans (pos_sub.mpr o1) (pos_sub.mpr o3) (pos_sub.mpr o2) a1 a2
      have : X (sub q c) (sub c p) = - X (sub c p) (sub q c) := by unfold X; grind
      omega
/-! by places -/
theorem split_at {l : List P} {j : Nat} (h : j + 1 < l.length) : ∃ pre post, l = pre ++ l[j] :: l[j + 1] :: post := by
  refine ⟨l.take j, l.drop (j + 2), ?_⟩
  have e1 : l = l.take j ++ l.drop j := (List.take_append_drop j l).symm
  have e2 : l.drop j = l[j] :: l.drop (j + 1) := List.drop_eq_getElem_cons (by omega)
  have e3 : l.drop (j + 1) = l[j + 1] :: l.drop (j + 2) := List.drop_eq_getElem_cons h
  rw [← e3, ← e2]
  exact e1
/-- what stands next to the i-th of the tail turned round, in top :: tail -/
theorem tail_edge {t : P} {r : List P} {i : Nat} (h : i < r.length) : ∃ pre post, t :: r = pre ++ (if h2 : i + 1 < r.length then r.reverse[i + 1]'(by simpa using h2) else t) :: r.reverse[i]'(by simpa using h) :: post := by
  have hj : (r.length - 1 - i) + 1 < (t :: r).length := by simp; omega
  obtain ⟨pre, post, e⟩ := split_at hj
  refine ⟨pre, post, ?_⟩
  have e1 : (t :: r)[r.length - 1 - i + 1] = r.reverse[i]'(by simpa using h) := by
    rw [List.getElem_cons_succ, List.getElem_reverse]
  have e2 : (t :: r)[r.length - 1 - i]'(by omega) = (if h2 : i + 1 < r.length then r.reverse[i + 1]'(by simpa using h2) else t) := by
    split
    · rename_i h2
      have e3 : r.length - 1 - i = (r.length - 1 - (i + 1)) + 1 := by omega
      simp only [e3, List.getElem_cons_succ, List.getElem_reverse]
    · have e3 : r.length - 1 - i = 0 := by omega
      simp only [e3, List.getElem_cons_zero]
  rw [← e1, ← e2]
  exact e
theorem nodup_inj {l : List P} (h : l.Nodup) {i j : Nat} {hi : i < l.length} {hj : j < l.length} (e : l[i] = l[j]) : i = j := by
  have p := List.pairwise_iff_getElem.mp h
  rcases Nat.lt_trichotomy i j with z | z | z
  · exact absurd e (p i j hi hj z)
  · exact z
  · exact absurd e.symm (p j i hj hi z)
/-! the polygon -/
def hull (s : List P) : List P := (half s).reverse.dropLast ++ (half s.reverse).reverse.dropLast
theorem rev_drop (t : P) (r : List P) : (t :: r).reverse.dropLast = r.reverse := by simp
/-- the corners, with what is known of them -/
structure Poly (s H : List P) : Prop where
  two : 2 ≤ H.length
  nodup : H.Nodup
  mem : ∀ c ∈ H, c ∈ s
  first : ∃ m, H[0]? = some m ∧ s.head? = some m ∧ ∀ c ∈ H, c ≠ m → Lt m c
  strict : ∀ (i j : Nat) (hi : i < H.length) (hj : j < H.length), j ≠ i → j ≠ (i + 1) % H.length → 0 < turn H[i] (H[(i + 1) % H.length]'(Nat.mod_lt _ (by omega))) H[j]
  weak : ∀ (i : Nat) (hi : i < H.length), ∀ x ∈ s, 0 ≤ turn H[i] (H[(i + 1) % H.length]'(Nat.mod_lt _ (by omega))) x
theorem poly {s : List P} (hs : s.Pairwise Lt) (h2 : 2 ≤ s.length) : Poly s (hull s) := by
  obtain ⟨m, rest, rfl⟩ : ∃ m rest, s = m :: rest := by
    cases s with
    | nil => simp at h2
    | cons m rest => exact ⟨m, rest, rfl⟩
  obtain ⟨S, M, C, hS⟩ := half_chain hs
  -- the upper chain, turned about
  obtain ⟨k, rest2, hk⟩ : ∃ k rest2, (m :: rest).reverse.map neg = k :: rest2 := by
    cases h : (m :: rest).reverse.map neg with
    | nil => simp at h
    | cons k r => exact ⟨k, r, rfl⟩
  have hs2 : (k :: rest2).Pairwise Lt := by
    rw [← hk, List.pairwise_map, List.pairwise_reverse]
    exact hs.imp fun h => lt_neg.mpr h
  obtain ⟨T, M2, D, hT0⟩ := half_chain hs2
  have hT : ∀ x, x ∈ T ↔ neg x ∈ S := fun x => by
    rw [hT0, ← hk, hS]
    simp only [List.mem_map, List.mem_reverse]
    constructor
    · rintro ⟨y, hy, rfl⟩
      rw [neg_neg]
      exact hy
    · intro h
      exact ⟨neg x, h, neg_neg x⟩
  have mS : m ∈ S := (hS m).mpr (by simp)
  have MS : M ∈ S := by
    have h := C.top
    cases q : half (m :: rest) with
    | nil => rw [q] at h; cases h
    | cons x l => rw [q] at h; cases h; exact C.mem M (by rw [q]; simp)
  have M2T : M2 ∈ T := by
    have h := D.top
    cases q : half (k :: rest2) with
    | nil => rw [q] at h; cases h
    | cons x l => rw [q] at h; cases h; exact D.mem M2 (by rw [q]; simp)
  have kT : k ∈ T := (hT0 k).mpr (by simp)
  have ek : k = neg M := by
    rcases Lt.total k (neg M) with h | h | h
    · exfalso
      have := C.most (neg k) ((hT k).mp kT)
      exact this (by have := lt_neg.mpr h; rwa [neg_neg] at this)
    · exact h
    · exact absurd h (D.least (neg M) ((hT _).mpr (by rw [neg_neg]; exact MS)))
  have eM2 : M2 = neg m := by
    rcases Lt.total M2 (neg m) with h | h | h
    · exact absurd h (D.most (neg m) ((hT _).mpr (by rw [neg_neg]; exact mS)))
    · exact h
    · exfalso
      have := C.least (neg M2) ((hT M2).mp M2T)
      exact this (by have := lt_neg.mpr h; rwa [neg_neg] at this)
  subst ek eM2
  have eV : half (neg M :: rest2) = (half (m :: rest).reverse).map neg := by rw [← hk, half_neg]
  rw [eV] at D
  generalize hLL : half (m :: rest) = L at C
  generalize hWW : half (m :: rest).reverse = W at D
  have hH : hull (m :: rest) = L.reverse.dropLast ++ W.reverse.dropLast := by unfold hull; rw [hLL, hWW]
  rw [hH]
  obtain ⟨r0, rest, rfl⟩ : ∃ r0 r, rest = r0 :: r := by
    cases rest with
    | nil => simp at h2
    | cons r0 r => exact ⟨r0, r, rfl⟩
  have mM : m ≠ M := fun e => by
    have h1 := C.most r0 ((hS r0).mpr (by simp))
    exact h1 (e ▸ (List.pairwise_cons.mp hs).1 r0 (by simp))
  obtain ⟨Lr, rfl⟩ : ∃ Lr, L = M :: Lr := by
    cases L with
    | nil => have := C.top; cases this
    | cons x l => have := C.top; cases this; exact ⟨l, rfl⟩
  obtain ⟨Wr, rfl⟩ : ∃ Wr, W = m :: Wr := by
    cases W with
    | nil => have := D.top; cases this
    | cons x l => have := D.top; exact ⟨l, by rw [neg_inj (Option.some.inj this)]⟩
  have hk0 : 0 < Lr.length := by
    cases Lr with
    | nil => have := C.bot; simp at this; exact absurd this.symm mM
    | cons _ _ => simp
  have hl0 : 0 < Wr.length := by
    cases Wr with
    | nil => have := D.bot; simp at this; exact absurd (neg_inj this) mM
    | cons _ _ => simp
  rw [rev_drop, rev_drop]
  clear hH hLL hWW hk h2
  have hn : (Lr.reverse ++ Wr.reverse).length = Lr.length + Wr.length := by simp
  have z1 : (Lr.reverse ++ Wr.reverse)[0]'(by omega) = m := by
    rw [List.getElem_append_left (by simpa using hk0), List.getElem_reverse]
    have h := C.bot
    rw [List.getLast?_eq_getElem?] at h
    have e : (M :: Lr).length - 1 = (Lr.length - 1 - 0) + 1 := by simp; omega
    rw [e, List.getElem?_cons_succ, List.getElem?_eq_getElem (by omega)] at h
    exact Option.some.inj h
  have z2 : (Lr.reverse ++ Wr.reverse)[Lr.length]'(by omega) = M := by
    rw [List.getElem_append_right (by simp), List.getElem_reverse]
    have h := D.bot
    rw [List.getLast?_eq_getElem?] at h
    have e : ((m :: Wr).map neg).length - 1 = (Wr.length - 1 - (Lr.length - Lr.reverse.length)) + 1 := by simp; omega
    rw [e, List.map_cons, List.getElem?_cons_succ, List.getElem?_map, List.getElem?_eq_getElem (by simp; omega)] at h
    exact neg_inj (Option.some.inj h)
  have inL : ∀ c, c ∈ Lr → Lt c M := fun c hc => (List.pairwise_cons.mp C.conv.down).1 c hc
  have inW : ∀ c, c ∈ Wr → Lt m c := fun c hc => by
    have := (List.pairwise_cons.mp (show ((neg m) :: Wr.map neg).Pairwise (fun x y => Lt y x) from D.conv.down)).1 (neg c) (List.mem_map_of_mem hc)
    exact lt_neg.mp this
  have side : ∀ c ∈ Lr.reverse ++ Wr.reverse, c ∈ (M :: Lr) ∨ neg c ∈ (m :: Wr).map neg := fun c hc => by
    rcases List.mem_append.mp hc with h | h
    · exact .inl (List.mem_cons_of_mem _ (List.mem_reverse.mp h))
    · exact .inr (List.mem_map_of_mem (List.mem_cons_of_mem _ (List.mem_reverse.mp h)))
  have inS : ∀ c ∈ Lr.reverse ++ Wr.reverse, c ∈ S := fun c hc => by
    rcases side c hc with h | h
    · exact C.mem c h
    · have := (hT _).mp (D.mem _ h)
      rwa [neg_neg] at this
  have nodup : (Lr.reverse ++ Wr.reverse).Nodup := by
    rw [List.nodup_append]
    refine ⟨?_, ?_, fun c h1 c' h2 e => ?_⟩
    · exact (List.pairwise_reverse).mpr ((List.pairwise_cons.mp C.conv.down).2.imp fun h => h.ne)
    · have h := (List.pairwise_cons.mp (show ((neg m) :: Wr.map neg).Pairwise (fun x y => Lt y x) from D.conv.down)).2
      rw [List.pairwise_map] at h
      exact (List.pairwise_reverse).mpr (h.imp fun h => (lt_neg.mp h).ne.symm)
    · subst e
      exact no_both C D hT (List.mem_cons_of_mem _ (List.mem_reverse.mp h1)) (List.mem_map_of_mem (List.mem_cons_of_mem _ (List.mem_reverse.mp h2))) (Lt.ne (inW c (List.mem_reverse.mp h2))).symm (Lt.ne (inL c (List.mem_reverse.mp h1)))
  -- each side is an edge of one of both chains
  have edge : ∀ (i : Nat) (hi : i < (Lr.reverse ++ Wr.reverse).length),
      (∃ pre post, M :: Lr = pre ++ ((Lr.reverse ++ Wr.reverse)[(i + 1) % (Lr.reverse ++ Wr.reverse).length]'(Nat.mod_lt _ (by omega))) :: (Lr.reverse ++ Wr.reverse)[i] :: post) ∨
      (∃ pre post, m :: Wr = pre ++ ((Lr.reverse ++ Wr.reverse)[(i + 1) % (Lr.reverse ++ Wr.reverse).length]'(Nat.mod_lt _ (by omega))) :: (Lr.reverse ++ Wr.reverse)[i] :: post) := by
    intro i hi
    by_cases h : i < Lr.length
    · left
      obtain ⟨pre, post, e⟩ := tail_edge (t := M) h
      refine ⟨pre, post, ?_⟩
      have e1 : (Lr.reverse ++ Wr.reverse)[i] = Lr.reverse[i]'(by simpa using h) := List.getElem_append_left (by simpa using h)
      have e2 : (Lr.reverse ++ Wr.reverse)[(i + 1) % (Lr.reverse ++ Wr.reverse).length]'(Nat.mod_lt _ (by omega)) = (if h2 : i + 1 < Lr.length then Lr.reverse[i + 1]'(by simpa using h2) else M) := by
        have em : (i + 1) % (Lr.reverse ++ Wr.reverse).length = i + 1 := Nat.mod_eq_of_lt (by omega)
        simp only [em]
        split
        · rename_i h2
          exact List.getElem_append_left (by simpa using h2)
        · have : i + 1 = Lr.length := by omega
          simp only [this]
          exact z2
      rw [e1, e2]
      exact e
    · right
      have h' : i - Lr.length < Wr.length := by omega
      obtain ⟨pre, post, e⟩ := tail_edge (t := m) h'
      refine ⟨pre, post, ?_⟩
      have e1 : (Lr.reverse ++ Wr.reverse)[i] = Wr.reverse[i - Lr.length]'(by simpa using h') := by
        rw [List.getElem_append_right (by simp; omega)]
        simp
      have e2 : (Lr.reverse ++ Wr.reverse)[(i + 1) % (Lr.reverse ++ Wr.reverse).length]'(Nat.mod_lt _ (by omega)) = (if h2 : i - Lr.length + 1 < Wr.length then Wr.reverse[i - Lr.length + 1]'(by simpa using h2) else m) := by
        split
        · rename_i h2
          have em : (i + 1) % (Lr.reverse ++ Wr.reverse).length = i + 1 := Nat.mod_eq_of_lt (by omega)
          simp only [em]
          rw [List.getElem_append_right (by simp; omega)]
          have : i + 1 - Lr.reverse.length = i - Lr.length + 1 := by simp; omega
          simp only [this]
        · have em : (i + 1) % (Lr.reverse ++ Wr.reverse).length = 0 := by
            have : i + 1 = (Lr.reverse ++ Wr.reverse).length := by omega
            rw [this, Nat.mod_self]
          simp only [em]
          exact z1
      rw [e1, e2]
      exact e
  have turned : ∀ {p q : P} {pre post : List P}, m :: Wr = pre ++ q :: p :: post → (m :: Wr).map neg = pre.map neg ++ neg q :: neg p :: post.map neg := fun {p q pre post} e => by rw [e]; simp
  have C' : Chain S (neg (neg m)) (neg (neg M)) (M :: Lr) := by rw [neg_neg, neg_neg]; exact C
  have hT' : ∀ x, x ∈ S ↔ neg x ∈ T := fun x => by rw [hT, neg_neg]
  refine ⟨by omega, nodup, fun c hc => (hS c).mp (inS c hc), ⟨m, ?_, rfl, fun c hc cm => ?_⟩, fun i j hi hj h1 h2 => ?_, fun i hi x hx => ?_⟩
  · rw [List.getElem?_eq_getElem (by omega), z1]
  · rcases Lt.total c m with h | h | h
    · exact absurd h (C.least c (inS c hc))
    · exact absurd h cm
    · exact h
  · have d1 : (Lr.reverse ++ Wr.reverse)[j] ≠ (Lr.reverse ++ Wr.reverse)[i] := fun e => h1 (nodup_inj nodup e)
    have d2 : (Lr.reverse ++ Wr.reverse)[j] ≠ (Lr.reverse ++ Wr.reverse)[(i + 1) % (Lr.reverse ++ Wr.reverse).length]'(Nat.mod_lt _ (by omega)) := fun e => h2 (nodup_inj nodup e)
    have cj := side _ (List.getElem_mem hj)
    rcases edge i hi with ⟨pre, post, e⟩ | ⟨pre, post, e⟩
    · exact strict C D hT e cj d1 d2
    · have e' := turned e
      have cj' : neg (Lr.reverse ++ Wr.reverse)[j] ∈ (m :: Wr).map neg ∨ neg (neg (Lr.reverse ++ Wr.reverse)[j]) ∈ M :: Lr := by
        rw [neg_neg]
        exact cj.symm
      have k := strict D C' hT' e' cj' (fun z => d1 (neg_inj z)) (fun z => d2 (neg_inj z))
      rwa [turn_neg] at k
  · have xS := (hS x).mpr hx
    rcases edge i hi with ⟨pre, post, e⟩ | ⟨pre, post, e⟩
    · exact (Edges.at (by rw [← e]; exact C.left) : ∀ s ∈ S, 0 ≤ turn _ _ s) x xS
    · have e' := turned e
      have k := (Edges.at (by rw [← e']; exact D.left) : ∀ s ∈ T, 0 ≤ turn (neg (Lr.reverse ++ Wr.reverse)[i]) (neg ((Lr.reverse ++ Wr.reverse)[(i + 1) % (Lr.reverse ++ Wr.reverse).length]'(Nat.mod_lt _ (by omega)))) s) (neg x) ((hT' x).mp xS)
      rwa [turn_neg] at k
end Hull
set_option Elab.async false
set_option linter.all false
set_option maxRecDepth 100000
set_option maxHeartbeats 1000000
/-! sorted(s), s a set of pairs of ints of any size -/
namespace L2
open PySem PySem.Spec PyProof.Rows
/-- the pair that a list of ints is -/
def prOf : List Int → Int × Int
  | x :: y :: _ => (x, y)
  | _ => (0, 0)
theorem tupInts_pair {h : Heap} {b : Addr} {x y : Int} (t : TS.TupInts h (.ref b) [x, y]) : Srt.IsPair h (.ref b) x y := by
  obtain ⟨c, its, e, ⟨o, ho, hc, n, hd⟩, hi⟩ := t
  cases e
  obtain ⟨l, rfl⟩ : ∃ l : List Value, its = l.toArray := ⟨its.toList, by rw [Array.toArray_toList]⟩
  simp only at hi
  have hi2 : IntsAre l [x, y] := by simpa using hi
  cases hi2 with
  | cons _ t1 r1 =>
    cases r1 with
    | cons _ t2 r2 =>
      cases r2
      exact ⟨b, o, t1, t2, n, rfl, ho, hc, hd⟩
section
variable {P : Program} {w : World} {A : Around} {E : Value → Shared → Prop} {s : Shared}
theorem sorted_setP {a : Addr} {L : List (Addr × List Int)} {es : Array (Int × Value)} {ep : Nat} {t : SetTable} {Q : Value → Shared → Prop} (R : SetTR P w s.heap a L es ep t) (hnone : A.handled = none) (h2 : ∀ p ∈ L, ∃ x y, p.2 = [x, y])
    (fin : ∀ s' p (out : List Value) (c : Nat) (M : List (Addr × List Int)), (∀ b o, s.heap.get? b = some o → s'.heap.get? b = some o) → s'.gens = s.gens → s'.os = s.os → s.heap.objs.size ≤ p →
      s'.heap.get? p = some (seqObj "list" out.toArray c) → out = M.map (fun q => Value.ref q.1) → M.Perm L → M.Pairwise (fun q r => SrtO.lexB (prOf r.2) (prOf q.2) = false) → Q (.ref p) s') :
    wpAny (model P w) A (call (.builtin "sorted") [.ref a]) Q E s := by
  obtain ⟨o, ho, hex, hd⟩ := R.ob
  have many := R.few
  refine Calls.call_function_entry kind_sorted plain_sorted entry_sorted (args_sorted1 _) ?_
  unfold Builtin.«sorted»
  refine wpAny_bind (m := checkCount "sorted" 1 1 _) (wpAny_pure ?_)
  have esz := R.size
  refine wpAny_bind (collect_set (A := A.in1) hnone ⟨o, ho, hex.1, hd⟩ R.fits (by unfold scanBound; omega) R.tab.ris R.led fun s1 vs keep1 grow1 gens1 os1 pm => ?_)
  have rowsE : es.toList.map (·.2) = L.map fun q => Value.ref q.1 := by
    rw [R.rows]
    unfold rowsOf
    rw [List.map_map] <;> rfl
  rw [rowsE] at pm
  -- each value comes from a row
  have from_row : ∀ v ∈ vs, ∃ q ∈ L, v = Value.ref q.1 := fun v hv => by
    obtain ⟨q, hq, e⟩ := List.mem_map.mp (pm.mem_iff.mp hv)
    exact ⟨q, hq, e.symm⟩
  have lift : ∀ us : List Value, (∀ v ∈ us, ∃ q ∈ L, v = Value.ref q.1) → ∃ M : List (Addr × List Int), us = M.map (fun q => Value.ref q.1) ∧ ∀ q ∈ M, q ∈ L := by
    intro us
    induction us with
    | nil => exact fun _ => ⟨[], rfl, fun q hq => nomatch hq⟩
    | cons v us ih =>
      intro hv
      obtain ⟨q, hq, e⟩ := hv v List.mem_cons_self
      obtain ⟨M, eM, sM⟩ := ih fun u hu => hv u (List.mem_cons_of_mem _ hu)
      exact ⟨q :: M, by rw [List.map_cons, e, eM], List.forall_mem_cons.mpr ⟨hq, sM⟩⟩
  have key1 : ∀ q ∈ L, ∀ r ∈ L, q.1 = r.1 → q = r := fun q hq r hr e => by
    have a1 := R.tup q hq
    rw [e] at a1
    exact Prod.ext e (a1.inj (R.tup r hr))
  have back : ∀ M : List (Addr × List Int), (∀ q ∈ M, q ∈ L) → (M.map (fun q => Value.ref q.1)).Perm (L.map fun q => Value.ref q.1) → M.Perm L := by
    intro M sM pM
    have nL : L.Nodup := nodup_of_map R.nd
    have nR : (L.map fun q => Value.ref q.1).Nodup := by
      refine List.pairwise_map.mpr (List.Pairwise.imp_of_mem (fun {q r} hq hr hne e => ?_) nL)
      exact hne (key1 q hq r hr (Value.ref.inj e))
    refine (List.perm_ext_iff_of_nodup (nodup_of_map (pM.nodup_iff.mpr nR)) nL).mpr fun q => ⟨sM q, fun hq => ?_⟩
    obtain ⟨r, hr, e⟩ := List.mem_map.mp (pM.mem_iff.mpr (List.mem_map.mpr ⟨q, hq, rfl⟩))
    rw [← key1 r (sM r hr) q hq (Value.ref.inj e)]
    exact hr
  have len64 : vs.length < 64 := by
    rw [pm.length_eq, List.length_map]
    exact many
  refine wpAny_bind (wpAny_newList ?_ (by rw [sizeLine_eq]; omega))
  have newAt : (s1.heap.push (seqObj "list" vs.toArray 0)).get? s1.heap.objs.size = some (seqObj "list" vs.toArray 0) := Heap.get?_push_size _ rfl
  have ti : ∀ q ∈ L, TS.TupInts (s1.heap.push (seqObj "list" vs.toArray 0)) (.ref q.1) q.2 := fun q hq => tupInts_of (P := P) (w := w) (isT_keep (R.tup q hq) fun b u e => Heap.get?_push_of_some _ (keep1 b u e))
  have pairs : ∀ v ∈ vs, Srt.IsPair (s1.heap.push (seqObj "list" vs.toArray 0)) v (prOf (TS.intsOf (s1.heap.push (seqObj "list" vs.toArray 0)) v)).1 (prOf (TS.intsOf (s1.heap.push (seqObj "list" vs.toArray 0)) v)).2 := fun v hv => by
    obtain ⟨q, hq, rfl⟩ := from_row v hv
    obtain ⟨x, y, e⟩ := h2 q hq
    have z := ti q hq
    rw [z.ints, e]
    rw [e] at z
    exact tupInts_pair z
  refine wpAny_bind (wpAny_holding (wpAny_call_entry slot_list_sort ⟨_, newAt, rfl⟩ entry_list_sort (SrtO.list_sort_ord (s := { s1 with heap := s1.heap.push (seqObj "list" vs.toArray 0) }) (SrtO.swo_lex fun v => prOf (TS.intsOf (s1.heap.push (seqObj "list" vs.toArray 0)) v)) newAt (by rw [sizeLine_eq]; omega)
    (fun two => SrtO.pairs_sortableO (s := { s1 with heap := s1.heap.push (seqObj "list" vs.toArray 0) }) (by omega) pairs fun u e c => ?_) fun out so sb => ⟨_, rfl, ?_⟩) (args_list_sort _)))
  · cases newAt.symm.trans e
    exact absurd (Value.type.inj c) (by decide)
  · obtain ⟨c, hc⟩ := sortedHeap_at (vs := vs) (out := out.toArray) newAt
    obtain ⟨M, eM, sM⟩ := lift out fun v hv => from_row v (sb.perm.mem_iff.mp hv)
    have pL : M.Perm L := back M sM (by rw [← eM]; exact sb.perm.trans pm)
    have pw : M.Pairwise (fun q r => SrtO.lexB (prOf r.2) (prOf q.2) = false) := by
      rw [eM] at so
      refine List.Pairwise.imp_of_mem (fun {q r} hq hr z => ?_) (List.pairwise_map.mp so)
      have f1 := (ti q (sM q hq)).ints
      have f2 := (ti r (sM r hr)).ints
      simp only [f1, f2] at z
      exact z
    refine wpAny_pure ⟨_, rfl, fin _ s1.heap.objs.size out c M (fun b u e => ?_) gens1 os1 grow1 hc eM pL pw⟩
    have q := keep1 b u e
    have lt := Heap.lt_size q
    show (sortedHeap (s1.heap.push (seqObj "list" vs.toArray 0)) s1.heap.objs.size vs out.toArray).get? b = some u
    rw [sortedHeap_old (Nat.ne_of_lt lt) (by rw [size_push']; exact Nat.lt_succ_of_lt lt)]
    exact Heap.get?_push_of_some _ q
end
/-- sorted(s), s a set of pairs of ints: a new list of them, ascending -/
def rSortedSP (K : PySem.W.Frag) (P : Program) (w : World) : List V → Hp → VK → Prop := fun vs H Q => ∃ (a : Addr) (L : List (Addr × List Int)), vs = [V.ref a] ∧ H a = some (SetTO P w a L) ∧ (∀ p ∈ L, SqT K H p.1 (p.2.map V.int)) ∧ (∀ p ∈ L, ∃ x y, p.2 = [x, y]) ∧
  ∀ (M : List (Addr × List Int)) (p : Addr), M.Perm L → (M.map (·.2)).Nodup → M.length < 64 → M.Pairwise (fun q r => SrtO.lexB (prOf r.2) (prOf q.2) = false) → H p = none → Q (.ref p) (upd H p (.lst (M.map fun q => V.ref q.1)))
section
variable {X : Cx}
theorem cr_sortedSP (hc : X.calm = true) : CallR X (.builtin "sorted") (rSortedSP X.K X.prog X.w) := by
  rintro pins s σ H vs us Q I r ⟨a, L, rfl, ha, hk, hp2, q⟩
  have base : SetT0 X.prog X.w s.heap a L := (I.hok a _ ha).1
  obtain ⟨es, ep, t, R⟩ := base.full fun p hp => I.isT (hk p hp)
  rw [Vals.ref1 r]
  refine sorted_setP R (I.ok.hd hc) hp2 fun s' p out c M keep gs os grow at_ eo pm pw => ?_
  have few : M.length < 64 := by
    rw [pm.length_eq]
    exact R.few
  have free : H p = none := I.hok.fresh grow
  have vals : Vals (M.map fun q => V.ref q.1) out := by
    rw [eo]
    exact vals_of_refs M
  have J : Inv X pins σ (upd H p (.lst (M.map fun q => V.ref q.1))) { s with heap := s'.heap, gens := s'.gens, drawn := s'.drawn, toks := s'.toks } :=
    I.call (ch := []) (Un.laid keep grow free) (I.hok.laid keep grow ⟨by rw [List.length_map, sizeLine_eq]; omega, out, c, vals, at_⟩) (by rw [gs]; exact I.bare) (fun _ z => nomatch z)
  have e : s' = { s with heap := s'.heap, gens := s'.gens, drawn := s'.drawn, toks := s'.toks } := by
    cases s'
    cases s
    cases os
    rfl
  rw [e]
  exact ⟨.ref p, _, J, rfl, q M p pm ((pm.map (·.2)).nodup_iff.mpr R.nd) few pw free⟩
end
end L2
set_option Elab.async false
set_option linter.all false
set_option maxRecDepth 100000
set_option maxHeartbeats 1000000
/-! min(xs), max(xs), xs a list of pairs of ints -/
namespace L2
open PySem PySem.Spec PyProof.Rows
/-- op answers bt at every heap that holds what h0 held -/
def CmpK (prog : Program) (w : World) (A : Around) (h0 : Heap) (op : CmpOp) (vs : List Value) (bt : Nat → Nat → Bool) : Prop :=
  ∀ (i j : Nat) (u v : Value) (s : Shared) (Q : Value → Shared → Prop) (E : Value → Shared → Prop), (∀ b o, h0.get? b = some o → s.heap.get? b = some o) → vs[i]? = some u → vs[j]? = some v → Q (.bool (bt i j)) s → wpAny (model prog w) A (richCompare op u v) Q E s

section
variable {prog : Program} {w : World} {A : Around} {l it : Addr} {vs : List Value} {h0 : Heap} {bt : Nat → Nat → Bool}
theorem pm_min_turn {Fin : Result → Shared → Prop} (calm : A.handled = none) (away : l ≠ it) (itNew : h0.objs.size ≤ it) (lst : h0.IsList l vs.toArray) (cmp : CmpK prog w A.in1 h0 .Lt vs bt) (cell : Addr) (cellNew : h0.objs.size ≤ cell) (cellIt : cell ≠ it) :
    ∀ (left j : Nat) (s : Shared) (best : Value) (ep : Nat), vs.length - (j + 1) = left → j + 1 ≤ vs.length → (∀ b o, h0.get? b = some o → s.heap.get? b = some o) → s.heap.IsListIter it l (j + 1) → vs[argBest bt j]? = some best →
    s.heap.get? cell = some { cls := .type "list", dict := none, data := .seq #[best, best] ep, slots := #[] } →
    (∀ v h' tk, vs[argBest bt (vs.length - 1)]? = some v → (∀ b o, h0.get? b = some o → h'.get? b = some o) → Fin (.ok (.ret v)) { s with heap := h', toks := tk }) →
    codeAny (model prog w) A (.builtin "min.loop" ⟨[.ref it, .none, .ref cell], []⟩) Fin s := by
  have W := Walks.list (prog := prog) (w := w) (A := A.in1) calm it l away vs.toArray
  have many : vs.toArray.size = vs.length := List.size_toArray ..
  have named : (toString "min" ++ toString ".loop" : String) = "min.loop" := by decide
  have old : ∀ {b : Addr} {o : Obj}, h0.get? b = some o → b ∉ [it] ∧ b ≠ cell := fun {b o} e => by
    have z := Heap.lt_size e
    refine ⟨fun m => ?_, fun m => ?_⟩
    · rw [List.mem_singleton.mp m] at z
      exact absurd z (Nat.not_lt.mpr itNew)
    · rw [m] at z
      exact absurd z (Nat.not_lt.mpr cellNew)
  intro left
  induction left with
  | zero =>
    intro j s best ep e1 e2 keep iter eb hc fin
    have whole : j + 1 = vs.length := by omega
    refine codeAny_builtin PySem.F.entry_min_loop ?_
    rw [Around.under_plainId PySem.F.plain_min_loop _]
    show wpAny _ A.in1 (seqItems? (.ref cell) >>= _) _ _ s
    refine wpAny_bind (wpAny_seqItems hc rfl ?_)
    show wpAny _ A.in1 (tryCatch (pyNext (.ref it)) _ >>= _) _ _ s
    refine wpAny_bind (wpAny_tryCatch (W.done s _ _ ⟨by rw [many, ← whole]; exact iter, let ⟨o, ho, r⟩ := lst; ⟨o, keep _ _ ho, r⟩⟩ fun h' tk k1 => ?_))
    have hc1 := k1 cell _ (by simpa using cellIt) hc
    show wpAny _ A.in1 (updateSeq cell (fun _ => #[]) >>= _) _ _ _
    refine wpAny_bind ?_
    refine wpAny_updateSeq hc1 rfl (wpAny_bind (wpAny_letGo (wpAny_pure ?_)))
    refine fin best _ tk (by rw [← whole]; exact eb) fun b o e => ?_
    exact (Heap.get?_update_other _ _ (Ne.symm (old e).2)).trans (k1 b o (old e).1 (keep b o e))
  | succ left ih =>
    intro j s best ep e1 e2 keep iter eb hc fin
    have more : j + 1 < vs.length := by omega
    refine codeAny_builtin PySem.F.entry_min_loop ?_
    rw [Around.under_plainId PySem.F.plain_min_loop _]
    show wpAny _ A.in1 (seqItems? (.ref cell) >>= _) _ _ s
    refine wpAny_bind (wpAny_seqItems hc rfl ?_)
    show wpAny _ A.in1 (tryCatch (pyNext (.ref it)) _ >>= _) _ _ s
    refine wpAny_bind (wpAny_tryCatch (W.item (j + 1) s _ _ (by rw [many]; exact more) ⟨iter, let ⟨o, ho, r⟩ := lst; ⟨o, keep _ _ ho, r⟩⟩ fun v h' tk ev iter1 k1 => ?_))
    have ev1 : vs[j + 1]? = some v := by simpa using ev
    have hc1 := k1 cell _ (by simpa using cellIt) hc
    have keep1 : ∀ b o, h0.get? b = some o → h'.get? b = some o := fun b o e => k1 b o (old e).1 (keep b o e)
    show wpAny _ A.in1 (tryCatch (holding [v, v] (richCompare .Lt v best >>= _)) _ >>= _) _ _ _
    refine wpAny_bind (wpAny_tryCatch (wpAny_holding (wpAny_bind (cmp (j + 1) (argBest bt j) v best { s with heap := h', toks := tk } _ _ keep1 ev1 eb ?_))))
    refine wpAny_bind (wpAny_holding (wpAny_truthy_bool ?_))
    refine wpAny_bind (wpAny_letGo (wpAny_pure ?_))
    cases better : bt (j + 1) (argBest bt j) with
    | true =>
      simp only [if_true]
      refine wpAny_bind ?_
      refine wpAny_updateSeq hc1 rfl (wpAny_bind (wpAny_letGo ?_))
      rw [named]
      refine wpAny_pure ⟨plainId_quiet PySem.F.plain_min_loop _, ih (j + 1) _ v _ (by omega) more (fun b o e => ?_) ?_ (by simp only [argBest, better, if_true]; exact ev1) (Heap.get?_update_self _ hc1 rfl) fun v2 h2 tk2 a1 a2 => fin v2 h2 tk2 a1 a2⟩
      · exact (Heap.get?_update_other _ _ (Ne.symm (old e).2)).trans (keep1 b o e)
      · exact iter1.1.at fun o e => (Heap.get?_update_other _ _ cellIt).trans e
    | false =>
      simp only [Bool.false_eq_true, if_false]
      refine wpAny_bind (wpAny_letGo ?_)
      rw [named]
      exact wpAny_pure ⟨plainId_quiet PySem.F.plain_min_loop _, ih (j + 1) _ best ep (by omega) more keep1 iter1.1 (by simp only [argBest, better, Bool.false_eq_true, if_false]; exact eb) hc1 fun v2 h2 tk2 a1 a2 => fin v2 h2 tk2 a1 a2⟩
theorem pm_min {E Q : Value → Shared → Prop} {s : Shared} (calm : A.handled = none) (lst : s.heap.IsList l vs.toArray) (some1 : 0 < vs.length) (cmp : CmpK prog w A.in1 s.heap .Lt vs bt)
    (fin : ∀ v h' tk, vs[argBest bt (vs.length - 1)]? = some v → (∀ b o, s.heap.get? b = some o → h'.get? b = some o) → Q v { s with heap := h', toks := tk }) : wpAny (model prog w) A (call (.builtin "min") [.ref l]) Q E s := by
  have named : (toString "min" ++ toString ".loop" : String) = "min.loop" := by decide
  have lt : l < s.heap.objs.size := let ⟨_, e, _⟩ := lst; Heap.lt_size e
  refine call_function_tree PySem.F.kind_min PySem.F.plain_min PySem.F.entry_min (PySem.F.args_min1 _) ?_
  show wpAny _ A.in1 (Builtin.Builtins.bindParams "min" ["key", "default"] 0 ⟨[], []⟩ >>= _) _ _ s
  refine wpAny_bind (wpAny_of_eq (show Builtin.Builtins.bindParams "min" ["key", "default"] 0 ⟨[], []⟩ = pure [none, none] from rfl) ?_)
  refine wpAny_bind (wpAny_pure ?_)
  refine wpAny_bind (wpAny_pyIter_list lst ?_)
  refine wpAny_bind (wpAny_newObj_type ?_)
  rw [named]
  generalize hH : (s.heap.push { cls := .type "list_iterator", data := .fields #[.ref l, .int 0 0] }) = H1
  have size1 : H1.objs.size = s.heap.objs.size + 1 := by rw [← hH, Heap.size_push]
  have atIt : H1.IsListIter s.heap.objs.size l 0 := by
    rw [← hH]
    exact ⟨_, Heap.get?_push_size _ rfl, rfl, rfl⟩
  have keep1 : ∀ b o, s.heap.get? b = some o → H1.get? b = some o := fun b o e => by
    rw [← hH]
    exact Heap.get?_push_of_some _ e
  refine wpAny_pure ⟨plainId_quiet PySem.F.plain_min_loop _, ?_⟩
  have W := Walks.list (prog := prog) (w := w) (A := A.in1) calm s.heap.objs.size l (Nat.ne_of_lt lt) vs.toArray
  have many : vs.toArray.size = vs.length := List.size_toArray ..
  have hcell : (H1.push { cls := .type "list", dict := none, data := .seq #[] 0, slots := #[] }).get? H1.objs.size = some { cls := .type "list", dict := none, data := .seq #[] 0, slots := #[] } := Heap.get?_push_size _ rfl
  have keep2 : ∀ b o, H1.get? b = some o → (H1.push { cls := .type "list", dict := none, data := .seq #[] 0, slots := #[] }).get? b = some o := fun b o e => Heap.get?_push_of_some _ e
  refine codeAny_builtin PySem.F.entry_min_loop ?_
  rw [Around.under_plainId PySem.F.plain_min_loop _]
  show wpAny _ A.in1 (seqItems? (.ref H1.objs.size) >>= _) _ _ { s with heap := H1.push { cls := .type "list", dict := none, data := .seq #[] 0, slots := #[] } }
  refine wpAny_bind (wpAny_seqItems hcell rfl ?_)
  show wpAny _ A.in1 (tryCatch (pyNext (.ref s.heap.objs.size)) _ >>= _) _ _ _
  refine wpAny_bind (wpAny_tryCatch (W.item 0 _ _ _ (by rw [many]; exact some1) ⟨atIt.at fun o e => keep2 _ _ e, let ⟨o, ho, r⟩ := lst; ⟨o, keep2 _ _ (keep1 _ _ ho), r⟩⟩ fun v h' tk ev iter1 k1 => ?_))
  have ev1 : vs[0]? = some v := by simpa using ev
  have off : H1.objs.size ≠ s.heap.objs.size := by omega
  have hc1 := k1 H1.objs.size _ (by simpa using off) hcell
  show wpAny _ A.in1 (updateSeq H1.objs.size (fun _ => #[v, v]) >>= _) _ _ _
  refine wpAny_bind ?_
  refine wpAny_updateSeq hc1 rfl ?_
  rw [named]
  refine wpAny_pure ⟨plainId_quiet PySem.F.plain_min_loop _, pm_min_turn calm (Nat.ne_of_lt lt) (Nat.le_refl _) lst cmp H1.objs.size (by omega) off _ 0 _ v _ rfl some1 (fun b o e => ?_) ?_ ev1 (Heap.get?_update_self _ hc1 rfl) fun v2 h2 tk2 a1 a2 => fin v2 h2 tk2 a1 a2⟩
  · have z := Heap.lt_size e
    refine (Heap.get?_update_other _ _ (Nat.ne_of_gt (show b < H1.objs.size by rw [size1]; exact Nat.lt_succ_of_lt z))).trans (k1 b o (fun m => ?_) (keep2 _ _ (keep1 _ _ e)))
    rw [List.mem_singleton.mp m] at z
    exact absurd z (Nat.lt_irrefl _)
  · exact iter1.1.at fun o e => (Heap.get?_update_other _ _ off).trans e
end

section
variable {prog : Program} {w : World} {A : Around} {l it : Addr} {vs : List Value} {h0 : Heap} {bt : Nat → Nat → Bool}
theorem pm_max_turn {Fin : Result → Shared → Prop} (calm : A.handled = none) (away : l ≠ it) (itNew : h0.objs.size ≤ it) (lst : h0.IsList l vs.toArray) (cmp : CmpK prog w A.in1 h0 .Gt vs bt) (cell : Addr) (cellNew : h0.objs.size ≤ cell) (cellIt : cell ≠ it) :
    ∀ (left j : Nat) (s : Shared) (best : Value) (ep : Nat), vs.length - (j + 1) = left → j + 1 ≤ vs.length → (∀ b o, h0.get? b = some o → s.heap.get? b = some o) → s.heap.IsListIter it l (j + 1) → vs[argBest bt j]? = some best →
    s.heap.get? cell = some { cls := .type "list", dict := none, data := .seq #[best, best] ep, slots := #[] } →
    (∀ v h' tk, vs[argBest bt (vs.length - 1)]? = some v → (∀ b o, h0.get? b = some o → h'.get? b = some o) → Fin (.ok (.ret v)) { s with heap := h', toks := tk }) →
    codeAny (model prog w) A (.builtin "max.loop" ⟨[.ref it, .none, .ref cell], []⟩) Fin s := by
  have W := Walks.list (prog := prog) (w := w) (A := A.in1) calm it l away vs.toArray
  have many : vs.toArray.size = vs.length := List.size_toArray ..
  have named : (toString "max" ++ toString ".loop" : String) = "max.loop" := by decide
  have old : ∀ {b : Addr} {o : Obj}, h0.get? b = some o → b ∉ [it] ∧ b ≠ cell := fun {b o} e => by
    have z := Heap.lt_size e
    refine ⟨fun m => ?_, fun m => ?_⟩
    · rw [List.mem_singleton.mp m] at z
      exact absurd z (Nat.not_lt.mpr itNew)
    · rw [m] at z
      exact absurd z (Nat.not_lt.mpr cellNew)
  intro left
  induction left with
  | zero =>
    intro j s best ep e1 e2 keep iter eb hc fin
    have whole : j + 1 = vs.length := by omega
    refine codeAny_builtin PySem.F.entry_max_loop ?_
    rw [Around.under_plainId PySem.F.plain_max_loop _]
    show wpAny _ A.in1 (seqItems? (.ref cell) >>= _) _ _ s
    refine wpAny_bind (wpAny_seqItems hc rfl ?_)
    show wpAny _ A.in1 (tryCatch (pyNext (.ref it)) _ >>= _) _ _ s
    refine wpAny_bind (wpAny_tryCatch (W.done s _ _ ⟨by rw [many, ← whole]; exact iter, let ⟨o, ho, r⟩ := lst; ⟨o, keep _ _ ho, r⟩⟩ fun h' tk k1 => ?_))
    have hc1 := k1 cell _ (by simpa using cellIt) hc
    show wpAny _ A.in1 (updateSeq cell (fun _ => #[]) >>= _) _ _ _
    refine wpAny_bind ?_
    refine wpAny_updateSeq hc1 rfl (wpAny_bind (wpAny_letGo (wpAny_pure ?_)))
    refine fin best _ tk (by rw [← whole]; exact eb) fun b o e => ?_
    exact (Heap.get?_update_other _ _ (Ne.symm (old e).2)).trans (k1 b o (old e).1 (keep b o e))
  | succ left ih =>
    intro j s best ep e1 e2 keep iter eb hc fin
    have more : j + 1 < vs.length := by omega
    refine codeAny_builtin PySem.F.entry_max_loop ?_
    rw [Around.under_plainId PySem.F.plain_max_loop _]
    show wpAny _ A.in1 (seqItems? (.ref cell) >>= _) _ _ s
    refine wpAny_bind (wpAny_seqItems hc rfl ?_)
    show wpAny _ A.in1 (tryCatch (pyNext (.ref it)) _ >>= _) _ _ s
    refine wpAny_bind (wpAny_tryCatch (W.item (j + 1) s _ _ (by rw [many]; exact more) ⟨iter, let ⟨o, ho, r⟩ := lst; ⟨o, keep _ _ ho, r⟩⟩ fun v h' tk ev iter1 k1 => ?_))
    have ev1 : vs[j + 1]? = some v := by simpa using ev
    have hc1 := k1 cell _ (by simpa using cellIt) hc
    have keep1 : ∀ b o, h0.get? b = some o → h'.get? b = some o := fun b o e => k1 b o (old e).1 (keep b o e)
    show wpAny _ A.in1 (tryCatch (holding [v, v] (richCompare .Gt v best >>= _)) _ >>= _) _ _ _
    refine wpAny_bind (wpAny_tryCatch (wpAny_holding (wpAny_bind (cmp (j + 1) (argBest bt j) v best { s with heap := h', toks := tk } _ _ keep1 ev1 eb ?_))))
    refine wpAny_bind (wpAny_holding (wpAny_truthy_bool ?_))
    refine wpAny_bind (wpAny_letGo (wpAny_pure ?_))
    cases better : bt (j + 1) (argBest bt j) with
    | true =>
      simp only [if_true]
      refine wpAny_bind ?_
      refine wpAny_updateSeq hc1 rfl (wpAny_bind (wpAny_letGo ?_))
      rw [named]
      refine wpAny_pure ⟨plainId_quiet PySem.F.plain_max_loop _, ih (j + 1) _ v _ (by omega) more (fun b o e => ?_) ?_ (by simp only [argBest, better, if_true]; exact ev1) (Heap.get?_update_self _ hc1 rfl) fun v2 h2 tk2 a1 a2 => fin v2 h2 tk2 a1 a2⟩
      · exact (Heap.get?_update_other _ _ (Ne.symm (old e).2)).trans (keep1 b o e)
      · exact iter1.1.at fun o e => (Heap.get?_update_other _ _ cellIt).trans e
    | false =>
      simp only [Bool.false_eq_true, if_false]
      refine wpAny_bind (wpAny_letGo ?_)
      rw [named]
      exact wpAny_pure ⟨plainId_quiet PySem.F.plain_max_loop _, ih (j + 1) _ best ep (by omega) more keep1 iter1.1 (by simp only [argBest, better, Bool.false_eq_true, if_false]; exact eb) hc1 fun v2 h2 tk2 a1 a2 => fin v2 h2 tk2 a1 a2⟩
theorem pm_max {E Q : Value → Shared → Prop} {s : Shared} (calm : A.handled = none) (lst : s.heap.IsList l vs.toArray) (some1 : 0 < vs.length) (cmp : CmpK prog w A.in1 s.heap .Gt vs bt)
    (fin : ∀ v h' tk, vs[argBest bt (vs.length - 1)]? = some v → (∀ b o, s.heap.get? b = some o → h'.get? b = some o) → Q v { s with heap := h', toks := tk }) : wpAny (model prog w) A (call (.builtin "max") [.ref l]) Q E s := by
  have named : (toString "max" ++ toString ".loop" : String) = "max.loop" := by decide
  have lt : l < s.heap.objs.size := let ⟨_, e, _⟩ := lst; Heap.lt_size e
  refine call_function_tree PySem.F.kind_max PySem.F.plain_max PySem.F.entry_max (PySem.F.args_max1 _) ?_
  show wpAny _ A.in1 (Builtin.Builtins.bindParams "max" ["key", "default"] 0 ⟨[], []⟩ >>= _) _ _ s
  refine wpAny_bind (wpAny_of_eq (show Builtin.Builtins.bindParams "max" ["key", "default"] 0 ⟨[], []⟩ = pure [none, none] from rfl) ?_)
  refine wpAny_bind (wpAny_pure ?_)
  refine wpAny_bind (wpAny_pyIter_list lst ?_)
  refine wpAny_bind (wpAny_newObj_type ?_)
  rw [named]
  generalize hH : (s.heap.push { cls := .type "list_iterator", data := .fields #[.ref l, .int 0 0] }) = H1
  have size1 : H1.objs.size = s.heap.objs.size + 1 := by rw [← hH, Heap.size_push]
  have atIt : H1.IsListIter s.heap.objs.size l 0 := by
    rw [← hH]
    exact ⟨_, Heap.get?_push_size _ rfl, rfl, rfl⟩
  have keep1 : ∀ b o, s.heap.get? b = some o → H1.get? b = some o := fun b o e => by
    rw [← hH]
    exact Heap.get?_push_of_some _ e
  refine wpAny_pure ⟨plainId_quiet PySem.F.plain_max_loop _, ?_⟩
  have W := Walks.list (prog := prog) (w := w) (A := A.in1) calm s.heap.objs.size l (Nat.ne_of_lt lt) vs.toArray
  have many : vs.toArray.size = vs.length := List.size_toArray ..
  have hcell : (H1.push { cls := .type "list", dict := none, data := .seq #[] 0, slots := #[] }).get? H1.objs.size = some { cls := .type "list", dict := none, data := .seq #[] 0, slots := #[] } := Heap.get?_push_size _ rfl
  have keep2 : ∀ b o, H1.get? b = some o → (H1.push { cls := .type "list", dict := none, data := .seq #[] 0, slots := #[] }).get? b = some o := fun b o e => Heap.get?_push_of_some _ e
  refine codeAny_builtin PySem.F.entry_max_loop ?_
  rw [Around.under_plainId PySem.F.plain_max_loop _]
  show wpAny _ A.in1 (seqItems? (.ref H1.objs.size) >>= _) _ _ { s with heap := H1.push { cls := .type "list", dict := none, data := .seq #[] 0, slots := #[] } }
  refine wpAny_bind (wpAny_seqItems hcell rfl ?_)
  show wpAny _ A.in1 (tryCatch (pyNext (.ref s.heap.objs.size)) _ >>= _) _ _ _
  refine wpAny_bind (wpAny_tryCatch (W.item 0 _ _ _ (by rw [many]; exact some1) ⟨atIt.at fun o e => keep2 _ _ e, let ⟨o, ho, r⟩ := lst; ⟨o, keep2 _ _ (keep1 _ _ ho), r⟩⟩ fun v h' tk ev iter1 k1 => ?_))
  have ev1 : vs[0]? = some v := by simpa using ev
  have off : H1.objs.size ≠ s.heap.objs.size := by omega
  have hc1 := k1 H1.objs.size _ (by simpa using off) hcell
  show wpAny _ A.in1 (updateSeq H1.objs.size (fun _ => #[v, v]) >>= _) _ _ _
  refine wpAny_bind ?_
  refine wpAny_updateSeq hc1 rfl ?_
  rw [named]
  refine wpAny_pure ⟨plainId_quiet PySem.F.plain_max_loop _, pm_max_turn calm (Nat.ne_of_lt lt) (Nat.le_refl _) lst cmp H1.objs.size (by omega) off _ 0 _ v _ rfl some1 (fun b o e => ?_) ?_ ev1 (Heap.get?_update_self _ hc1 rfl) fun v2 h2 tk2 a1 a2 => fin v2 h2 tk2 a1 a2⟩
  · have z := Heap.lt_size e
    refine (Heap.get?_update_other _ _ (Nat.ne_of_gt (show b < H1.objs.size by rw [size1]; exact Nat.lt_succ_of_lt z))).trans (k1 b o (fun m => ?_) (keep2 _ _ (keep1 _ _ e)))
    rw [List.mem_singleton.mp m] at z
    exact absurd z (Nat.lt_irrefl _)
  · exact iter1.1.at fun o e => (Heap.get?_update_other _ _ off).trans e
end

/-! the order of pairs -/
def lexO (p q : Int × Int) : Bool := decide (p.1 < q.1 ∨ (p.1 = q.1 ∧ p.2 < q.2))
theorem lexO_iff {p q : Int × Int} : lexO p q = true ↔ p.1 < q.1 ∨ (p.1 = q.1 ∧ p.2 < q.2) := decide_eq_true_iff
theorem lexLt2 (a b c d : Int) : HT.lexLt [a, b] [c, d] = lexO (a, b) (c, d) := by
  unfold lexO
  simp only [HT.lexLt]
  by_cases h1 : a = c
  · subst h1
    simp
    omega
  · simp [h1]
theorem argBest_lex (f : Nat → Int × Int) : ∀ n, argBest (fun i j => lexO (f i) (f j)) n ≤ n ∧ ∀ j, j ≤ n → lexO (f j) (f (argBest (fun i j => lexO (f i) (f j)) n)) = false := by
  intro n
  induction n with
  | zero =>
    refine ⟨Nat.le_refl _, fun j hj => ?_⟩
    rw [Nat.le_zero.mp hj]
    refine decide_eq_false ?_
    show ¬ ((f 0).1 < (f 0).1 ∨ ((f 0).1 = (f 0).1 ∧ (f 0).2 < (f 0).2))
    omega
  | succ n ih =>
    obtain ⟨i1, i2⟩ := ih
    unfold argBest
    generalize argBest (fun i j => lexO (f i) (f j)) n = m at i1 i2 ⊢
    cases hb : lexO (f (n + 1)) (f m) with
    | true =>
      rw [if_pos rfl]
      refine ⟨Nat.le_refl _, fun j hj => ?_⟩
      have hm := lexO_iff.mp hb
      by_cases e : j = n + 1
      · subst e
        exact decide_eq_false (by omega)
      · have := of_decide_eq_false (i2 j (by omega))
        exact decide_eq_false (by omega)
    | false =>
      rw [if_neg (by decide)]
      refine ⟨by omega, fun j hj => ?_⟩
      by_cases e : j = n + 1
      · rw [e]
        exact hb
      · exact i2 j (by omega)
theorem argBest_gex (f : Nat → Int × Int) : ∀ n, argBest (fun i j => lexO (f j) (f i)) n ≤ n ∧ ∀ j, j ≤ n → lexO (f (argBest (fun i j => lexO (f j) (f i)) n)) (f j) = false := by
  intro n
  induction n with
  | zero =>
    refine ⟨Nat.le_refl _, fun j hj => ?_⟩
    rw [Nat.le_zero.mp hj]
    refine decide_eq_false ?_
    show ¬ ((f 0).1 < (f 0).1 ∨ ((f 0).1 = (f 0).1 ∧ (f 0).2 < (f 0).2))
    omega
  | succ n ih =>
    obtain ⟨i1, i2⟩ := ih
    unfold argBest
    generalize argBest (fun i j => lexO (f j) (f i)) n = m at i1 i2 ⊢
    cases hb : lexO (f m) (f (n + 1)) with
    | true =>
      rw [if_pos rfl]
      refine ⟨Nat.le_refl _, fun j hj => ?_⟩
      have hm := lexO_iff.mp hb
      by_cases e : j = n + 1
      · subst e
        exact decide_eq_false (by omega)
      · have := of_decide_eq_false (i2 j (by omega))
        exact decide_eq_false (by omega)
    | false =>
      rw [if_neg (by decide)]
      refine ⟨by omega, fun j hj => ?_⟩
      by_cases e : j = n + 1
      · rw [e]
        exact hb
      · exact i2 j (by omega)
/-- < and > of two pairs that stand in the heap -/
theorem ints_pair {l : List Value} {x y : Int} (h : IntsAre l [x, y]) : ∃ t u, l = [.int x t, .int y u] := by
  cases h with
  | cons _ t1 r1 =>
    cases r1 with
    | cons _ t2 r2 =>
      cases r2
      exact ⟨t1, t2, rfl⟩
section
variable {prog : Program} {w : World} {A : Around} {s : Shared}
theorem rich_lt_pair {a b : Addr} {x y z u : Int} {Q E : Value → Shared → Prop} (h1 : TS.TupInts s.heap (.ref a) [x, y]) (h2 : TS.TupInts s.heap (.ref b) [z, u]) (hu : A.units < cLine) (q : Q (.bool (lexO (x, y) (z, u))) s) : wpAny (model prog w) A (richCompare .Lt (.ref a) (.ref b)) Q E s := by
  obtain ⟨c, i1, e1, T1, I1⟩ := h1
  obtain ⟨d, i2, e2, T2, I2⟩ := h2
  cases e1
  cases e2
  exact HT.lt_tupInts T1 T2 I1 I2 hu (by rw [lexLt2]; exact q)
theorem rich_gt_pair {a b : Addr} {x y z u : Int} {Q E : Value → Shared → Prop} (h1 : TS.TupInts s.heap (.ref a) [x, y]) (h2 : TS.TupInts s.heap (.ref b) [z, u]) (hu : A.units < cLine) (q : Q (.bool (lexO (z, u) (x, y))) s) : wpAny (model prog w) A (richCompare .Gt (.ref a) (.ref b)) Q E s := by
  obtain ⟨c, i1, e1, T1, I1⟩ := h1
  obtain ⟨d, i2, e2, T2, I2⟩ := h2
  cases e1
  cases e2
  obtain ⟨t1, t2, k1⟩ := ints_pair I1
  obtain ⟨t3, t4, k2⟩ := ints_pair I2
  obtain rfl : i1 = #[.int x t1, .int y t2] := by rw [← Array.toArray_toList (xs := i1), k1]
  obtain rfl : i2 = #[.int z t3, .int u t4] := by rw [← Array.toArray_toList (xs := i2), k2]
  refine Ob.RcOp.tuples_gt (e := fun j => if j = 0 then x == z else y == u) (r := fun j => if j = 0 then decide (x > z) else decide (y > u)) T1 T2 hu (fun j p1 p2 => ?_) (fun j p1 p2 _ => ?_) prog w E Q ?_
  · rcases (show j = 0 ∨ j = 1 by simp at p1; omega) with rfl | rfl
    · exact SeqAt.EqAt.int_int x t1 z t3
    · exact SeqAt.EqAt.int_int y t2 u t4
  · rcases (show j = 0 ∨ j = 1 by simp at p1; omega) with rfl | rfl
    · intro P W E' Q' q'
      exact richCompare_gives (op := .Gt) (typeIs_int _ _ _) (typeIs_int _ _ _) PySem.F.slot_int_gt PySem.F.entry_int_gt (PySem.F.args_int_gt_2 _ _) (gives_int_gt _ _ _ _) (fun x => nomatch x) q'
    · intro P W E' Q' q'
      exact richCompare_gives (op := .Gt) (typeIs_int _ _ _) (typeIs_int _ _ _) PySem.F.slot_int_gt PySem.F.entry_int_gt (PySem.F.args_int_gt_2 _ _) (gives_int_gt _ _ _ _) (fun x => nomatch x) q'
  · have e : Ob.lexAt (fun j => if j = 0 then x == z else y == u) (fun j => if j = 0 then decide (x > z) else decide (y > u)) (decide ((#[Value.int x t1, .int y t2] : Array Value).size > (#[Value.int z t3, .int u t4] : Array Value).size)) 0 (min (#[Value.int x t1, .int y t2] : Array Value).size (#[Value.int z t3, .int u t4] : Array Value).size) = lexO (z, u) (x, y) := by
      show Ob.lexAt _ _ (decide (2 > 2)) 0 2 = _
      simp only [Ob.lexAt, lexO]
      by_cases h1 : x = z
      · subst h1
        by_cases h2 : y = u
        · subst h2
          simp
        · simp [h2]
      · simp [h1]
        omega
    rw [e]
    exact q
end
/-- min(xs), max(xs), xs a list of pairs of ints: an item that no other is beside -/
def rMinP (K : PySem.W.Frag) (f : Int × Int → Int × Int → Bool) : List V → Hp → VK → Prop := fun vs H Q => ∃ (a : Addr) (ks : List (Addr × (Int × Int))), vs = [V.ref a] ∧ SqL K H a (ks.map fun p => V.ref p.1) ∧ (∀ p ∈ ks, SqT K H p.1 [.int p.2.1, .int p.2.2]) ∧ ks ≠ [] ∧
  ∀ p, p ∈ ks → (∀ r ∈ ks, f r.2 p.2 = false) → Q (.ref p.1) H
theorem refs_of_valsP : ∀ {ks : List (Addr × (Int × Int))} {us : List Value}, Vals (ks.map fun p => V.ref p.1) us → us = ks.map fun p => Value.ref p.1
  | [], _, .nil => rfl
  | p :: ks, _, .cons r t => by
    cases r
    rw [refs_of_valsP t] <;> rfl
section
variable {X : Cx}
theorem cmpK_of {pins : List (Addr × Obj)} {σ : St} {H : Hp} {s : Shared} (I : Inv X pins σ H s) {ks : List (Addr × (Int × Int))} (hk : ∀ p ∈ ks, SqT X.K H p.1 [.int p.2.1, .int p.2.2]) {A : Around} (hu : A.units < cLine) :
    CmpK X.prog X.w A s.heap .Lt (ks.map fun p => Value.ref p.1) (fun i j => lexO ((ks.map (·.2)).getD i (0, 0)) ((ks.map (·.2)).getD j (0, 0))) ∧ CmpK X.prog X.w A s.heap .Gt (ks.map fun p => Value.ref p.1) (fun i j => lexO ((ks.map (·.2)).getD j (0, 0)) ((ks.map (·.2)).getD i (0, 0))) := by
  have at_ : ∀ {i : Nat} {u : Value} {s' : Shared}, (∀ b o, s.heap.get? b = some o → s'.heap.get? b = some o) → (ks.map fun p => Value.ref p.1)[i]? = some u → ∃ a, u = .ref a ∧ TS.TupInts s'.heap (.ref a) [((ks.map (·.2)).getD i (0, 0)).1, ((ks.map (·.2)).getD i (0, 0)).2] := by
    intro i u s' keep e
    rw [List.getElem?_map] at e
    obtain ⟨p, e1, rfl⟩ := Option.map_eq_some_iff.mp e
    refine ⟨p.1, rfl, ?_⟩
    have e2 : (ks.map (·.2)).getD i (0, 0) = p.2 := by rw [List.getD_eq_getElem?_getD, List.getElem?_map, e1] <;> rfl
    rw [e2]
    obtain ⟨c, its, ec, ⟨o, ho, hc, n, hd⟩, hi⟩ := tupI_raw I (ns := [p.2.1, p.2.2]) (hk p (List.mem_of_getElem? e1))
    exact ⟨c, its, ec, ⟨o, keep _ _ ho, hc, n, hd⟩, hi⟩
  refine ⟨fun i j u v s' Q E keep eu ev q => ?_, fun i j u v s' Q E keep eu ev q => ?_⟩
  · obtain ⟨a, rfl, ta⟩ := at_ keep eu
    obtain ⟨b, rfl, tb⟩ := at_ keep ev
    exact rich_lt_pair ta tb hu q
  · obtain ⟨a, rfl, ta⟩ := at_ keep eu
    obtain ⟨b, rfl, tb⟩ := at_ keep ev
    exact rich_gt_pair ta tb hu q
theorem getD_map2 {ks : List (Addr × (Int × Int))} {i : Nat} {p : Addr × (Int × Int)} (e : ks[i]? = some p) : (ks.map (·.2)).getD i (0, 0) = p.2 := by rw [List.getD_eq_getElem?_getD, List.getElem?_map, e] <;> rfl
theorem cr_minP (hc : X.calm = true) (hu : X.A.units + 8 < cLine) : CallR X (.builtin "min") (rMinP X.K lexO) := by
  rintro pins s σ H vs us Q I r ⟨a, ks, rfl, hs, hk, hne, q⟩
  obtain ⟨its, rv, hl, _⟩ := I.list hs
  rw [Vals.ref1 r]
  obtain rfl := refs_of_valsP rv
  have pos : 0 < ks.length := List.length_pos_iff.mpr hne
  refine pm_min (I.ok.hd hc) hl.isList (by rw [List.length_map]; exact pos) (cmpK_of I hk (by show X.A.units + 1 < cLine; omega)).1 fun v h' tk ev keep => ?_
  rw [List.getElem?_map] at ev
  obtain ⟨p, e1, rfl⟩ := Option.map_eq_some_iff.mp ev
  rw [List.length_map] at e1
  refine ⟨.ref p.1, H, I.kept keep, rfl, q p (List.mem_of_getElem? e1) fun r hr => ?_⟩
  obtain ⟨j, hj, er⟩ := List.mem_iff_getElem.mp hr
  have z := (argBest_lex (fun i => (ks.map (·.2)).getD i (0, 0)) (ks.length - 1)).2 j (by omega)
  rw [getD_map2 e1, getD_map2 (List.getElem?_eq_some_iff.mpr ⟨hj, er⟩)] at z
  exact z
theorem cr_maxP (hc : X.calm = true) (hu : X.A.units + 8 < cLine) : CallR X (.builtin "max") (rMinP X.K fun p q => lexO q p) := by
  rintro pins s σ H vs us Q I r ⟨a, ks, rfl, hs, hk, hne, q⟩
  obtain ⟨its, rv, hl, _⟩ := I.list hs
  rw [Vals.ref1 r]
  obtain rfl := refs_of_valsP rv
  have pos : 0 < ks.length := List.length_pos_iff.mpr hne
  refine pm_max (I.ok.hd hc) hl.isList (by rw [List.length_map]; exact pos) (cmpK_of I hk (by show X.A.units + 1 < cLine; omega)).2 fun v h' tk ev keep => ?_
  rw [List.getElem?_map] at ev
  obtain ⟨p, e1, rfl⟩ := Option.map_eq_some_iff.mp ev
  rw [List.length_map] at e1
  refine ⟨.ref p.1, H, I.kept keep, rfl, q p (List.mem_of_getElem? e1) fun r hr => ?_⟩
  obtain ⟨j, hj, er⟩ := List.mem_iff_getElem.mp hr
  have z := (argBest_gex (fun i => (ks.map (·.2)).getD i (0, 0)) (ks.length - 1)).2 j (by omega)
  rw [getD_map2 e1, getD_map2 (List.getElem?_eq_some_iff.mpr ⟨hj, er⟩)] at z
  exact z
end
end L2
set_option Elab.async false
set_option linter.all false
set_option maxRecDepth 100000
set_option maxHeartbeats 1000000
set_option exponentiation.threshold 20000
namespace Fen
open PySem PySem.Spec PyProof.Rows L2
/-! points, each with the address of its tuple -/
abbrev Pts := List (Addr × Hull.P)
def refs (ks : Pts) : List V := ks.map fun p => V.ref p.1
def At (K : PySem.W.Frag) (H : Hp) (ks : Pts) : Prop := ∀ p ∈ ks, SqT K H p.1 [.int p.2.1, .int p.2.2]
theorem At.same {K : PySem.W.Frag} {H H' : Hp} {ks : Pts} (h : At K H ks) (s : Same H H') : At K H' ks := fun p hp => s.seqT (h p hp)
theorem At.sub {K : PySem.W.Frag} {H : Hp} {ks ls : Pts} (h : At K H ks) (s : ∀ p ∈ ls, p ∈ ks) : At K H ls := fun p hp => h p (s p hp)
/-- coordinates that can be multiplied -/
def Sm (p : Hull.P) : Prop := p.1.natAbs < 2 ^ 210 ∧ p.2.natAbs < 2 ^ 210
theorem refs_len (ks : Pts) : (refs ks).length = ks.length := List.length_map ..
theorem refs_get {ks : Pts} {i : Nat} {v : V} (h : (refs ks)[i]? = some v) : ∃ p, ks[i]? = some p ∧ v = .ref p.1 := by
  unfold refs at h
  rw [List.getElem?_map] at h
  obtain ⟨p, e, r⟩ := Option.map_eq_some_iff.mp h
  exact ⟨p, e, r.symm⟩
theorem refs_at {ks : Pts} {i : Nat} {p : Addr × Hull.P} (h : ks[i]? = some p) : (refs ks)[i]? = some (.ref p.1) := by
  unfold refs
  rw [List.getElem?_map, h]
  rfl
def popK (r : Hull.P) : Pts → Pts
  | b :: a :: rest => if Hull.turn a.2 b.2 r ≤ 0 then popK r (a :: rest) else b :: a :: rest
  | st => st
def pushK (st : Pts) (r : Addr × Hull.P) : Pts := r :: popK r.2 st
def halfK (ks : Pts) : Pts := ks.foldl pushK []
def hullK (ks : Pts) : Pts := (halfK ks).reverse.dropLast ++ (halfK ks.reverse).reverse.dropLast
theorem popK_one (r : Hull.P) (p : Addr × Hull.P) : popK r [p] = [p] := rfl
theorem popK_go {r : Hull.P} {b a : Addr × Hull.P} {rest : Pts} (h : Hull.turn a.2 b.2 r ≤ 0) : popK r (b :: a :: rest) = popK r (a :: rest) := by
  show (if Hull.turn a.2 b.2 r ≤ 0 then popK r (a :: rest) else b :: a :: rest) = _
  rw [if_pos h]
theorem popK_stay {r : Hull.P} {b a : Addr × Hull.P} {rest : Pts} (h : ¬ Hull.turn a.2 b.2 r ≤ 0) : popK r (b :: a :: rest) = b :: a :: rest := by
  show (if Hull.turn a.2 b.2 r ≤ 0 then popK r (a :: rest) else b :: a :: rest) = _
  rw [if_neg h]
theorem popK_snd (r : Hull.P) : ∀ st : Pts, (popK r st).map (·.2) = Hull.pop r (st.map (·.2))
  | [] => rfl
  | [p] => rfl
  | b :: a :: rest => by
    by_cases h : Hull.turn a.2 b.2 r ≤ 0
    · rw [popK_go h, popK_snd r (a :: rest)]
      show _ = (if Hull.turn a.2 b.2 r ≤ 0 then Hull.pop r ((a :: rest).map (·.2)) else _)
      rw [if_pos h]
    · rw [popK_stay h]
      show _ = (if Hull.turn a.2 b.2 r ≤ 0 then Hull.pop r ((a :: rest).map (·.2)) else _)
      rw [if_neg h]
      rfl
theorem popK_sub (r : Hull.P) : ∀ st : Pts, ∀ p ∈ popK r st, p ∈ st
  | [], p, hp => hp
  | [q], p, hp => hp
  | b :: a :: rest, p, hp => by
    by_cases h : Hull.turn a.2 b.2 r ≤ 0
    · rw [popK_go h] at hp
      exact List.mem_cons_of_mem _ (popK_sub r (a :: rest) p hp)
    · rw [popK_stay h] at hp
      exact hp
theorem popK_len (r : Hull.P) : ∀ st : Pts, (popK r st).length ≤ st.length
  | [] => Nat.le_refl _
  | [q] => Nat.le_refl _
  | b :: a :: rest => by
    by_cases h : Hull.turn a.2 b.2 r ≤ 0
    · rw [popK_go h]
      exact Nat.le_trans (popK_len r (a :: rest)) (by simp)
    · rw [popK_stay h]
      exact Nat.le_refl _
theorem fold_snd : ∀ (ks st : Pts), (ks.foldl pushK st).map (·.2) = (ks.map (·.2)).foldl Hull.push (st.map (·.2))
  | [], st => rfl
  | k :: ks, st => by
    show (ks.foldl pushK (pushK st k)).map (·.2) = (ks.map (·.2)).foldl Hull.push (Hull.push (st.map (·.2)) k.2)
    rw [fold_snd ks]
    show List.foldl Hull.push (k.2 :: (popK k.2 st).map (·.2)) _ = _
    rw [popK_snd]
    rfl
theorem half_snd (ks : Pts) : (halfK ks).map (·.2) = Hull.half (ks.map (·.2)) := fold_snd ks []
theorem fold_sub : ∀ (ks st : Pts), ∀ p ∈ ks.foldl pushK st, p ∈ ks ∨ p ∈ st
  | [], st, p, h => .inr h
  | k :: ks, st, p, h => by
    rcases fold_sub ks (pushK st k) p h with z | z
    · exact .inl (List.mem_cons_of_mem _ z)
    · rcases List.mem_cons.mp z with rfl | z
      · exact .inl List.mem_cons_self
      · exact .inr (popK_sub _ _ _ z)
theorem half_sub (ks : Pts) : ∀ p ∈ halfK ks, p ∈ ks := fun p h => (fold_sub ks [] p h).elim id fun z => nomatch z
theorem fold_len : ∀ (ks st : Pts), (ks.foldl pushK st).length ≤ ks.length + st.length
  | [], st => by simp
  | k :: ks, st => by
    have h := fold_len ks (pushK st k)
    have h2 : (pushK st k).length ≤ st.length + 1 := Nat.succ_le_succ (popK_len k.2 st)
    have h3 : (k :: ks).length = ks.length + 1 := rfl
    show (ks.foldl pushK (pushK st k)).length ≤ _
    omega
theorem half_len (ks : Pts) : (halfK ks).length ≤ ks.length := fold_len ks []
theorem half_snoc (ks : Pts) (p : Addr × Hull.P) : halfK (ks ++ [p]) = pushK (halfK ks) p := by
  unfold halfK
  rw [List.foldl_append]
  rfl
theorem take_succ_at {α : Type} {l : List α} {i : Nat} {x : α} (h : l[i]? = some x) : l.take (i + 1) = l.take i ++ [x] := by rw [List.take_succ, h] <;> rfl
theorem hullK_snd (ks : Pts) : (hullK ks).map (·.2) = Hull.hull (ks.map (·.2)) := by
  unfold hullK Hull.hull
  rw [List.map_append, ← half_snd, ← List.map_reverse (l := ks), ← half_snd]
  simp [List.map_reverse, List.map_dropLast]
theorem hullK_sub (ks : Pts) : ∀ p ∈ hullK ks, p ∈ ks := fun p h => by
  rcases List.mem_append.mp h with z | z
  · exact half_sub ks p (List.mem_reverse.mp (List.dropLast_subset _ z))
  · exact List.mem_reverse.mp (half_sub ks.reverse p (List.mem_reverse.mp (List.dropLast_subset _ z)))
/-- the lists as they stand in the heap -/
theorem refs_last {ks : Pts} {p : Addr × Hull.P} : (refs (p :: ks).reverse)[(refs (p :: ks).reverse).length - 1]? = some (.ref p.1) := by
  have e : refs (p :: ks).reverse = refs ks.reverse ++ [.ref p.1] := by simp [refs]
  rw [e, List.length_append, List.length_singleton, Nat.add_sub_cancel, List.getElem?_append_right (Nat.le_refl _), Nat.sub_self]
  rfl
theorem refs_drop {ks : Pts} {p : Addr × Hull.P} : (refs (p :: ks).reverse).dropLast = refs ks.reverse := by
  have e : refs (p :: ks).reverse = refs ks.reverse ++ [.ref p.1] := by simp [refs]
  rw [e, List.dropLast_concat]
theorem at_1 {ks : Pts} {p : Addr × Hull.P} : atI (refs (p :: ks).reverse) (-1) = some (.ref p.1) := by
  have e : refs (p :: ks).reverse = refs ks.reverse ++ [.ref p.1] := by simp [refs]
  rw [e]
  exact atI_last _ _
theorem atI_2 (xs : List V) (u v : V) : atI (xs ++ [u] ++ [v]) (-2) = some u := by
  have l : (xs ++ [u] ++ [v]).length = xs.length + 2 := by simp
  have e : ixN (xs ++ [u] ++ [v]).length (-2) = some xs.length := by
    rw [l]
    unfold ixN
    have c : ((-2 : Int) + ((xs.length + 2 : Nat) : Int)).toNat = xs.length := by omega
    simp
    omega
  unfold atI
  rw [e]
  show (xs ++ [u] ++ [v])[xs.length]? = some u
  rw [List.append_assoc, List.getElem?_append_right (Nat.le_refl _), Nat.sub_self]
  rfl
theorem at_2 {ks : Pts} {p q : Addr × Hull.P} : atI (refs (p :: q :: ks).reverse) (-2) = some (.ref q.1) := by
  have e : refs (p :: q :: ks).reverse = (refs ks.reverse ++ [.ref q.1]) ++ [.ref p.1] := by simp [refs]
  rw [e]
  exact atI_2 _ _ _
/-- a turn -/
def spTurn (K : PySem.W.Frag) : Sp := fun vs H Q _ => ∃ (a b c : Addr) (p q r : Hull.P), vs = [.ref a, .ref b, .ref c] ∧ SqT K H a [.int p.1, .int p.2] ∧ SqT K H b [.int q.1, .int q.2] ∧ SqT K H c [.int r.1, .int r.2] ∧ Sm p ∧ Sm q ∧ Sm r ∧ Q (.int (Hull.turn p q r)) H
/-- the chain over points -/
def spHalf (K : PySem.W.Frag) : Sp := fun vs H Q _ => ∃ (a : Addr) (ks : Pts), vs = [.ref a] ∧ SqL K H a (refs ks) ∧ At K H ks ∧ (∀ p ∈ ks, Sm p.2) ∧ ks.length ≤ 1000 ∧ ∀ H' w, Same H H' → H w = none → H' w = some (.lst (refs (halfK ks).reverse)) → Q (.ref w) H'
theorem dif_small {x y : Int} (h1 : x.natAbs < 2 ^ 210) (h2 : y.natAbs < 2 ^ 210) : (x - y).natAbs < 2 ^ 212 := by
  have e : (2 : Nat) ^ 212 = 4 * 2 ^ 210 := by decide
  omega
end Fen
set_option Elab.async false
set_option linter.all false
set_option maxRecDepth 100000
set_option maxHeartbeats 1000000
set_option exponentiation.threshold 20000
namespace Fen
open PySem PySem.Spec PyProof.Rows L2
def enc (p : Addr × Hull.P) : Addr × List Int := (p.1, [p.2.1, p.2.2])
def dec (q : Addr × List Int) : Addr × Hull.P := (q.1, prOf q.2)
theorem dec_enc (p : Addr × Hull.P) : dec (enc p) = p := rfl
theorem refs_enc (ks : Pts) : (ks.map enc).map (fun p => V.ref p.1) = refs ks := by
  unfold refs
  rw [List.map_map]
  rfl
theorem asc_pts {ks : Pts} {L M : List (Addr × List Int)} (h1 : ∀ p ∈ L, p ∈ ks.map enc) (h2 : ∀ p ∈ ks.map enc, p.2 ∈ L.map (·.2)) (pm : M.Perm L) (nd : (M.map (·.2)).Nodup) (pw : M.Pairwise (fun q r => SrtO.lexB (prOf r.2) (prOf q.2) = false)) :
    M.map (fun q => V.ref q.1) = refs (M.map dec) ∧ (∀ p ∈ M.map dec, p ∈ ks) ∧ ((M.map dec).map (·.2)).Pairwise Hull.Lt ∧ ∀ x, x ∈ (M.map dec).map (·.2) ↔ x ∈ ks.map (·.2) := by
  have sub : ∀ q ∈ M, ∃ p ∈ ks, q = enc p := fun q hq => by
    obtain ⟨p, hp, e⟩ := List.mem_map.mp (h1 q (pm.mem_iff.mp hq))
    exact ⟨p, hp, e.symm⟩
  refine ⟨?_, fun p hp => ?_, ?_, fun x => ⟨fun hx => ?_, fun hx => ?_⟩⟩
  · unfold refs
    rw [List.map_map]
    rfl
  · obtain ⟨q, hq, rfl⟩ := List.mem_map.mp hp
    obtain ⟨p, hp2, rfl⟩ := sub q hq
    exact hp2
  · rw [List.map_map, List.pairwise_map]
    have both := List.Pairwise.and (List.pairwise_map.mp nd) pw
    refine List.Pairwise.imp_of_mem (fun {q r} hq hr z => ?_) both
    obtain ⟨p, _, rfl⟩ := sub q hq
    obtain ⟨p', _, rfl⟩ := sub r hr
    obtain ⟨ne, le⟩ := z
    have le2 := SrtO.lexB_no.mp le
    rcases Hull.Lt.total p.2 p'.2 with h | h | h
    · exact h
    · exact absurd (show [p.2.1, p.2.2] = [p'.2.1, p'.2.2] by rw [h]) ne
    · exact absurd h le2
  · obtain ⟨p, hp, rfl⟩ := List.mem_map.mp hx
    obtain ⟨q, hq, rfl⟩ := List.mem_map.mp hp
    obtain ⟨p, hp2, rfl⟩ := sub q hq
    exact List.mem_map.mpr ⟨p, hp2, rfl⟩
  · obtain ⟨p, hp, rfl⟩ := List.mem_map.mp hx
    obtain ⟨q, hq, e⟩ := List.mem_map.mp (h2 (enc p) (List.mem_map.mpr ⟨p, hp, rfl⟩))
    refine List.mem_map.mpr ⟨dec q, List.mem_map.mpr ⟨q, pm.mem_iff.mpr hq, rfl⟩, ?_⟩
    show prOf q.2 = p.2
    rw [e]
    rfl
/-- an ascending list is told by its members -/
theorem asc_uniq : ∀ {s t : List Hull.P}, s.Pairwise Hull.Lt → t.Pairwise Hull.Lt → (∀ x, x ∈ s ↔ x ∈ t) → s = t
  | [], [], _, _, _ => rfl
  | [], b :: t, _, _, h => absurd ((h b).mpr List.mem_cons_self) (by simp)
  | a :: s, [], _, _, h => absurd ((h a).mp List.mem_cons_self) (by simp)
  | a :: s, b :: t, hs, ht, h => by
    obtain ⟨s1, s2⟩ := List.pairwise_cons.mp hs
    obtain ⟨t1, t2⟩ := List.pairwise_cons.mp ht
    have e : a = b := by
      rcases List.mem_cons.mp ((h a).mp List.mem_cons_self) with z | z
      · exact z
      · rcases List.mem_cons.mp ((h b).mpr List.mem_cons_self) with y | y
        · exact y.symm
        · exact absurd ((t1 a z).trans (s1 b y)) Hull.Lt.irrefl
    subst e
    have h' : ∀ x, x ∈ s ↔ x ∈ t := fun x => by
      have hx := h x
      rw [List.mem_cons, List.mem_cons] at hx
      constructor
      · intro m
        rcases hx.mp (.inr m) with z | z
        · exact absurd (s1 x m) (fun l => l.ne z.symm)
        · exact z
      · intro m
        rcases hx.mpr (.inr m) with z | z
        · exact absurd (t1 x m) (fun l => l.ne z.symm)
        · exact z
    rw [asc_uniq s2 t2 h']
/-- the corners around an ascending list -/
def hul (s : List Hull.P) : List Hull.P := if s.length = 1 then s else Hull.hull s
theorem hull_two {a b : Hull.P} : Hull.hull [a, b] = [a, b] := by simp [Hull.hull, Hull.half, Hull.push, Hull.pop]
theorem hull_nil : Hull.hull [] = [] := rfl
theorem hul_few {s : List Hull.P} (h : s.length < 3) : hul s = s := by
  rcases s with _ | ⟨a, _ | ⟨b, _ | ⟨c, r⟩⟩⟩
  · rfl
  · rfl
  · exact hull_two
  · simp at h
    omega
/-- the promise of a def that tells the corners around points -/
def spHul (K : PySem.W.Frag) : Sp := fun vs H Q _ => ∃ (a : Addr) (ks : Pts), vs = [.ref a] ∧ SqL K H a (refs ks) ∧ At K H ks ∧ (∀ p ∈ ks, Sm p.2) ∧ ks.length < 64 ∧
  ∀ H' w (hs : Pts) (s : List Hull.P), Same H H' → H w = none → H' w = some (.lst (refs hs)) → (∀ p ∈ hs, p ∈ ks) → s.Pairwise Hull.Lt → (∀ x, x ∈ s ↔ x ∈ ks.map (·.2)) → hs.map (·.2) = hul s → Q (.ref w) H'
end Fen
set_option Elab.async false
set_option linter.all false
set_option maxRecDepth 100000
set_option maxHeartbeats 2000000
/-! repr of data: a fixed text of the data, while no repr is under way -/
namespace L2
open PySem PySem.Spec PyProof.Rows
def rReprD (K : PySem.W.Frag) : List V → Hp → VK → Prop := fun xs H Q => ∃ (a : Addr) (d : PyData), xs = [.ref a] ∧ Dp K H (.ref a) d ∧ d.showable = true ∧ d.hasDict = false ∧ d.shown.length ≤ sizeLine ∧ d.depth ≤ 20 ∧ Q (.str d.shown) H
theorem call_reprD {X : Cx} {k : Nat} (hgd : X.A.guards = some []) (hr : Room k X.A) : CallR X (.builtin "repr") (rReprD X.K) := by
  intro pins s σ H xs us Q I r h
  obtain ⟨a, d, rfl, hd, h1, h2, h3, h4, q⟩ := h
  obtain ⟨u, rfl, ru⟩ := vals1 r
  obtain rfl : u = Value.ref a := ru
  obtain ⟨as, rd⟩ := Dp.reads I d (.ref a) (.ref a) hd rfl
  have hu := hr.un
  exact PySem.repr_of_reads' rd h1 (fun z => by rw [h2] at z; cases z) hgd (by omega) (fun _ _ e => e) (fun h' u tk k => ⟨.str _, H, I.kept k, ⟨_, rfl⟩, q⟩) h3
end L2
set_option Elab.async false
set_option linter.all false
set_option maxRecDepth 100000
set_option maxHeartbeats 1000000
set_option exponentiation.threshold 20000
namespace Fen
open PySem PySem.Spec PyProof.Rows L2
/-! points and fences as data -/
def ptD (p : Hull.P) : PyData := .tuple [.int p.1, .int p.2]
def ptsD (ps : List Hull.P) : PyData := .list (ps.map ptD)
def fenD (b : Int) (ps : List Hull.P) : PyData := .tuple [.int b, ptsD ps, .list []]
theorem dp_pt {K : PySem.W.Frag} {H : Hp} {a : Addr} {p : Hull.P} (h : SqT K H a [.int p.1, .int p.2]) : Dp K H (.ref a) (ptD p) := .tup h (.cons (.int _) (.cons (.int _) .nil))
theorem dp_all {K : PySem.W.Frag} {H : Hp} : ∀ {ks : Pts}, At K H ks → DpAll K H (refs ks) ((ks.map (·.2)).map ptD)
  | [], _ => .nil
  | p :: ks, h => .cons (dp_pt (h p List.mem_cons_self)) (dp_all fun q hq => h q (List.mem_cons_of_mem _ hq))
theorem dp_pts {K : PySem.W.Frag} {H : Hp} {a : Addr} {ks : Pts} (hS : SqL K H a (refs ks)) (hT : At K H ks) : Dp K H (.ref a) (ptsD (ks.map (·.2))) := .lst hS (dp_all hT)
theorem pts_lay : ∀ ps : List Hull.P, PyData.canLayAll0 (ps.map ptD) = true ∧ PyData.depthAll (ps.map ptD) ≤ 1
  | [] => ⟨rfl, by decide⟩
  | p :: ps => by
    have h := pts_lay ps
    refine ⟨by simp [PyData.canLayAll0, PyData.canLay0, ptD, h.1], ?_⟩
    simp only [List.map_cons, PyData.depthAll, ptD, PyData.depth]
    have := h.2
    omega
theorem shaped_pt (p : Hull.P) : SeqAt.shaped (ptD p) = true := by
  unfold SeqAt.shaped
  simp [ptD, PyData.canLay0, PyData.canLayAll0, PyData.depth, PyData.depthAll]
theorem shaped_pts (ps : List Hull.P) : SeqAt.shaped (ptsD ps) = true := by
  unfold SeqAt.shaped ptsD
  simp only [PyData.canLay0, PyData.depth, (pts_lay ps).1, Bool.true_and]
  exact decide_eq_true (by have := (pts_lay ps).2; omega)
theorem shaped_fen (b : Int) (ps : List Hull.P) : SeqAt.shaped (fenD b ps) = true := by
  have h := pts_lay ps
  unfold SeqAt.shaped fenD ptsD
  simp only [PyData.canLay0, PyData.canLayAll0, PyData.depth, PyData.depthAll, h.1, Bool.true_and, Bool.and_true]
  exact decide_eq_true (by have := h.2; omega)
theorem eqv_self {d : PyData} (h : SeqAt.shaped d = true) : PyData.eqv d d = true := SeqAt.eqv_refl _ (SeqAt.canLay_of_shaped h)
theorem eqv_nil (ps : List Hull.P) : PyData.eqv (ptsD ps) (.list []) = ps.isEmpty := by
  cases ps with
  | nil => exact eqv_self (shaped_pts [])
  | cons p ps => simp [ptsD, PyData.eqv, PyData.eqvAll]
theorem any_mem {p : Hull.P} {ps : List Hull.P} (h : p ∈ ps) : ((ps.map ptD).any fun z => PyData.eqv z (ptD p)) = true := List.any_eq_true.mpr ⟨ptD p, List.mem_map.mpr ⟨p, h, rfl⟩, eqv_self (shaped_pt p)⟩
/-- their texts -/
theorem int_show {i : Int} (h : i.natAbs < 10 ^ 31) : (PyData.int i).showable = true ∧ (PyData.int i).shown.length ≤ 40 := by
  have lg : i.natAbs.log2 < 1920 := Nat.lt_of_lt_of_le (PySem.Flt.log2_lt_of (by decide) (Nat.lt_trans h (by decide : 10 ^ 31 < 2 ^ 110))) (by decide)
  refine ⟨by simp [PyData.showable, lg], ?_⟩
  show (Str.ofString (toString i)).length ≤ 40
  rw [PySem.ofString_length]
  exact Nat.le_trans (PySem.int_text_length_le10 (k := 31) (by decide) h) (by decide)
def Sh (p : Hull.P) : Prop := p.1.natAbs < 10 ^ 31 ∧ p.2.natAbs < 10 ^ 31
theorem pt_show {p : Hull.P} (h : Sh p) : (ptD p).showable = true ∧ (ptD p).hasDict = false ∧ (ptD p).shown.length ≤ 87 := by
  obtain ⟨a1, a2⟩ := int_show h.1
  obtain ⟨b1, b2⟩ := int_show h.2
  refine ⟨by
    simp [PyData.showable] at a1 b1
    simp [ptD, PyData.showable, PyData.showableAll, a1, b1], rfl, ?_⟩
  have z := tupleText_len_le (PyData.shownAll [.int p.1, .int p.2])
  simp only [PyData.shownAll, List.map_cons, List.map_nil, List.sum_cons, List.sum_nil, List.length_cons, List.length_nil] at z
  show (tupleText (PyData.shownAll [.int p.1, .int p.2])).length ≤ 87
  simp only [PyData.shownAll]
  omega
theorem pts_show : ∀ {ps : List Hull.P}, (∀ p ∈ ps, Sh p) → PyData.showableAll (ps.map ptD) = true ∧ PyData.hasDictAll (ps.map ptD) = false ∧ ((PyData.shownAll (ps.map ptD)).map (·.length)).sum + 2 * (PyData.shownAll (ps.map ptD)).length ≤ 89 * ps.length
  | [], _ => ⟨rfl, rfl, by simp [PyData.shownAll]⟩
  | p :: ps, h => by
    obtain ⟨a1, a2, a3⟩ := pt_show (h p List.mem_cons_self)
    obtain ⟨b1, b2, b3⟩ := pts_show fun q hq => h q (List.mem_cons_of_mem _ hq)
    refine ⟨by simp [PyData.showableAll, a1, b1], by simp [PyData.hasDictAll, a2, b2], ?_⟩
    simp only [List.map_cons, PyData.shownAll, List.sum_cons, List.length_cons]
    omega
theorem fen_show {b : Int} {ps : List Hull.P} (hb : b.natAbs < 10 ^ 31) (h : ∀ p ∈ ps, Sh p) (l : ps.length ≤ 20) : (fenD b ps).showable = true ∧ (fenD b ps).hasDict = false ∧ (fenD b ps).shown.length ≤ sizeLine ∧ (fenD b ps).depth ≤ 20 := by
  obtain ⟨a1, a2⟩ := int_show hb
  obtain ⟨b1, b2, b3⟩ := pts_show h
  refine ⟨by
    simp [PyData.showable] at a1
    simp [fenD, ptsD, PyData.showable, PyData.showableAll, a1, b1], by simp [fenD, ptsD, PyData.hasDict, PyData.hasDictAll, b2], ?_, ?_⟩
  · have z1 := listText_len_le (PyData.shownAll (ps.map ptD))
    have z2 := tupleText_len_le (PyData.shownAll [.int b, ptsD ps, .list []])
    have z3 : (PyData.shown (.list [])).length ≤ 3 := by decide
    refine sz20 (Nat.le_trans z2 ?_)
    have z4 : (PyData.shown (ptsD ps)).length ≤ 89 * ps.length + 3 := Nat.le_trans z1 (by omega)
    simp only [PyData.shownAll, List.map_cons, List.map_nil, List.sum_cons, List.sum_nil, List.length_cons, List.length_nil]
    omega
  · have := (pts_lay ps).2
    simp only [fenD, ptsD, PyData.depth, PyData.depthAll]
    omega
end Fen
set_option Elab.async false
set_option linter.all false
set_option maxRecDepth 100000
set_option maxHeartbeats 1000000
set_option exponentiation.threshold 20000
namespace K3
open PySem PySem.Spec PyProof.Rows L2 Fen
def topS (i : Nat) : Stmt := PySem.Challenge.pw_growfences_k03_same_and_lowest.main.body.getD i (.Pass ⟨0, 0, 0, 0⟩)
abbrev sTurnP : Stmt := topS 5
theorem scTurnP : FnScope ["one", "two", "three"] ["one", "two", "three"] (defScope sTurnP) := ⟨rfl, rfl, rfl, by decide +kernel, rfl, by decide +kernel, by decide +kernel⟩
section
variable {P : Program} {w : World} {K : PySem.W.Frag} {mg : Str → Option Value} {base : Heap}
theorem ok_TurnP {f : Addr} {fd : FuncData} {k : Nat} (F : Fun K "turn" "turn" sTurnP f fd) : FnOk P w K mg base CX0 (k + 1) f fd ["one", "two", "three"] (spTurn K) := by
  refine F.ok scTurnP (fun vs H Q E h => ?_) (fun cdv A outer s H vs Q E hr h => ?_)
  · obtain ⟨a, b, c, p, q, r, rfl, _⟩ := h
    rfl
  · obtain ⟨a, b, c, p, q, r, rfl, ha, hb, hc, sp, sq, sr, k⟩ := h
    refine ⟨_, pss_one (ps_ret (pe_op op_sub (pe_op op_mulW (pe_op op_sub (pe_ix ix_tup (pv 1) pe_int (fun _ _ => rfl)) (pe_ix ix_tup (pv 0) pe_int (fun _ _ => rfl))) (pe_op op_sub (pe_ix ix_tup (pv 2) pe_int (fun _ _ => rfl)) (pe_ix ix_tup (pv 0) pe_int (fun _ _ => rfl)))) (pe_op op_mulW (pe_op op_sub (pe_ix ix_tup (pv 1) pe_int (fun _ _ => rfl)) (pe_ix ix_tup (pv 0) pe_int (fun _ _ => rfl))) (pe_op op_sub (pe_ix ix_tup (pv 2) pe_int (fun _ _ => rfl)) (pe_ix ix_tup (pv 0) pe_int (fun _ _ => rfl)))))), ?_⟩
    refine ⟨.ref b, rfl, b, _, 0, .int q.1, rfl, rfl, hb, rfl, .ref a, rfl, a, _, 0, .int p.1, rfl, rfl, ha, rfl, _, _, rfl, rfl, .ref c, rfl, c, _, 1, .int r.2, rfl, rfl, hc, rfl, .ref a, rfl, a, _, 1, .int p.2, rfl, rfl, ha, rfl, _, _, rfl, rfl, _, _, rfl, rfl, wide_mul (dif_small sq.1 sp.1) (dif_small sr.2 sp.2) (by decide) (by decide) (by decide), .ref b, rfl, b, _, 1, .int q.2, rfl, rfl, hb, rfl, .ref a, rfl, a, _, 1, .int p.2, rfl, rfl, ha, rfl, _, _, rfl, rfl, .ref c, rfl, c, _, 0, .int r.1, rfl, rfl, hc, rfl, .ref a, rfl, a, _, 0, .int p.1, rfl, rfl, ha, rfl, _, _, rfl, rfl, _, _, rfl, rfl, wide_mul (dif_small sq.2 sp.2) (dif_small sr.1 sp.1) (by decide) (by decide) (by decide), _, _, rfl, rfl, k⟩
end
abbrev sTurnL : Stmt := topS 37
theorem scTurnL : FnScope ["_law_one", "_law_two", "_law_three", "_law_right_here", "_law_up"] ["_law_one", "_law_two", "_law_three"] (defScope sTurnL) := ⟨rfl, rfl, rfl, by decide +kernel, rfl, by decide +kernel, by decide +kernel⟩
section
variable {P : Program} {w : World} {K : PySem.W.Frag} {mg : Str → Option Value} {base : Heap}
theorem ok_TurnL {f : Addr} {fd : FuncData} {k : Nat} (F : Fun K "_law_turn" "_law_turn" sTurnL f fd) : FnOk P w K mg base CX0 (k + 1) f fd ["_law_one", "_law_two", "_law_three"] (spTurn K) := by
  refine F.ok scTurnL (fun vs H Q E h => ?_) (fun cdv A outer s H vs Q E hr h => ?_)
  · obtain ⟨a, b, c, p, q, r, rfl, _⟩ := h
    rfl
  · obtain ⟨a, b, c, p, q, r, rfl, ha, hb, hc, sp, sq, sr, k⟩ := h
    refine ⟨_, pss_cons (ps_par (i := 3) (j := 4) rfl scTurnL.nd rfl rfl (by decide) rfl rfl (pa_cons (pe_op op_sub (pe_ix ix_tup (pv 1) pe_int (fun _ _ => rfl)) (pe_ix ix_tup (pv 0) pe_int (fun _ _ => rfl))) (pa_cons (pe_op op_sub (pe_ix ix_tup (pv 1) pe_int (fun _ _ => rfl)) (pe_ix ix_tup (pv 0) pe_int (fun _ _ => rfl))) pa_nil)) (by rfl)) (pss_one (ps_ret (pe_op op_sub (pe_op op_mulW (pv 3) (pe_op op_sub (pe_ix ix_tup (pv 2) pe_int (fun _ _ => rfl)) (pe_ix ix_tup (pv 0) pe_int (fun _ _ => rfl)))) (pe_op op_mulW (pv 4) (pe_op op_sub (pe_ix ix_tup (pv 2) pe_int (fun _ _ => rfl)) (pe_ix ix_tup (pv 0) pe_int (fun _ _ => rfl))))))), ?_⟩
    refine ⟨.ref b, rfl, b, _, 0, .int q.1, rfl, rfl, hb, rfl, .ref a, rfl, a, _, 0, .int p.1, rfl, rfl, ha, rfl, _, _, rfl, rfl, .ref b, rfl, b, _, 1, .int q.2, rfl, rfl, hb, rfl, .ref a, rfl, a, _, 1, .int p.2, rfl, rfl, ha, rfl, _, _, rfl, rfl, _, _, rfl, ?_⟩
    exact ⟨_, rfl, .ref c, rfl, c, _, 1, .int r.2, rfl, rfl, hc, rfl, .ref a, rfl, a, _, 1, .int p.2, rfl, rfl, ha, rfl, _, _, rfl, rfl, _, _, rfl, rfl, wide_mul (dif_small sq.1 sp.1) (dif_small sr.2 sp.2) (by decide) (by decide) (by decide), _, rfl, .ref c, rfl, c, _, 0, .int r.1, rfl, rfl, hc, rfl, .ref a, rfl, a, _, 0, .int p.1, rfl, rfl, ha, rfl, _, _, rfl, rfl, _, _, rfl, rfl, wide_mul (dif_small sq.2 sp.2) (dif_small sr.1 sp.1) (by decide) (by decide) (by decide), _, _, rfl, rfl, k⟩
end
abbrev sHalfL : Stmt := topS 38
theorem scHalfL : FnScope ["_law_points_here", "_law_found", "_law_point"] ["_law_points_here"] (defScope sHalfL) := ⟨rfl, rfl, rfl, by decide +kernel, rfl, by decide +kernel, by decide +kernel⟩
section
variable {P : Program} {w : World} {K : PySem.W.Frag} {mg : Str → Option Value} {base : Heap}
theorem ok_HalfL {f fT : Addr} {fd fdT : FuncData} {k : Nat} (F : Fun K "_law_half" "_law_half" sHalfL f fd) (FT : Fun K "_law_turn" "_law_turn" sTurnL fT fdT) (bT : Binds K fdT ["_law_one", "_law_two", "_law_three"] []) (gT : mg "_law_turn" = some (.ref fT)) (ml : mg "len" = none) :
    FnOk P w K mg base CX0 (k + 1 + 1) f fd ["_law_points_here"] (spHalf K) := by
  have OT : FnOk P w K mg base CX0 1 fT fdT ["_law_one", "_law_two", "_law_three"] (spTurn K) := ok_TurnL FT
  refine F.ok scHalfL (fun vs H Q E h => ?_) (fun cdv A outer s H vs Q E hr h => ?_)
  · obtain ⟨a, ks, rfl, _⟩ := h
    rfl
  · obtain ⟨a, ks, rfl, hS, hT, small, few, q⟩ := h
    have h1 : Room 1 (A.deeper (envOfC "_law_half" (defScope sHalfL) s.heap.objs.size f cdv)) := hr.mono (by omega)
    refine ⟨_, pss_cons (ps_set (i := 1) scHalfL.nd rfl (.inl rfl) (pe_lst pa_nil))
      (pss_cons (ps_for PassesOwn.never rfl (pi_list (pv 0)) (pg_name (i := 2) scHalfL.nd rfl (.inl rfl))
        (pss_cons (ps_while PassesOwn.never (PW.pt (pw_and (pt_cmpR op_gt (pe_callB call_len_seq (by rfl) ml PySem.boot_len (pa_cons (pv 1) pa_nil)) pe_int (nomark _))
            (pw_and1 (pt_cmpR op_le (pe_call OT h1 (by rfl) gT FT.kp bT .nil pass0 (pa_cons (pe_ix ix_list (pv 1) (pe_un un_neg pe_int) (fun _ _ => rfl)) (pa_cons (pe_ix ix_list (pv 1) (pe_un un_neg pe_int) (fun _ _ => rfl)) (pa_cons (pv 2) pa_nil)))) pe_int (nomark _)))))
            (pss_one (ps_expr (pe_bm0 PySem.F.plainAttrs_list PySem.F.slot_list_pop PySem.F.type_list_pop mt_pop (pv 1)))))
        (pss_one (ps_expr (pe_bm PySem.F.plainAttrs_list PySem.F.slot_list_append PySem.F.type_list_append mt_append (pv 1) (pa_cons (pv 2) pa_nil))))))
      (pss_one (ps_ret (pv 1)))), ?_⟩
    refine ⟨by show 0 ≤ sizeLine; decide, fun wa nw => ?_⟩
    have away : ∀ b o, H b = some o → b ≠ wa := fun b o e => ne_of_none e nw
    refine ⟨.ref a, rfl, a, rfl, ⟨_, (same_new nw).seq hS⟩, ?_⟩
    refine for_list (K := K) (a := a) (xs := refs ks) (fun i σ H3 => ∃ y2, σ = [some (.ref a), some (.ref wa), y2] ∧ SameX wa H H3 ∧ H3 wa = some (.lst (refs (halfK (ks.take i)).reverse))) ?_ ?_ ?_ ?_
    · exact ⟨none, rfl, (same_new nw).x, upd_same⟩
    · rintro i σ H3 _ ⟨y2, rfl, sx, _⟩
      exact (sx.same nw).seq hS
    · rintro i x σ H3 hx ⟨y2, rfl, sx, hw⟩
      obtain ⟨p, hp, rfl⟩ := refs_get hx
      have i1 : i < ks.length := (List.getElem?_eq_some_iff.mp hp).1
      have pm : p ∈ ks := List.mem_of_getElem? hp
      have stm : ∀ r ∈ halfK (ks.take i), r ∈ ks := fun r hr => List.mem_of_mem_take (half_sub _ r hr)
      have lst : (halfK (ks.take i)).length ≤ ks.length := Nat.le_trans (half_len _) (by rw [List.length_take]; omega)
      refine ⟨fun m σ' H' => ∃ st : Pts, st.length = m ∧ σ' = [some (.ref a), some (.ref wa), some (.ref p.1)] ∧ SameX wa H H' ∧ H' wa = some (.lst (refs st.reverse)) ∧ popK p.2 st = popK p.2 (halfK (ks.take i)) ∧ (∀ r ∈ st, r ∈ ks) ∧ st.length ≤ ks.length, ⟨_, _, rfl, rfl, sx, hw, rfl, stm, lst⟩, ?_⟩
      rintro m σ' H' ⟨st, em, rfl, sx2, hw2, ep, sub, ls⟩
      have at2 : At K H' ks := hT.same (sx2.same nw)
      have out : popK p.2 st = st → ∀ T : L2.St → Hp → Prop, (∀ H5, SameX wa H H5 → H5 wa = some (.lst (refs (halfK (ks.take (i + 1))).reverse)) → T [some (.ref a), some (.ref wa), some (.ref p.1)] H5) → T [some (.ref a), some (.ref wa), some (.ref p.1)] (upd H' wa (.lst (refs st.reverse ++ [.ref p.1]))) := fun e T t => by
        refine t _ (sx2.trans SameX.put) ?_
        rw [upd_same, take_succ_at hp, half_snoc]
        show some (HO.lst _) = some (.lst (refs (p :: popK p.2 (halfK (ks.take i))).reverse))
        rw [← ep, e]
        simp [refs]
      refine ⟨.ref wa, rfl, wa, _, rfl, .inl (SqL.of hw2), _, _, rfl, rfl, _, rfl, ite2 (fun c => ?_) (fun c => ?_)⟩
      · rw [refs_len, List.length_reverse] at c
        have c2 : 1 < (st.length : Int) := of_decide_eq_true c
        rcases st with _ | ⟨b, _ | ⟨d, rest⟩⟩
        · simp at c2
        · simp at c2
        · have mb : b ∈ ks := sub b List.mem_cons_self
          have md : d ∈ ks := sub d (List.mem_cons_of_mem _ List.mem_cons_self)
          refine ⟨.ref wa, rfl, _, rfl, wa, _, _, .ref d.1, rfl, rfl, SqL.of hw2, at_2, .ref wa, rfl, _, rfl, wa, _, _, .ref b.1, rfl, rfl, SqL.of hw2, at_1, .ref p.1, rfl, d.1, b.1, p.1, d.2, b.2, p.2, rfl, at2 d md, at2 b mb, at2 p pm, small d md, small b mb, small p pm, _, _, rfl, rfl, _, rfl, ite2 (fun c3 => ?_) (fun c3 => ?_)⟩
          · have c4 : Hull.turn d.2 b.2 p.2 ≤ 0 := of_decide_eq_true c3
            refine ⟨fun σ' H' => ∃ m', m' < m ∧ ∃ st : Pts, st.length = m' ∧ σ' = [some (.ref a), some (.ref wa), some (.ref p.1)] ∧ SameX wa H H' ∧ H' wa = some (.lst (refs st.reverse)) ∧ popK p.2 st = popK p.2 (halfK (ks.take i)) ∧ (∀ r ∈ st, r ∈ ks) ∧ st.length ≤ ks.length, fun σ' H' z => z, ?_⟩
            refine ⟨.ref wa, rfl, .inl ⟨rfl, _, SqL.of hw2⟩, wa, _, _, rfl, rfl, hw2, refs_last, (d :: rest).length, ?_, d :: rest, rfl, rfl, sx2.trans SameX.put, ?_, ?_, fun r hr => sub r (List.mem_cons_of_mem _ hr), ?_⟩
            · rw [← em]
              exact Nat.lt_succ_self _
            · rw [upd_same, refs_drop]
            · rw [← ep, popK_go c4]
            · exact Nat.le_trans (Nat.le_succ _) ls
          · have c4 : ¬ Hull.turn d.2 b.2 p.2 ≤ 0 := fun z => c3 (decide_eq_true z)
            refine ⟨.ref wa, rfl, .inl ⟨rfl, _, SqL.of hw2⟩, .ref p.1, rfl, wa, _, .ref p.1, rfl, rfl, hw2, by rw [refs_len, List.length_reverse]; exact sz20 (by omega), ?_⟩
            exact out (popK_stay c4) _ fun H5 s5 e5 => ⟨_, rfl, s5, e5⟩
      · refine iteF ?_
        refine ⟨.ref wa, rfl, .inl ⟨rfl, _, SqL.of hw2⟩, .ref p.1, rfl, wa, _, .ref p.1, rfl, rfl, hw2, by rw [refs_len, List.length_reverse]; exact sz20 (by omega), ?_⟩
        refine out ?_ _ fun H5 s5 e5 => ⟨_, rfl, s5, e5⟩
        rw [refs_len, List.length_reverse] at c
        rcases st with _ | ⟨b, _ | ⟨d, rest⟩⟩
        · rfl
        · rfl
        · exfalso
          refine c (decide_eq_true ?_)
          simp
          omega
    · rintro σ H3 ⟨y2, rfl, sx, hw⟩
      rw [refs_len, List.take_length] at hw
      exact ⟨_, rfl, q _ wa (sx.same nw) nw hw⟩
end
abbrev sHullL : Stmt := topS 39
theorem scHullL : FnScope ["_law_points_here", "_law_some"] ["_law_points_here"] (defScope sHullL) := ⟨rfl, rfl, rfl, by decide +kernel, rfl, by decide +kernel, by decide +kernel⟩
section
variable {P : Program} {w : World} {K : PySem.W.Frag} {mg : Str → Option Value} {base : Heap}
theorem ok_HullL {f fH : Addr} {fd fdH : FuncData} {k : Nat} (F : Fun K "_law_hull" "_law_hull" sHullL f fd) (OH : FnOk P w K mg base CX0 (k + 1) fH fdH ["_law_points_here"] (spHalf K)) (kH : PySem.W.keepIn K (.ref fH) = true) (bH : Binds K fdH ["_law_points_here"] []) (gH : mg "_law_half" = some (.ref fH)) (ml : mg "len" = none) (ms : mg "sorted" = none) (mt : mg "set" = none) :
    FnOk P w K mg base CX0 (k + 1 + 1) f fd ["_law_points_here"] (spHul K) := by
  refine F.ok scHullL (fun vs H Q E h => ?_) (fun cdv A outer s H vs Q E hr h => ?_)
  · obtain ⟨a, ks, rfl, _⟩ := h
    rfl
  · obtain ⟨a, ks, rfl, hS, hT, small, few, q⟩ := h
    refine ⟨_, pss_cons (ps_set (i := 1) scHullL.nd rfl (.inl rfl) (pe_callB (cr_sortedSP rfl) (by rfl) ms (by decide +kernel) (pa_cons (pe_callTy (cr_setOfT rfl (hu_of64 hr)) (by rfl) mt (by decide +kernel) (pa_cons (pv 0) pa_nil)) pa_nil)))
      (pss_cons (ps_if (pt_cmpR op_lt (pe_callB call_len_seq (by rfl) ml PySem.boot_len (pa_cons (pv 1) pa_nil)) pe_int (nomark _)) (pss_one (ps_ret (pv 1))) pss_nil)
      (pss_one (ps_ret (pe_op op_cat (pe_slice sl_list (pe_call OH hr (by rfl) gH kH bH .nil pass0 (pa_cons (pv 1) pa_nil)) po_none (po_some (pe_un un_neg pe_int))) (pe_slice sl_list (pe_call OH hr (by rfl) gH kH bH .nil pass0 (pa_cons (pe_revL (pv 1)) pa_nil)) po_none (po_some (pe_un un_neg pe_int))))))), ?_⟩
    refine ⟨.ref a, rfl, a, ks.map enc, rfl, by rw [refs_enc]; exact hS, fun p hp => ?_, by rw [List.length_map]; exact few, fun sa L ns h1 h2 => ?_⟩
    · obtain ⟨r, hr2, rfl⟩ := List.mem_map.mp hp
      exact hT r hr2
    refine ⟨sa, L, rfl, upd_same, fun p hp => ?_, fun p hp => ?_, fun M wa pm nd l64 pw nw => ?_⟩
    · obtain ⟨r, hr2, rfl⟩ := List.mem_map.mp (h1 p hp)
      exact (same_new ns).seqT (hT r hr2)
    · obtain ⟨r, hr2, rfl⟩ := List.mem_map.mp (h1 p hp)
      exact ⟨_, _, rfl⟩
    obtain ⟨e1, sub, asc, mem⟩ := asc_pts h1 h2 pm nd pw
    rw [e1]
    generalize M.map dec = hs at e1 sub asc mem ⊢
    have len : hs.length = M.length := by
      have := congrArg List.length e1
      rw [List.length_map, refs_len] at this
      exact this.symm
    have s1 : Same H (upd (upd H sa (SetTO _ _ sa L)) wa (.lst (refs hs))) := (same_new ns).trans (same_new nw)
    generalize hH1 : upd (upd H sa (SetTO _ _ sa L)) wa (.lst (refs hs)) = H1 at s1 ⊢
    have hw : H1 wa = some (.lst (refs hs)) := by
      rw [← hH1]
      exact upd_same
    have nw1 : H wa = none := (same_new ns).free nw
    refine ⟨.ref wa, rfl, wa, _, rfl, .inl (SqL.of hw), _, _, rfl, rfl, _, rfl, ite2 (fun c => ?_) (fun c => ?_)⟩
    · refine ⟨_, rfl, q _ wa hs (hs.map (·.2)) s1 nw1 hw sub asc mem ?_⟩
      rw [refs_len] at c
      exact (show hul (hs.map (·.2)) = hs.map (·.2) from hul_few (by rw [List.length_map]; have := of_decide_eq_true c; omega)).symm
    · rw [refs_len] at c
      refine ⟨.ref wa, rfl, wa, hs, rfl, SqL.of hw, (hT.sub sub).same s1, fun p hp => small p (sub p hp), by omega, fun H2 x s2 nx hx => ?_⟩
      refine ⟨1, rfl, -1, rfl, x, _, rfl, SqL.of hx, fun y ny => ?_⟩
      rw [cut_last]
      refine ⟨.ref wa, rfl, wa, refs hs, rfl, SqL.of (((s2.trans (same_new ny))) _ _ hw), fun z nz => ?_⟩
      have s3 := (s2.trans (same_new ny)).trans (same_new (o := .lst (refs hs).reverse) nz)
      refine ⟨z, hs.reverse, rfl, SqL.of (by rw [upd_same]; simp [refs]), ((hT.sub sub).same (s1.trans s3)).sub (fun p hp => List.mem_reverse.mp hp), fun p hp => small p (sub p (List.mem_reverse.mp hp)), by rw [List.length_reverse]; omega, fun H4 u s4 nu hu => ?_⟩
      refine ⟨1, rfl, -1, rfl, u, _, rfl, SqL.of hu, fun v nv => ?_⟩
      rw [cut_last]
      have hy : (upd H4 v (.lst (refs (halfK hs.reverse).reverse).dropLast)) y = some (.lst (refs (halfK hs).reverse).dropLast) := (((same_new nz).trans s4).trans (same_new nv)) _ _ upd_same
      have b1 := half_len hs
      have b2 := half_len hs.reverse
      rw [List.length_reverse] at b2
      refine ⟨y, v, _, _, rfl, rfl, hy, upd_same, ?_, fun t nt => ?_⟩
      · rw [List.length_dropLast, List.length_dropLast, refs_len, refs_len, List.length_reverse, List.length_reverse]
        exact sz20 (by omega)
      · have e5 : (refs (halfK hs).reverse).dropLast ++ (refs (halfK hs.reverse).reverse).dropLast = refs (hullK hs) := by
          unfold hullK refs
          rw [List.map_append, List.map_dropLast, List.map_dropLast]
        rw [e5]
        refine q _ t (hullK hs) (hs.map (·.2)) (s1.trans (s3.trans (s4.trans ((same_new nv).trans (same_new nt))))) ((s1.trans (s3.trans (s4.trans (same_new nv)))).free nt) upd_same (fun p hp => sub p (hullK_sub hs p hp)) asc mem ?_
        rw [hullK_snd]
        unfold hul
        rw [if_neg (by rw [List.length_map]; have c2 : ¬ ((hs.length : Int) < 3) := fun z => c (decide_eq_true z); omega)]
end
end K3
set_option Elab.async false
set_option linter.all false
set_option maxRecDepth 100000
set_option maxHeartbeats 1000000
set_option exponentiation.threshold 20000
namespace K3
open PySem PySem.Spec PyProof.Rows L2 Fen
abbrev sInt : Stmt := topS 13
abbrev sBet : Stmt := topS 14
abbrev sIsP : Stmt := topS 15
abbrev sIsC : Stmt := topS 16
abbrev sIsB : Stmt := topS 17
abbrev sChB : Stmt := topS 21
theorem scInt : FnScope ["value"] ["value"] (defScope sInt) := ⟨rfl, rfl, rfl, by decide +kernel, rfl, by decide +kernel, by decide +kernel⟩
theorem scBet : FnScope ["value", "least", "greatest"] ["value", "least", "greatest"] (defScope sBet) := ⟨rfl, rfl, rfl, by decide +kernel, rfl, by decide +kernel, by decide +kernel⟩
theorem scIsP : FnScope ["value"] ["value"] (defScope sIsP) := ⟨rfl, rfl, rfl, by decide +kernel, rfl, by decide +kernel, by decide +kernel⟩
theorem scIsC : FnScope ["value"] ["value"] (defScope sIsC) := ⟨rfl, rfl, rfl, by decide +kernel, rfl, by decide +kernel, by decide +kernel⟩
theorem scIsB : FnScope ["value"] ["value"] (defScope sIsB) := ⟨rfl, rfl, rfl, by decide +kernel, rfl, by decide +kernel, by decide +kernel⟩
theorem scChB : FnScope ["value"] ["value"] (defScope sChB) := ⟨rfl, rfl, rfl, by decide +kernel, rfl, by decide +kernel, by decide +kernel⟩
/-- within the range of corners -/
def Co (p : Hull.P) : Prop := -(10 : Int) ^ 30 ≤ p.1 ∧ p.1 ≤ 10 ^ 30 ∧ -(10 : Int) ^ 30 ≤ p.2 ∧ p.2 ≤ 10 ^ 30
theorem Co.sm {p : Hull.P} (h : Co p) : Sm p := by
  obtain ⟨a, b, c, d⟩ := h
  have e : (10 : Int) ^ 30 < 2 ^ 210 := by decide
  have e2 : ((2 : Int) ^ 210) = ((2 ^ 210 : Nat) : Int) := by decide
  unfold Sm
  generalize hL : (10 : Int) ^ 30 = L at *
  rw [e2] at e
  generalize (2 : Nat) ^ 210 = M at *
  omega
section
variable {P : Program} {w : World} {K : PySem.W.Frag} {mg : Str → Option Value} {base : Heap}
/-- what the program's text says of names -/
structure Nms (mg : Str → Option Value) : Prop where
  mii : mg "isinstance" = none
  mint : mg "int" = none
  mbool : mg "bool" = none
  mtup : mg "tuple" = none
  mlst : mg "list" = none
  mlen : mg "len" = none
  menum : mg "enumerate" = none
  lim : ∃ t, mg "LIMIT" = some (.int (10 ^ 30) t)
  gb : ∃ t, mg "GREATEST_BOTTOM" = some (.int 30 t)
  mc : ∃ t, mg "MOST_CORNERS" = some (.int 10 t)
def spInt : Sp := fun vs H Q _ => ∃ i : Int, vs = [.int i] ∧ Q (.bl true) H
theorem kit_ii {K : PySem.W.Frag} : PySem.W.kitOne K (.type "int") (.type "int") = some true := kit_ty (by decide +kernel)
theorem kit_ib {K : PySem.W.Frag} : PySem.W.kitOne K (.type "int") (.type "bool") = some false := kit_ty (by decide +kernel)
theorem kit_tt {K : PySem.W.Frag} : PySem.W.kitOne K (.type "tuple") (.type "tuple") = some true := kit_ty (by decide +kernel)
theorem kit_ll {K : PySem.W.Frag} : PySem.W.kitOne K (.type "list") (.type "list") = some true := kit_ty (by decide +kernel)
theorem ok_int {f : Addr} {fd : FuncData} {k : Nat} (F : Fun K "is_integer" "is_integer" sInt f fd) (T : Nms mg) : FnOk P w K mg base CX0 (k + 1) f fd ["value"] spInt := by
  refine F.ok scInt (fun vs H Q E h => ?_) (fun cdv A outer s H vs Q E hr h => ?_)
  · obtain ⟨i, rfl, _⟩ := h
    rfl
  · obtain ⟨i, rfl, q⟩ := h
    refine ⟨_, pss_one (ps_ret (pe_and (pe_callB call_isi (by rfl) T.mii (by decide +kernel) (pa_cons (pv 0) (pa_cons (pe_bltn (v := .ty "int") (by rfl) T.mint (by decide +kernel) rfl) pa_nil)))
      (pe_and1 (pe_not (pe_callB call_isi (by rfl) T.mii (by decide +kernel) (pa_cons (pv 0) (pa_cons (pe_bltn (v := .ty "bool") (by rfl) T.mbool (by decide +kernel) rfl) pa_nil))))))), ?_⟩
    refine ⟨_, rfl, .int i, .ty "int", .type "int", .type "int", true, rfl, .ty _, .base (.int i), kit_ii, true, rfl, ?_⟩
    rw [if_pos rfl]
    exact ⟨_, rfl, .int i, .ty "bool", .type "int", .type "bool", false, rfl, .ty _, .base (.int i), kit_ib, false, rfl, q⟩
def spBet : Sp := fun vs H Q _ => ∃ i lo hi : Int, vs = [.int i, .int lo, .int hi] ∧ lo ≤ i ∧ i ≤ hi ∧ Q (.bl true) H
theorem ok_bet {f fI : Addr} {fd fdI : FuncData} {k : Nat} (F : Fun K "is_between" "is_between" sBet f fd) (FI : Fun K "is_integer" "is_integer" sInt fI fdI) (bI : Binds K fdI ["value"] []) (gI : mg "is_integer" = some (.ref fI)) (T : Nms mg) : FnOk P w K mg base CX0 (k + 1 + 1) f fd ["value", "least", "greatest"] spBet := by
  have OI : FnOk P w K mg base CX0 1 fI fdI ["value"] spInt := ok_int FI T
  refine F.ok scBet (fun vs H Q E h => ?_) (fun cdv A outer s H vs Q E hr h => ?_)
  · obtain ⟨i, lo, hi, rfl, _⟩ := h
    rfl
  · obtain ⟨i, lo, hi, rfl, h1, h2, q⟩ := h
    refine ⟨_, pss_one (ps_ret (pe_and (pe_call OI (hr.mono (by omega)) (by rfl) gI FI.kp bI .nil pass0 (pa_cons (pv 0) pa_nil)) (pe_and1 (pe_chain op_le op_le (pv 1) (pv 0) (pv 2))))), ?_⟩
    refine ⟨_, rfl, i, rfl, true, rfl, ?_⟩
    rw [if_pos rfl]
    refine ⟨_, rfl, _, rfl, _, _, rfl, rfl, _, rfl, ?_⟩
    rw [if_pos (decide_eq_true h1)]
    refine ⟨_, rfl, _, _, rfl, rfl, ?_⟩
    exact (show Q (.bl (decide (i ≤ hi))) H by rw [decide_eq_true h2]; exact q)
def spIsP (K : PySem.W.Frag) : Sp := fun vs H Q _ => ∃ (a : Addr) (i j : Int), vs = [.ref a] ∧ SqT K H a [.int i, .int j] ∧ Q (.bl true) H
theorem ok_isP {f fI : Addr} {fd fdI : FuncData} {k : Nat} (F : Fun K "is_point" "is_point" sIsP f fd) (FI : Fun K "is_integer" "is_integer" sInt fI fdI) (bI : Binds K fdI ["value"] []) (gI : mg "is_integer" = some (.ref fI)) (T : Nms mg) : FnOk P w K mg base CX0 (k + 1 + 1) f fd ["value"] (spIsP K) := by
  have OI : FnOk P w K mg base CX0 1 fI fdI ["value"] spInt := ok_int FI T
  refine F.ok scIsP (fun vs H Q E h => ?_) (fun cdv A outer s H vs Q E hr h => ?_)
  · obtain ⟨a, i, j, rfl, _⟩ := h
    rfl
  · obtain ⟨a, i, j, rfl, hT, q⟩ := h
    have h1 : Room 1 (A.deeper (envOfC "is_point" (defScope sIsP) s.heap.objs.size f cdv)) := hr.mono (by omega)
    refine ⟨_, pss_one (ps_ret (pe_and (pe_callB call_isi (by rfl) T.mii (by decide +kernel) (pa_cons (pv 0) (pa_cons (pe_bltn (v := .ty "tuple") (by rfl) T.mtup (by decide +kernel) rfl) pa_nil)))
      (pe_and (pe_cmpR op_eq (pe_callB call_len_seq (by rfl) T.mlen PySem.boot_len (pa_cons (pv 0) pa_nil)) pe_int (nomark _))
      (pe_and (pe_call OI h1 (by rfl) gI FI.kp bI .nil pass0 (pa_cons (pe_ix ix_tup (pv 0) pe_int (fun _ _ => rfl)) pa_nil))
      (pe_and1 (pe_call OI h1 (by rfl) gI FI.kp bI .nil pass0 (pa_cons (pe_ix ix_tup (pv 0) pe_int (fun _ _ => rfl)) pa_nil))))))), ?_⟩
    refine ⟨_, rfl, .ref a, .ty "tuple", .type "tuple", .type "tuple", true, rfl, .ty _, ty_tup hT, kit_tt, true, rfl, ?_⟩
    rw [if_pos rfl]
    refine ⟨.ref a, rfl, a, _, rfl, .inr hT, rfl, _, rfl, ?_⟩
    refine iteT ?_
    refine ⟨.ref a, rfl, a, _, 0, .int i, rfl, rfl, hT, rfl, i, rfl, true, rfl, ?_⟩
    rw [if_pos rfl]
    exact ⟨.ref a, rfl, a, _, 1, .int j, rfl, rfl, hT, rfl, j, rfl, q⟩
def spIsC (K : PySem.W.Frag) : Sp := fun vs H Q _ => ∃ (a : Addr) (p : Hull.P), vs = [.ref a] ∧ SqT K H a [.int p.1, .int p.2] ∧ Co p ∧ Q (.bl true) H
theorem ok_isC {f fI : Addr} {fd fdI : FuncData} {k : Nat} (F : Fun K "is_corner" "is_corner" sIsC f fd) (OI : FnOk P w K mg base CX0 (k + 1) fI fdI ["value"] (spIsP K)) (kI : PySem.W.keepIn K (.ref fI) = true) (bI : Binds K fdI ["value"] []) (gI : mg "is_point" = some (.ref fI)) (T : Nms mg) : FnOk P w K mg base CX0 (k + 1 + 1) f fd ["value"] (spIsC K) := by
  obtain ⟨t, lim⟩ := T.lim
  refine F.ok scIsC (fun vs H Q E h => ?_) (fun cdv A outer s H vs Q E hr h => ?_)
  · obtain ⟨a, p, rfl, _⟩ := h
    rfl
  · obtain ⟨a, p, rfl, hT, ⟨c1, c2, c3, c4⟩, q⟩ := h
    refine ⟨_, pss_one (ps_ret (pe_and (pe_call OI hr (by rfl) gI kI bI .nil pass0 (pa_cons (pv 0) pa_nil))
      (pe_and (pe_chain op_le op_le (pe_un un_neg (pe_glob (v := .int (10 ^ 30)) (by rfl) lim ⟨_, rfl⟩)) (pe_ix ix_tup (pv 0) pe_int (fun _ _ => rfl)) (pe_glob (v := .int (10 ^ 30)) (by rfl) lim ⟨_, rfl⟩))
      (pe_and1 (pe_chain op_le op_le (pe_un un_neg (pe_glob (v := .int (10 ^ 30)) (by rfl) lim ⟨_, rfl⟩)) (pe_ix ix_tup (pv 0) pe_int (fun _ _ => rfl)) (pe_glob (v := .int (10 ^ 30)) (by rfl) lim ⟨_, rfl⟩)))))), ?_⟩
    refine ⟨_, rfl, a, p.1, p.2, rfl, hT, true, rfl, ?_⟩
    rw [if_pos rfl]
    refine ⟨_, rfl, .ref a, rfl, a, _, 0, .int p.1, rfl, rfl, hT, rfl, _, _, rfl, rfl, _, rfl, ?_⟩
    rw [if_pos (decide_eq_true c1)]
    refine ⟨_, _, rfl, rfl, _, rfl, ?_⟩
    rw [if_pos (decide_eq_true c2)]
    refine ⟨_, rfl, .ref a, rfl, a, _, 1, .int p.2, rfl, rfl, hT, rfl, _, _, rfl, rfl, _, rfl, ?_⟩
    rw [if_pos (decide_eq_true c3)]
    exact ⟨_, _, rfl, rfl, (show Q (.bl (decide (p.2 ≤ 10 ^ 30))) H by rw [decide_eq_true c4]; exact q)⟩
def spIsB : Sp := fun vs H Q _ => ∃ i : Int, vs = [.int i] ∧ 1 ≤ i ∧ i ≤ 30 ∧ Q (.bl true) H
theorem ok_isB {f fI : Addr} {fd fdI : FuncData} {k : Nat} (F : Fun K "is_bottom" "is_bottom" sIsB f fd) (OI : FnOk P w K mg base CX0 (k + 1) fI fdI ["value", "least", "greatest"] spBet) (kI : PySem.W.keepIn K (.ref fI) = true) (bI : Binds K fdI ["value", "least", "greatest"] []) (gI : mg "is_between" = some (.ref fI)) (T : Nms mg) : FnOk P w K mg base CX0 (k + 1 + 1) f fd ["value"] spIsB := by
  obtain ⟨t, gb⟩ := T.gb
  refine F.ok scIsB (fun vs H Q E h => ?_) (fun cdv A outer s H vs Q E hr h => ?_)
  · obtain ⟨i, rfl, _⟩ := h
    rfl
  · obtain ⟨i, rfl, h1, h2, q⟩ := h
    refine ⟨_, pss_one (ps_ret (pe_call OI hr (by rfl) gI kI bI .nil pass0 (pa_cons (pv 0) (pa_cons pe_int (pa_cons (pe_glob (v := .int 30) (by rfl) gb ⟨_, rfl⟩) pa_nil))))), ?_⟩
    exact ⟨_, rfl, i, 1, 30, rfl, h1, h2, q⟩
def spChB : Sp := fun vs H Q _ => ∃ i : Int, vs = [.int i] ∧ 1 ≤ i ∧ i ≤ 30 ∧ Q .non H
theorem ok_chB {f fI : Addr} {fd fdI : FuncData} {k : Nat} (F : Fun K "check_bottom" "check_bottom" sChB f fd) (OI : FnOk P w K mg base CX0 (k + 1) fI fdI ["value"] spIsB) (kI : PySem.W.keepIn K (.ref fI) = true) (bI : Binds K fdI ["value"] []) (gI : mg "is_bottom" = some (.ref fI)) : FnOk P w K mg base CX0 (k + 1 + 1) f fd ["value"] spChB := by
  refine F.ok scChB (fun vs H Q E h => ?_) (fun cdv A outer s H vs Q E hr h => ?_)
  · obtain ⟨i, rfl, _⟩ := h
    rfl
  · obtain ⟨i, rfl, h1, h2, q⟩ := h
    refine ⟨_, pss_one (ps_if (pt_not (pt_val (pe_call OI hr (by rfl) gI kI bI .nil pass0 (pa_cons (pv 0) pa_nil)))) (pss_one ps_no) pss_nil), ?_⟩
    refine ⟨_, rfl, i, rfl, h1, h2, true, rfl, ?_⟩
    exact iteF q
end
end K3
set_option Elab.async false
set_option linter.all false
set_option maxRecDepth 100000
set_option maxHeartbeats 1000000
set_option exponentiation.threshold 20000
namespace K3
open PySem PySem.Spec PyProof.Rows L2 Fen
abbrev sBag : Stmt := topS 35
abbrev sPick : Stmt := topS 36
theorem scBag : FnScope ["_law_cell"] ["_law_cell"] (defScope sBag) := ⟨rfl, rfl, rfl, by decide +kernel, rfl, by decide +kernel, by decide +kernel⟩
theorem scPick : FnScope ["_law_bag_here", "_law_many", "_law_drawn", "_law_mixed"] ["_law_bag_here", "_law_many"] (defScope sPick) := ⟨rfl, rfl, rfl, by decide +kernel, rfl, by decide +kernel, by decide +kernel⟩
/-- a bag at p, at most n times mixed -/
def BagAt (H : Hp) (p : Addr) (n : Nat) : Prop := ∃ d m c : Int, H p = some (.lst [.int d, .int m, .int c]) ∧ 0 ≤ m ∧ m < 2 ^ 140 ∧ 0 ≤ c ∧ c ≤ n
theorem BagAt.same {H H' : Hp} {p : Addr} {n : Nat} (b : BagAt H p n) (s : Same H H') : BagAt H' p n := by
  obtain ⟨d, m, c, h, r⟩ := b
  exact ⟨d, m, c, s _ _ h, r⟩
theorem BagAt.more {H : Hp} {p : Addr} {n n' : Nat} (b : BagAt H p n) (h : n ≤ n') : BagAt H p n' := by
  obtain ⟨d, m, c, e, a1, a2, a3, a4⟩ := b
  exact ⟨d, m, c, e, a1, a2, a3, by omega⟩
/-- only the bag at p was changed, and things are new -/
structure Drew (p : Addr) (H H' : Hp) (n : Nat) : Prop where
  x : SameX p H H'
  bag : BagAt H' p n
theorem Drew.free {p : Addr} {H H' : Hp} {n : Nat} (d : Drew p H H' n) {b : Addr} (h : H' b = none) : H b = none := by
  cases e : H b with
  | none => rfl
  | some o =>
    have bp : b ≠ p := fun z => by
      obtain ⟨_, _, _, hb, _⟩ := d.bag
      rw [z, hb] at h
      cases h
    rw [d.x b o bp e] at h
    cases h
theorem Drew.new {p : Addr} {H H' : Hp} {n : Nat} (d : Drew p H H' n) {H'' : Hp} (s : Same H' H'') : Drew p H H'' n := ⟨d.x.trans s.x, d.bag.same s⟩
theorem Drew.then {p : Addr} {H H' H'' : Hp} {n m : Nat} (d : Drew p H H' n) (e : Drew p H' H'' m) : Drew p H H'' m := ⟨d.x.trans e.x, e.bag⟩
theorem Drew.of {p : Addr} {H H' : Hp} {n : Nat} (b : BagAt H p n) (s : Same H H') : Drew p H H' n := ⟨s.x, b.same s⟩
theorem SameX.seqL {K : PySem.W.Frag} {p a : Addr} {H H' : Hp} {xs : List V} (s : SameX p H H') (n : a ≠ p) (h : SqL K H a xs) : SqL K H' a xs := by
  rcases h with (h | ⟨o, h⟩) | h
  · exact .inl (.inl (s _ _ n h))
  · exact .inl (.inr ⟨o, s _ _ n h⟩)
  · exact .inr h
section
variable {P : Program} {w : World} {K : PySem.W.Frag} {mg : Str → Option Value} {base : Heap}
def spBag : Sp := fun vs H Q _ => ∃ i : Int, vs = [.int i] ∧ ∀ H' p, Same H H' → H p = none → BagAt H' p 0 → Q (.ref p) H'
theorem ok_bag {f : Addr} {fd : FuncData} {k : Nat} (F : Fun K "_law_bag" "_law_bag" sBag f fd) (mi : mg "int" = none) (mm : mg "max" = none) : FnOk P w K mg base CX0 (k + 1) f fd ["_law_cell"] spBag := by
  refine F.ok scBag (fun vs H Q E h => ?_) (fun cdv A outer s H vs Q E hr h => ?_)
  · obtain ⟨i, rfl, _⟩ := h
    rfl
  · obtain ⟨i, rfl, q⟩ := h
    refine ⟨_, pss_one (ps_ret (pe_lst (pa_cons (pe_callB (call_max2 rfl) (by rfl) mm (by decide +kernel) (pa_cons pe_int (pa_cons (pe_op op_sub (pv 0) (pe_op op_pow pe_int pe_int)) pa_nil)))
      (pa_cons (pe_op op_mod (pe_callTy call_int1 (by rfl) mi (by decide +kernel) (pa_cons (pv 0) pa_nil)) (pe_op op_add (pe_op op_pow pe_int pe_int) pe_int)) (pa_cons pe_int pa_nil))))), ?_⟩
    refine ⟨_, rfl, 10, 18, rfl, rfl, ⟨by decide, by decide, by decide⟩, _, _, rfl, rfl, _, _, rfl, _, rfl, .inl ⟨_, rfl, 10, 40, rfl, rfl, ⟨by decide, by decide, by decide⟩, _, _, rfl, rfl, _, _, rfl, rfl, (by decide : (0 : Int) < 10 ^ (40 : Int).toNat + 121), sz20 (by simp), fun p np => ?_⟩⟩
    refine q _ p (same_new np) np ⟨_, _, _, upd_same, Int.emod_nonneg _ (by decide), ?_, by decide, by decide⟩
    exact Int.lt_trans (Int.emod_lt_of_pos _ (by decide)) (by decide)
def spPick : Sp := fun vs H Q _ => ∃ (p : Addr) (wd : Int) (n : Nat), vs = [.ref p, .int wd] ∧ 0 < wd ∧ wd < 2 ^ 100 ∧ BagAt H p n ∧ n ≤ 1000000 ∧ ∀ (r : Int) (H' : Hp), 0 ≤ r → r < wd → Drew p H H' (n + 1) → (∀ b, b ≠ p → H' b = H b) → Q (.int r) H'
theorem ok_pick {f : Addr} {fd : FuncData} {k : Nat} (F : Fun K "_law_pick" "_law_pick" sPick f fd) (mi : mg "int" = none) : FnOk P w K mg base CX0 (k + 1) f fd ["_law_bag_here", "_law_many"] spPick := by
  refine F.ok scPick (fun vs H Q E h => ?_) (fun cdv A outer s H vs Q E hr h => ?_)
  · obtain ⟨p, wd, n, rfl, _⟩ := h
    rfl
  · obtain ⟨p, wd, n, rfl, w0, w1, ⟨d, m, c, hp, m0, m1, c0, c1⟩, n1, q⟩ := h
    have wb : wd.natAbs < 2 ^ 100 := by
      have e : ((2 : Int) ^ 100) = ((2 ^ 100 : Nat) : Int) := by decide
      rw [e] at w1
      generalize (2 : Nat) ^ 100 = M at *
      omega
    have q2 : ∀ (r d' c' : Int), 0 ≤ r → r < wd → 0 ≤ c' → c' ≤ c + 1 → Q (.int r) (upd H p (.lst [.int d', .int m, .int c'])) := fun r d' c' r0 r1 e0 e1 => q r _ r0 r1 ⟨SameX.put, d', m, c', upd_same, m0, m1, e0, by omega⟩ fun b hb => upd_ne hb
    refine ⟨_, pss_cons (ps_if (pt_cmpR op_gt (pe_ix ix_list (pv 0) pe_int (fun _ _ => rfl)) pe_int (nomark _))
        (pss_cons (ps_set (i := 2) scPick.nd rfl (.inl rfl) (pe_op op_mod (pe_callTy call_int1 (by rfl) mi (by decide +kernel) (pa_cons (pe_ix ix_list (pv 0) pe_int (fun _ _ => rfl)) pa_nil)) (pv 1)))
        (pss_cons (ps_asg (pe_op op_fdivW (pe_callTy call_int1 (by rfl) mi (by decide +kernel) (pa_cons (pe_ix ix_list (pv 0) pe_int (fun _ _ => rfl)) pa_nil)) (pv 1)) (pg_sub (pv 0) pe_int set_list))
        (pss_one (ps_ret (pv 2))))) pss_nil)
      (pss_cons (ps_asg (pe_op op_add (pe_ix ix_list (pv 0) pe_int (fun _ _ => rfl)) pe_int) (pg_sub (pv 0) pe_int set_list))
      (pss_cons (ps_set (i := 3) scPick.nd rfl (.inl rfl) (pe_op op_mod (pe_callTy call_int1 (by rfl) mi (by decide +kernel) (pa_cons (pe_op op_powW (pe_op op_add (pe_ix ix_list (pv 0) pe_int (fun _ _ => rfl)) (pe_op op_mul pe_int (pe_ix ix_list (pv 0) pe_int (fun _ _ => rfl)))) pe_int) pa_nil)) (pe_op op_add (pe_op op_pow pe_int pe_int) pe_int)))
      (pss_cons (ps_set (i := 3) scPick.nd rfl (.inl rfl) (pe_op op_mod (pe_callTy call_int1 (by rfl) mi (by decide +kernel) (pa_cons (pe_op op_powW (pe_op op_add (pv 3) (pe_op op_mul pe_int (pe_ix ix_list (pv 0) pe_int (fun _ _ => rfl)))) pe_int) pa_nil)) (pe_op op_add (pe_op op_pow pe_int pe_int) pe_int)))
      (pss_one (ps_ret (pe_op op_mod (pe_callTy call_int1 (by rfl) mi (by decide +kernel) (pa_cons (pe_op op_fdiv (pv 3) pe_int) pa_nil)) (pv 1))))))), ?_⟩
    refine ⟨.ref p, rfl, p, _, 0, .int d, rfl, rfl, SqL.of hp, atI_nat (j := 0) rfl, _, _, rfl, rfl, _, rfl, ite2 (fun e => ?_) (fun e => ?_)⟩
    · refine ⟨.ref p, rfl, p, _, 0, .int d, rfl, rfl, SqL.of hp, atI_nat (j := 0) rfl, .inl ⟨_, rfl, _, rfl, _, _, rfl, rfl, w0, ?_⟩⟩
      refine ⟨.ref p, rfl, p, _, 0, .int d, rfl, rfl, SqL.of hp, atI_nat (j := 0) rfl, .inl ⟨_, rfl, _, rfl, _, _, rfl, rfl, wide_div w0 wb (by decide) (by decide), .ref p, rfl, p, _, 0, 0, rfl, rfl, hp, rfl, ?_⟩⟩
      exact ⟨_, rfl, q2 (d % wd) (d / wd) c (Int.emod_nonneg _ (by omega)) (Int.emod_lt_of_pos _ w0) c0 (by omega)⟩
    · refine ⟨.ref p, rfl, p, _, 2, .int c, rfl, rfl, SqL.of hp, atI_nat (j := 2) rfl, _, _, rfl, rfl, .ref p, rfl, p, _, 2, 2, rfl, rfl, hp, rfl, ?_⟩
      have h2 : upd H p (.lst ([V.int d, .int m, .int c].set 2 (.int (c + 1)))) p = some (.lst [.int d, .int m, .int (c + 1)]) := upd_same
      have cb : c + 1 ≤ 1000001 := by omega
      have bd : ∀ a b : Int, 0 ≤ a → a < 2 ^ 200 → 0 ≤ b → b ≤ 1000000000 → (a + b * (c + 1)).natAbs < 2 ^ 300 := fun a b a0 a1 b0 b1 => by
        have z : b * (c + 1) ≤ 1000000000 * 1000001 := Int.mul_le_mul b1 cb (by omega) (by decide)
        have z0 : 0 ≤ b * (c + 1) := Int.mul_nonneg b0 (by omega)
        have e1 : ((2 : Int) ^ 200) = ((2 ^ 200 : Nat) : Int) := by decide
        have e2 : (2 : Nat) ^ 200 + 1000000000 * 1000001 < 2 ^ 300 := by decide
        rw [e1] at a1
        generalize (2 : Nat) ^ 200 = M at *
        generalize (2 : Nat) ^ 300 = M' at *
        generalize b * (c + 1) = y at *
        omega
      refine ⟨.ref p, rfl, p, _, 1, .int m, rfl, rfl, SqL.of h2, atI_nat (j := 1) rfl, .ref p, rfl, p, _, 2, .int (c + 1), rfl, rfl, SqL.of h2, atI_nat (j := 2) rfl, _, _, rfl, rfl, .inl ⟨by decide, by decide⟩, _, _, rfl, rfl, ?_⟩
      refine ⟨_, _, rfl, rfl, pow_ok (by decide) (by decide) (bd m 611953 m0 (Int.lt_trans m1 (by decide)) (by decide) (by decide)) (by decide) (by decide), .inl ⟨_, rfl, 10, 39, rfl, rfl, ⟨by decide, by decide, by decide⟩, _, _, rfl, rfl, _, _, rfl, rfl, (by decide : (0 : Int) < 10 ^ (39 : Int).toNat + 3), ?_⟩⟩
      have G0 : 0 ≤ (m + 611953 * (c + 1)) ^ (3 : Int).toNat % (10 ^ (39 : Int).toNat + 3) := Int.emod_nonneg _ (by decide)
      have G1 : (m + 611953 * (c + 1)) ^ (3 : Int).toNat % (10 ^ (39 : Int).toNat + 3) < 2 ^ 200 := Int.lt_trans (Int.emod_lt_of_pos _ (by decide)) (by decide)
      refine ⟨_, rfl, .ref p, rfl, p, _, 2, .int (c + 1), rfl, rfl, SqL.of h2, atI_nat (j := 2) rfl, _, _, rfl, rfl, .inl ⟨by decide, by decide⟩, _, _, rfl, rfl, ?_⟩
      refine ⟨_, _, rfl, rfl, pow_ok (by decide) (by decide) (bd _ 86028121 G0 G1 (by decide) (by decide)) (by decide) (by decide), .inl ⟨_, rfl, 10, 42, rfl, rfl, ⟨by decide, by decide, by decide⟩, _, _, rfl, rfl, _, _, rfl, rfl, (by decide : (0 : Int) < 10 ^ (42 : Int).toNat + 63), ?_⟩⟩
      refine ⟨_, rfl, _, _, rfl, rfl, ⟨by decide, by decide⟩, .inl ⟨_, rfl, _, rfl, _, _, rfl, rfl, w0, ?_⟩⟩
      exact q2 _ d (c + 1) (Int.emod_nonneg _ (by omega)) (Int.emod_lt_of_pos _ w0) (by omega) (by omega)
end
end K3
set_option Elab.async false
set_option linter.all false
set_option maxRecDepth 100000
set_option maxHeartbeats 1000000
set_option exponentiation.threshold 20000
namespace L2
open PySem PySem.Spec PyProof.Rows
/-- a reading that says more -/
theorem PS.of {X : Cx} {st : Stmt} {t : TS} (t' : TS) (h : PS X st t) (hi : ∀ D σ H, t' D σ H → t D σ H) : PS X st t' := ⟨fun pins s σ H D I q => h.run pins s σ H D I (hi D σ H q)⟩
theorem PE.of {X : Cx} {e : Expr} {t : TE} (t' : TE) (h : PE X e t) (hi : ∀ σ H Q, t' σ H Q → t σ H Q) : PE X e t' := ⟨fun pins s σ H Q I q => h.run pins s σ H Q I (hi σ H Q q)⟩
theorem SqT.put {K : PySem.W.Frag} {H H' : Hp} {a p : Addr} {xs l : List V} (h : SqT K H a xs) (hp : H p = some (.lst l)) (s : SameX p H H') : SqT K H' a xs := by
  have n : ∀ o, H a = some o → (∀ l, o ≠ .lst l) → a ≠ p := fun o e z y => by
    rw [y, hp] at e
    exact z l (Option.some.inj e).symm
  rcases h with (h | ⟨o, h⟩) | h
  · exact .inl (.inl (s _ _ (n _ h fun l z => nomatch z) h))
  · exact .inl (.inr ⟨o, s _ _ (n _ h fun l z => nomatch z) h⟩)
  · exact .inr h
end L2
namespace K3
open PySem PySem.Spec PyProof.Rows L2 Fen
theorem At.put {K : PySem.W.Frag} {H H' : Hp} {p : Addr} {l : List V} {ks : Pts} (h : At K H ks) (hp : H p = some (.lst l)) (s : SameX p H H') : At K H' ks := fun q hq => L2.SqT.put (h q hq) hp s
theorem At.drew {K : PySem.W.Frag} {H H' : Hp} {p : Addr} {n m : Nat} {ks : Pts} (h : At K H ks) (b : BagAt H p n) (s : Drew p H H' m) : At K H' ks := by
  obtain ⟨d, m, c, e, _⟩ := b
  exact At.put h e s.x
abbrev sPts : Stmt := topS 40
abbrev nPts : List Str := ["_law_bag_here", "_law_many", "_law_wide", "_law_way", "_law_left", "_law_up", "_law_found", "_law_turn_here", "_law_x", "_law_y"]
theorem scPts : FnScope nPts ["_law_bag_here", "_law_many", "_law_wide"] (defScope sPts) := ⟨rfl, rfl, rfl, by decide +kernel, rfl, by decide +kernel, by decide +kernel⟩
abbrev N29 : Int := 100000000000000000000000000000
theorem n29 : (10 : Int) ^ (29 : Int).toNat = N29 := by decide
def ab (x : Int) : Prop := -200000000000000000000000000000 ≤ x ∧ x ≤ 200000000000000000000000000000
def sg (p f : Addr) (many wide way left up : Int) (y7 : Option V) (x y : Int) : L2.St := [some (.ref p), some (.int many), some (.int wide), some (.int way), some (.int left), some (.int up), some (.ref f), y7, some (.int x), some (.int y)]
theorem ab_two {x l : Int} (h0 : 0 ≤ x) (h1 : x ≤ N29) (h2 : -2 ≤ l) (h3 : l ≤ 2) : ab (x * l) := by
  have a1 : x * l ≤ x * 2 := Int.mul_le_mul_of_nonneg_left h3 h0
  have a2 : x * -2 ≤ x * l := Int.mul_le_mul_of_nonneg_left h2 h0
  unfold ab
  have h4 : x ≤ 100000000000000000000000000000 := h1
  omega
def Cq (p : Hull.P) : Prop := -400000000000000000000000000000 ≤ p.1 ∧ p.1 ≤ 400000000000000000000000000000 ∧ -400000000000000000000000000000 ≤ p.2 ∧ p.2 ≤ 400000000000000000000000000000
theorem cq_add {l u x y : Int} (h1 : ab l) (h2 : ab u) (h3 : ab x) (h4 : ab y) : Cq (l + x, u + y) := by
  unfold ab at *
  unfold Cq
  refine ⟨?_, ?_, ?_, ?_⟩ <;> dsimp only <;> omega
theorem co_add {l u x y : Int} (h1 : ab l) (h2 : ab u) (h3 : ab x) (h4 : ab y) : Co (l + x, u + y) := by
  unfold ab at *
  have e : (10 : Int) ^ 30 = 1000000000000000000000000000000 := by decide
  unfold Co
  rw [e]
  refine ⟨?_, ?_, ?_, ?_⟩ <;> dsimp only <;> omega
section
variable {P : Program} {w : World} {K : PySem.W.Frag} {mg : Str → Option Value} {base : Heap}
/-- the steps within the turn, each said anew -/
def T0 : TS := fun D σ H => ∃ (p : Addr) (many wide way left up : Int), σ = [some (.ref p), some (.int many), some (.int wide), some (.int way), some (.int left), some (.int up), none, none, none, none] ∧ (-2 ≤ left ∧ left ≤ 2) ∧ (-2 ≤ up ∧ up ≤ 2) ∧
  ∀ l u, ab l → ab u → (way = 1 → (-2 ≤ l ∧ l ≤ 2) ∧ (-2 ≤ u ∧ u ≤ 2)) → D.nx [some (.ref p), some (.int many), some (.int wide), some (.int way), some (.int l), some (.int u), none, none, none, none] H
def T1 : TS := fun D σ H => ∃ p f many wide way left up y7 x y, σ = sg p f many wide way left up y7 x y ∧ 0 ≤ x ∧ x ≤ N29 ∧ 0 ≤ y ∧ y ≤ N29 ∧ (way = 1 → (-2 ≤ left ∧ left ≤ 2) ∧ (-2 ≤ up ∧ up ≤ 2)) ∧
  ∀ x' y', ab x' → ab y' → (way ≠ 1 → x' = x ∧ y' = y) → D.nx (sg p f many wide way left up y7 x' y') H
def T2 : TS := fun D σ H => ∃ p f many wide way left up y7 x y, σ = sg p f many wide way left up y7 x y ∧ ab x ∧ ab y ∧ (way = 2 → 0 ≤ x ∧ x ≤ wide) ∧
  ∀ x' y', ab x' → ab y' → D.nx (sg p f many wide way left up y7 x' y') H
theorem ab_mod {x : Int} : ab (x % 2) := by
  unfold ab
  omega
def spPts (K : PySem.W.Frag) : Sp := fun vs H Q _ => ∃ (p : Addr) (many : Nat) (wide : Int) (n : Nat), vs = [.ref p, .int many, .int wide] ∧ BagAt H p n ∧ n + 100 ≤ 1000000 ∧ 1 ≤ many ∧ many ≤ 20 ∧ 0 < wide ∧ wide ≤ N29 ∧
  ∀ H' f ks, Drew p H H' (n + 43) → H f = none → f ≠ p → H' f = some (.lst (refs ks)) → At K H' ks → (∀ q ∈ ks, Cq q.2) → ks.length = many → Q (.ref f) H'
theorem ok_pts {f fP : Addr} {fd fdP : FuncData} {k : Nat} (F : Fun K "_law_points" "_law_points" sPts f fd) (FP : Fun K "_law_pick" "_law_pick" sPick fP fdP) (bP : Binds K fdP ["_law_bag_here", "_law_many"] []) (gP : mg "_law_pick" = some (.ref fP)) (mi : mg "int" = none) (mr : mg "range" = none) :
    FnOk P w K mg base CX0 (k + 1 + 1) f fd ["_law_bag_here", "_law_many", "_law_wide"] (spPts K) := by
  have OP : FnOk P w K mg base CX0 1 fP fdP ["_law_bag_here", "_law_many"] spPick := ok_pick FP mi
  refine F.ok scPts (fun vs H Q E h => ?_) (fun cdv A outer s H vs Q E hr h => ?_)
  · obtain ⟨p, many, wide, n, rfl, _⟩ := h
    rfl
  · obtain ⟨p, many, wide, n, rfl, hb, hn, m1, m2, w0, w1, q⟩ := h
    have h1 : Room 1 (A.deeper (envOfC "_law_points" (defScope sPts) s.heap.objs.size f cdv)) := hr.mono (by omega)
    refine ⟨_, pss_cons (ps_par3 (i := 3) (j := 4) (l := 5) rfl scPts.nd rfl rfl rfl (by decide) (by decide) (by decide) rfl rfl rfl
        (pa_cons (pe_call OP h1 (by rfl) gP FP.kp bP .nil pass0 (pa_cons (pv 0) (pa_cons pe_int pa_nil))) (pa_cons (pe_op op_sub (pe_call OP h1 (by rfl) gP FP.kp bP .nil pass0 (pa_cons (pv 0) (pa_cons pe_int pa_nil))) pe_int) (pa_cons (pe_op op_sub (pe_call OP h1 (by rfl) gP FP.kp bP .nil pass0 (pa_cons (pv 0) (pa_cons pe_int pa_nil))) pe_int) pa_nil))) (by rfl))
      (pss_cons (PS.of T0 (ps_if (pt_cmpR op_eq (pv 3) pe_int (nomark _)) (pss_one (ps_par (i := 4) (j := 5) rfl scPts.nd rfl rfl (by decide) rfl rfl (pa_cons (pe_op op_mul (pv 4) (pe_op op_pow pe_int pe_int)) (pa_cons (pe_op op_mul (pv 5) (pe_op op_pow pe_int pe_int)) pa_nil)) (by rfl))) pss_nil) ?s0)
      (pss_cons (ps_set (i := 6) scPts.nd rfl (.inl rfl) (pe_lst pa_nil))
      (pss_cons (ps_for PassesOwn.never rfl (pi_range1 rfl mr (pa_cons (pv 1) pa_nil)) (pg_name (i := 7) scPts.nd rfl (.inl rfl))
        (pss_cons (ps_par (i := 8) (j := 9) rfl scPts.nd rfl rfl (by decide) rfl rfl (pa_cons (pe_call OP h1 (by rfl) gP FP.kp bP .nil pass0 (pa_cons (pv 0) (pa_cons (pv 2) pa_nil))) (pa_cons (pe_call OP h1 (by rfl) gP FP.kp bP .nil pass0 (pa_cons (pv 0) (pa_cons (pv 2) pa_nil))) pa_nil)) (by rfl))
        (pss_cons (PS.of T1 (ps_if (pt_cmpR op_eq (pv 3) pe_int (nomark _)) (pss_one (ps_par (i := 8) (j := 9) rfl scPts.nd rfl rfl (by decide) rfl rfl (pa_cons (pe_op op_mul (pv 8) (pv 4)) (pa_cons (pe_op op_mul (pv 8) (pv 5)) pa_nil)) (by rfl))) pss_nil) ?s1)
        (pss_cons (PS.of T2 (ps_if (PW.pt (pw_and (pt_cmpR op_eq (pv 3) pe_int (nomark _)) (pw_and1 (pt_cmpR op_lt (pv 2) (pe_op op_pow pe_int pe_int) (nomark _))))) (pss_one (ps_par (i := 8) (j := 9) rfl scPts.nd rfl rfl (by decide) rfl rfl (pa_cons (pv 8) (pa_cons (pe_op op_mul (pv 8) (pv 8)) pa_nil)) (by rfl))) pss_nil) ?s2)
        (pss_one (ps_expr (pe_bm PySem.F.plainAttrs_list PySem.F.slot_list_append PySem.F.type_list_append mt_append (pv 6) (pa_cons (pe_tup (pa_cons (pe_op op_add (pv 4) (pv 8)) (pa_cons (pe_op op_add (pv 5) (pv 9)) pa_nil))) pa_nil))))))))
      (pss_one (ps_ret (pv 6)))))), ?_⟩
    case s0 =>
      rintro D σ H ⟨p, many, wide, way, left, up, rfl, ⟨l1, l2⟩, ⟨u1, u2⟩, k⟩
      refine ⟨_, rfl, rfl, _, rfl, ite2 (fun e => ?_) (fun e => ?_)⟩
      · have e1 : way = 0 := V.int.inj (of_decide_eq_true e)
        refine ⟨_, rfl, 10, 29, rfl, rfl, ⟨by decide, by decide, by decide⟩, _, _, rfl, rfl, .inl ⟨by omega, by omega⟩, _, rfl, 10, 29, rfl, rfl, ⟨by decide, by decide, by decide⟩, _, _, rfl, rfl, .inl ⟨by omega, by omega⟩, _, _, rfl, ?_⟩
        have b : ∀ z : Int, -2 ≤ z → z ≤ 2 → ab (z * (10 : Int) ^ (29 : Int).toNat) := fun z z1 z2 => by
          rw [n29, Int.mul_comm]
          exact ab_two (by decide) (Int.le_refl _) z1 z2
        exact k _ _ (b left l1 l2) (b up u1 u2) fun z => absurd z (by omega)
      · exact k left up ⟨by omega, by omega⟩ ⟨by omega, by omega⟩ fun _ => ⟨⟨l1, l2⟩, u1, u2⟩
    case s1 =>
      rintro D σ H ⟨p, f, many, wide, way, left, up, y7, x, y, rfl, x0, x1, y0, y1, hw, k⟩
      refine ⟨_, rfl, rfl, _, rfl, ite2 (fun e => ?_) (fun e => ?_)⟩
      · have e1 : way = 1 := V.int.inj (of_decide_eq_true e)
        obtain ⟨⟨l1, l2⟩, u1, u2⟩ := hw e1
        refine ⟨_, rfl, _, rfl, _, _, rfl, rfl, .inr ⟨by omega, by omega⟩, _, rfl, _, rfl, _, _, rfl, rfl, .inr ⟨by omega, by omega⟩, _, _, rfl, ?_⟩
        exact k (x * left) (x * up) (ab_two x0 x1 l1 l2) (ab_two x0 x1 u1 u2) fun z => absurd e1 z
      · have h1 : x ≤ 100000000000000000000000000000 := x1
        have h2 : y ≤ 100000000000000000000000000000 := y1
        exact k x y ⟨by omega, by omega⟩ ⟨by omega, by omega⟩ fun _ => ⟨rfl, rfl⟩
    case s2 =>
      rintro D σ H ⟨p, f, many, wide, way, left, up, y7, x, y, rfl, ax, ay, hw, k⟩
      refine ⟨_, rfl, rfl, _, rfl, ite2 (fun e => ?_) (fun e => ?_)⟩
      · have e1 : way = 2 := V.int.inj (of_decide_eq_true e)
        obtain ⟨x0, x1⟩ := hw e1
        refine ⟨_, rfl, 10, 14, rfl, rfl, ⟨by decide, by decide, by decide⟩, _, _, rfl, rfl, _, rfl, ite2 (fun e2 => ?_) (fun e2 => ?_)⟩
        · have e3 : wide < 100000000000000 := of_decide_eq_true e2
          refine ⟨_, rfl, _, rfl, _, rfl, _, _, rfl, rfl, .inr ⟨by omega, by omega⟩, _, _, rfl, ?_⟩
          have x2 : x * x ≤ 100000000000000 * 100000000000000 := Int.mul_le_mul (by omega) (by omega) x0 (by decide)
          have x3 : 0 ≤ x * x := Int.mul_nonneg x0 x0
          refine k x (x * x) ax ⟨by omega, ?_⟩
          generalize x * x = xx at x2 x3 ⊢
          omega
        · exact k x y ax ay
      · exact iteF (k x y ax ay)
    refine ⟨_, rfl, p, 6, n, rfl, by decide, by decide, hb, by omega, fun way H1 a0 a1 d1 _ => ?_⟩
    refine ⟨_, rfl, p, 5, n + 1, rfl, by decide, by decide, d1.bag, by omega, fun left H2 b0 b1 d2 _ => ⟨_, _, rfl, rfl, ?_⟩⟩
    refine ⟨_, rfl, p, 5, n + 2, rfl, by decide, by decide, d2.bag, by omega, fun up H3 c0 c1 d3 _ => ⟨_, _, rfl, rfl, _, _, _, rfl, ?_⟩⟩
    have dA : Drew p H H3 (n + 3) := d1.then (d2.then d3)
    refine ⟨p, many, wide, way, left - 2, up - 2, rfl, ⟨by omega, by omega⟩, ⟨by omega, by omega⟩, fun l u al au hw => ?_⟩
    refine ⟨by show 0 ≤ sizeLine; decide, fun g ng => ?_⟩
    have dB : Drew p H (upd H3 g (.lst [])) (n + 3) := dA.new (same_new ng)
    have gH : H g = none := dA.free ng
    have gp : g ≠ p := fun z => by
      obtain ⟨_, _, _, e, _⟩ := dA.bag
      rw [z, e] at ng
      cases ng
    refine ⟨_, rfl, many, rfl, by omega, by omega, ?_⟩
    refine for_range (lo := 0) (fun i σ H' => ∃ (ks : Pts) (y7 y8 y9 : Option V), σ = [some (.ref p), some (.int many), some (.int wide), some (.int way), some (.int l), some (.int u), some (.ref g), y7, y8, y9] ∧ Drew p H H' (n + 3 + 2 * i) ∧ H' g = some (.lst (refs ks)) ∧ At K H' ks ∧ (∀ q ∈ ks, Cq q.2) ∧ ks.length = i) ?_ ?_ ?_
    · exact ⟨[], none, none, none, rfl, dB, upd_same, fun q hq => (nomatch hq), fun q hq => (nomatch hq), rfl⟩
    · rintro i σ H' hi ⟨ks, y7, y8, y9, rfl, dr, hg, hT, hC, lk⟩
      have hi2 : i < many := by omega
      refine ⟨_, rfl, _, rfl, p, wide, n + 3 + 2 * i, rfl, w0, Int.lt_of_le_of_lt w1 (by decide), dr.bag, by omega, fun x H5 x0 x1 d5 o5 => ?_⟩
      refine ⟨_, rfl, _, rfl, p, wide, n + 3 + 2 * i + 1, rfl, w0, Int.lt_of_le_of_lt w1 (by decide), d5.bag, by omega, fun y H6 y0 y1 d6 o6 => ?_⟩
      have g6 : H6 g = some (.lst (refs ks)) := by rw [o6 g gp, o5 g gp]; exact hg
      have T6 : At K H6 ks := At.drew (At.drew hT dr.bag d5) d5.bag d6
      have dr6 : Drew p H H6 (n + 3 + 2 * i + 2) := dr.then (d5.then d6)
      have w2 : wide ≤ 100000000000000000000000000000 := w1
      refine ⟨_, _, rfl, p, g, many, wide, way, l, u, _, x, y, rfl, x0, by show x ≤ 100000000000000000000000000000; omega, y0, by show y ≤ 100000000000000000000000000000; omega, hw, fun x2 y2 ax ay same => ?_⟩
      refine ⟨p, g, many, wide, way, l, u, _, x2, y2, rfl, ax, ay, fun e2 => ?_, fun x3 y3 ax ay => ?_⟩
      · obtain ⟨e3, _⟩ := same (by omega)
        rw [e3]
        exact ⟨x0, Int.le_of_lt x1⟩
      have s7 : Same H6 H6 := Same.refl _
      refine ⟨.ref g, rfl, .inl ⟨rfl, _, SqL.of (s7 _ _ g6)⟩, _, rfl, _, rfl, _, _, rfl, rfl, _, rfl, _, rfl, _, _, rfl, rfl, by show 2 ≤ sizeLine; decide, fun t nt => ?_⟩
      have g8 : (upd H6 t (.tup [.int (l + x3), .int (u + y3)])) g = some (.lst (refs ks)) := (same_new nt) _ _ (s7 _ _ g6)
      refine ⟨g, refs ks, .ref t, rfl, rfl, g8, by rw [refs_len]; exact Nat.lt_of_lt_of_le (show ks.length < 21 by omega) (by decide), ?_⟩
      have s8 := s7.trans (same_new (o := .tup [.int (l + x3), .int (u + y3)]) nt)
      have T8 := T6.same s8
      have tg : t ≠ g := fun z => by
        rw [z] at nt
        rw [s7 _ _ g6] at nt
        cases nt
      refine ⟨ks ++ [(t, (l + x3, u + y3))], _, _, _, rfl, ⟨fun b o bn e => ?_, ?_⟩, ?_, fun q hq => ?_, fun q hq => ?_, ?_⟩
      · rw [upd_ne (ne_of_none e gH)]
        exact (dr6.new s8).x b o bn e
      · obtain ⟨d0, m0, c0, e0, r0⟩ := ((dr6.new s8).bag.more (show n + 3 + 2 * i + 2 ≤ n + 3 + 2 * (i + 1) by omega))
        exact ⟨d0, m0, c0, (upd_ne (Ne.symm gp)).trans e0, r0⟩
      · rw [upd_same]
        simp [refs]
      · rcases List.mem_append.mp hq with z | z
        · exact L2.SqT.put (T8 q z) g8 SameX.put
        · rw [List.mem_singleton.mp z]
          refine SqT.of ?_
          rw [upd_ne tg]
          exact upd_same
      · rcases List.mem_append.mp hq with z | z
        · exact hC q z
        · rw [List.mem_singleton.mp z]
          exact cq_add al au ax ay
      · rw [List.length_append, List.length_singleton, lk]
    · rintro σ H' ⟨ks, y7, y8, y9, rfl, dr, hg, hT, hC, lk⟩
      rw [show (many : Int).toNat = many from Int.toNat_natCast many] at dr lk
      exact ⟨_, rfl, q _ g ks ⟨dr.x, dr.bag.more (by omega)⟩ gH gp hg hT hC lk⟩
end
end K3
set_option Elab.async false
set_option linter.all false
set_option maxRecDepth 100000
set_option maxHeartbeats 1000000
namespace Fen
open Hull (P turn Lt half push pop hull Poly)
theorem pop_some (r : P) : ∀ st : List P, st ≠ [] → pop r st ≠ []
  | [], h => absurd rfl h
  | [q], _ => by simp [pop]
  | b :: a :: rest, _ => by
    unfold pop
    split
    · exact pop_some r (a :: rest) (by simp)
    · simp
theorem pop_last (r : P) : ∀ st : List P, (pop r st).getLast? = st.getLast?
  | [] => rfl
  | [q] => rfl
  | b :: a :: rest => by
    unfold pop
    split
    · rw [pop_last r (a :: rest)]
      simp
    · rfl
theorem fold_last : ∀ (ps st : List P), st ≠ [] → (ps.foldl push st).getLast? = st.getLast? ∧ ps.foldl push st ≠ []
  | [], st, h => ⟨rfl, h⟩
  | r :: ps, st, h => by
    have e : push st r = r :: pop r st := rfl
    obtain ⟨h1, h2⟩ := fold_last ps (push st r) (by rw [e]; simp)
    refine ⟨?_, h2⟩
    show (ps.foldl push (push st r)).getLast? = _
    rw [h1, e, List.getLast?_cons_of_ne_nil (pop_some r st h), pop_last]
theorem half_last {m : P} {rest : List P} : (half (m :: rest)).getLast? = some m := (fold_last rest [m] (by simp)).1
theorem half_two {m x : P} {rest : List P} : 2 ≤ (half (m :: (rest ++ [x]))).length := by
  have e : half (m :: (rest ++ [x])) = x :: pop x (rest.foldl push [m]) := by
    show (rest ++ [x]).foldl push [m] = _
    rw [List.foldl_append]
    rfl
  have z := pop_some x (rest.foldl push [m]) (fold_last rest [m] (by simp)).2
  rw [e]
  have : 0 < (pop x (rest.foldl push [m])).length := List.length_pos_iff.mpr z
  simp only [List.length_cons]
  omega
theorem mem_dropLast {l : List P} {x : P} (h : l.getLast? = some x) (h2 : 2 ≤ l.length) : x ∈ l.reverse.dropLast := by
  obtain ⟨l', rfl⟩ : ∃ l', l = l' ++ [x] := by
    have := List.getLast?_eq_some_iff.mp h
    exact this
  rw [List.reverse_append]
  have : l'.reverse ≠ [] := by
    intro z
    rw [List.reverse_eq_nil_iff] at z
    rw [z] at h2
    simp at h2
  show x ∈ ([x] ++ l'.reverse).dropLast
  rw [List.dropLast_append_of_ne_nil this]
  exact List.mem_append_left _ (by simp)
/-- the least and the greatest are corners -/
theorem ends_in {m M : P} {mid : List P} : m ∈ hull (m :: (mid ++ [M])) ∧ M ∈ hull (m :: (mid ++ [M])) := by
  unfold hull
  refine ⟨List.mem_append_left _ (mem_dropLast half_last half_two), List.mem_append_right _ ?_⟩
  have e : (m :: (mid ++ [M])).reverse = M :: (mid.reverse ++ [m]) := by simp
  rw [e]
  exact mem_dropLast half_last half_two
structure Around (s c : List P) : Prop where
  le : ∃ m, c[0]? = some m ∧ m ∈ s ∧ ∀ x ∈ s, x ≠ m → Lt m x
  sub : ∀ x ∈ c, x ∈ s
  cs : (c.length = 1 ∧ ∃ m, c = [m] ∧ ∀ x ∈ s, x = m) ∨ (∃ a b, c = [a, b] ∧ b ∈ s ∧ (∀ x ∈ s, x ≠ b → Lt x b) ∧ ∀ x ∈ s, turn a b x = 0) ∨
    (3 ≤ c.length ∧ ∀ i a b d, i < c.length → c[i]? = some a → c[(i + 1) % c.length]? = some b → c[(i + 2) % c.length]? = some d → 0 < turn a b d ∧ ∀ x ∈ s, 0 ≤ turn a b x)
theorem around {s : List P} (hs : s.Pairwise Lt) (h1 : 1 ≤ s.length) : Around s (hul s) := by
  by_cases h : s.length = 1
  · obtain ⟨m, rfl⟩ : ∃ m, s = [m] := List.length_eq_one_iff.mp h
    have e : hul [m] = [m] := rfl
    rw [e]
    refine ⟨⟨m, rfl, by simp, fun x hx n => absurd (List.mem_singleton.mp hx) n⟩, fun x hx => hx, .inl ⟨rfl, m, rfl, fun x hx => List.mem_singleton.mp hx⟩⟩
  · have h2 : 2 ≤ s.length := by omega
    have e : hul s = hull s := if_neg h
    rw [e]
    have Y := Hull.poly hs h2
    obtain ⟨m, mid, M, rfl⟩ : ∃ m mid M, s = m :: (mid ++ [M]) := by
      cases s with
      | nil => simp at h2
      | cons m rest =>
        rcases Hull.last_cases rest with rfl | ⟨l', x, rfl⟩
        · simp at h2
        · exact ⟨m, l', x, rfl⟩
    obtain ⟨pm, pr⟩ := List.pairwise_cons.mp hs
    obtain ⟨_, _, pM⟩ := List.pairwise_append.mp pr
    have least : ∀ x ∈ m :: (mid ++ [M]), x ≠ m → Lt m x := fun x hx n => by
      rcases List.mem_cons.mp hx with z | z
      · exact absurd z n
      · exact pm x z
    have most : ∀ x ∈ m :: (mid ++ [M]), x ≠ M → Lt x M := fun x hx n => by
      rcases List.mem_cons.mp hx with z | z
      · rw [z]
        exact pm M (by simp)
      · rcases List.mem_append.mp z with y | y
        · exact pM x y M (by simp)
        · exact absurd (List.mem_singleton.mp y) n
    obtain ⟨m', e0, e1, _⟩ := Y.first
    obtain rfl : m = m' := Option.some.inj e1
    obtain ⟨inm, inM⟩ := ends_in (m := m) (mid := mid) (M := M)
    have mM : Lt m M := pm M (by simp)
    have two := Y.two
    refine ⟨⟨m, e0, by simp, least⟩, Y.mem, .inr ?_⟩
    generalize hull (m :: (mid ++ [M])) = c at *
    by_cases h3 : c.length = 2
    · left
      obtain ⟨a, b, rfl⟩ : ∃ a b, c = [a, b] := by
        rcases c with _ | ⟨a, _ | ⟨b, _ | ⟨d, r⟩⟩⟩
        · simp at h3
        · simp at h3
        · exact ⟨a, b, rfl⟩
        · simp at h3
      obtain rfl : a = m := Option.some.inj e0
      have eb : b = M := by
        rcases List.mem_cons.mp inM with z | z
        · exact absurd (z ▸ mM) Lt.irrefl
        · exact (List.mem_singleton.mp z).symm
      subst eb
      refine ⟨a, b, rfl, by simp, most, fun x hx => ?_⟩
      have w0 := Y.weak 0 (by simp) x hx
      have w1 := Y.weak 1 (by simp) x hx
      have w0' : 0 ≤ turn a b x := w0
      have w1' : 0 ≤ turn b a x := by simpa using w1
      rw [Hull.turn_swap] at w1'
      omega
    · right
      refine ⟨by omega, fun i a b d hi ea eb ed => ⟨?_, fun x hx => ?_⟩⟩
      · have ja : c[i] = a := Option.some.inj ((List.getElem?_eq_getElem hi).symm.trans ea)
        have lb : (i + 1) % c.length < c.length := Nat.mod_lt _ (by omega)
        have ld : (i + 2) % c.length < c.length := Nat.mod_lt _ (by omega)
        have jb : c[(i + 1) % c.length] = b := Option.some.inj ((List.getElem?_eq_getElem lb).symm.trans eb)
        have jd : c[(i + 2) % c.length] = d := Option.some.inj ((List.getElem?_eq_getElem ld).symm.trans ed)
        have n1 : (i + 2) % c.length ≠ i := fun z => by
          by_cases q : i + 2 < c.length
          · rw [Nat.mod_eq_of_lt q] at z
            omega
          · have : (i + 2) % c.length = i + 2 - c.length := by rw [Nat.mod_eq_sub_mod (by omega), Nat.mod_eq_of_lt (by omega)]
            omega
        have n2 : (i + 2) % c.length ≠ (i + 1) % c.length := fun z => by
          by_cases q : i + 2 < c.length
          · rw [Nat.mod_eq_of_lt q, Nat.mod_eq_of_lt (by omega)] at z
            omega
          · have e2 : (i + 2) % c.length = i + 2 - c.length := by rw [Nat.mod_eq_sub_mod (by omega), Nat.mod_eq_of_lt (by omega)]
            by_cases q1 : i + 1 < c.length
            · rw [Nat.mod_eq_of_lt q1] at z
              omega
            · have e1 : (i + 1) % c.length = i + 1 - c.length := by rw [Nat.mod_eq_sub_mod (by omega), Nat.mod_eq_of_lt (by omega)]
              omega
        have z := Y.strict i ((i + 2) % c.length) hi ld n1 n2
        rw [ja, jb, jd] at z
        exact z
      · have ja : c[i] = a := Option.some.inj ((List.getElem?_eq_getElem hi).symm.trans ea)
        have lb : (i + 1) % c.length < c.length := Nat.mod_lt _ (by omega)
        have jb : c[(i + 1) % c.length] = b := Option.some.inj ((List.getElem?_eq_getElem lb).symm.trans eb)
        have z := Y.weak i hi x hx
        rw [ja, jb] at z
        exact z
end Fen
set_option Elab.async false
set_option linter.all false
set_option maxRecDepth 100000
/-! gcd of three -/
namespace L2
open PySem PySem.Spec PyProof.Rows
theorem gcd3_args (x y z : Value) : argsOk "math.gcd" ⟨[x, y, z], []⟩ := by
  unfold argsOk
  kernel_rfl
theorem gcd3_run (a : Int) (t : Tok) (b : Int) (u : Tok) (c : Int) (v : Tok) : Gives (Builtin.«math.gcd» ⟨[.int a t, .int b u, .int c v], []⟩) (.int (((((Nat.gcd 0 a.natAbs).gcd b.natAbs).gcd c.natAbs : Nat) : Int))) :=
  .of_wp fun M A E s Q k => by
    obtain ⟨h0, g0, d0, n0, o0⟩ := s
    wp_walk
    exact ⟨_, rfl, k⟩
/-- the greatest divisor that three have in common -/
def g3 (a b c : Int) : Int := (((a.natAbs.gcd b.natAbs).gcd c.natAbs : Nat) : Int)
def rGcd3 : List V → Hp → VK → Prop := fun vs H Q => ∃ a b c : Int, vs = [.int a, .int b, .int c] ∧ Q (.int (g3 a b c)) H
theorem cr_gcd3 {X : Cx} : CallR X (.builtin "math.gcd") rGcd3 := by
  rintro pins s σ H vs us Q I r ⟨a, b, c, rfl, q⟩
  obtain ⟨w1, rest, rfl, f1, r2⟩ : ∃ u rest, us = u :: rest ∧ RelV (.int a) u ∧ Vals [.int b, .int c] rest := by
    cases r with
    | cons r rr => exact ⟨_, _, rfl, r, rr⟩
  obtain ⟨w2, w3, rfl, f2, f3⟩ := vals2 r2
  obtain ⟨t1, rfl⟩ := f1
  obtain ⟨t2, rfl⟩ := f2
  obtain ⟨t3, rfl⟩ := f3
  have g := gcd3_run a t1 b t2 c t3
  rw [Nat.gcd_zero_left] at g
  exact call_function_meets PySem.W.MGF.kind_gcd PySem.W.MGF.plain_gcd PySem.W.MGF.entry_gcd (gcd3_args _ _ _) g.meets ⟨.int _, H, I.tok _, ⟨_, rfl⟩, q⟩
end L2
set_option Elab.async false
set_option linter.all false
set_option maxRecDepth 100000
set_option maxHeartbeats 1000000
namespace Fen
open Hull (P turn Lt)
/-! what fences are -/
structure Out (cs : List P) : Prop where
  first : ∃ m, cs[0]? = some m ∧ ∀ x ∈ cs, x ≠ m → Lt m x
  left : ∀ i j a b d, i < cs.length → j < cs.length → cs[i]? = some a → cs[(i + 1) % cs.length]? = some b → cs[j]? = some d → j ≠ i → j ≠ (i + 1) % cs.length → 0 < turn a b d
def Shape (cs : List P) : Prop := cs.length = 1 ∨ (∃ a b, cs = [a, b] ∧ Lt a b) ∨ (3 ≤ cs.length ∧ Out cs)
def tot (cs : List P) : Nat := if cs.length = 1 then 0 else cs.length
theorem shape_hul {s : List P} (hs : s.Pairwise Lt) (h1 : 1 ≤ s.length) : Shape (hul s) ∧ 1 ≤ (hul s).length ∧ ∀ x ∈ hul s, x ∈ s := by
  by_cases h : s.length = 1
  · have e : hul s = s := if_pos h
    rw [e]
    exact ⟨.inl h, h1, fun x hx => hx⟩
  · have e : hul s = Hull.hull s := if_neg h
    have Y := Hull.poly hs (by omega)
    rw [e]
    have two := Y.two
    refine ⟨.inr ?_, by omega, Y.mem⟩
    obtain ⟨m, e0, _, least⟩ := Y.first
    by_cases h2 : (Hull.hull s).length = 2
    · left
      obtain ⟨a, b, e2⟩ : ∃ a b, Hull.hull s = [a, b] := by
        generalize Hull.hull s = c at h2
        rcases c with _ | ⟨a, _ | ⟨b, _ | ⟨d, r⟩⟩⟩
        · simp at h2
        · simp at h2
        · exact ⟨a, b, rfl⟩
        · simp at h2
      refine ⟨a, b, e2, ?_⟩
      have nd := Y.nodup
      rw [e2] at e0 least nd
      obtain rfl : a = m := Option.some.inj e0
      exact least b (by simp) (fun z => by
        rw [z] at nd
        simp at nd)
    · right
      refine ⟨by omega, ⟨m, e0, least⟩, fun i j a b d hi hj ea eb ed n1 n2 => ?_⟩
      have ja : (Hull.hull s)[i] = a := Option.some.inj ((List.getElem?_eq_getElem hi).symm.trans ea)
      have lb : (i + 1) % (Hull.hull s).length < (Hull.hull s).length := Nat.mod_lt _ (by omega)
      have jb : (Hull.hull s)[(i + 1) % (Hull.hull s).length] = b := Option.some.inj ((List.getElem?_eq_getElem lb).symm.trans eb)
      have jd : (Hull.hull s)[j] = d := Option.some.inj ((List.getElem?_eq_getElem hj).symm.trans ed)
      have z := Y.strict i j hi hj n1 n2
      rw [ja, jb, jd] at z
      exact z
/-- how many corners are strictly left of a side -/
theorem range_two {n i i' : Nat} (h1 : i < n) (h2 : i' < n) (h : i ≠ i') : ((List.range n).filter fun j => decide (j ≠ i) && decide (j ≠ i')).length = n - 2 := by
  have nd : (List.range n).Nodup := List.nodup_range
  have e1 : (List.range n).erase i = (List.range n).filter (fun j => j != i) := nd.erase_eq_filter i
  have e2 : ((List.range n).erase i).erase i' = ((List.range n).erase i).filter (fun j => j != i') := (nd.erase i).erase_eq_filter i'
  have m2 : i' ∈ (List.range n).erase i := (List.mem_erase_of_ne (Ne.symm h)).mpr (List.mem_range.mpr h2)
  have l1 := List.length_erase_of_mem (List.mem_range.mpr h1)
  have l2 := List.length_erase_of_mem m2
  have l3 : (((List.range n).erase i).erase i').length = n - 1 - 1 := by rw [l2, l1, List.length_range]
  rw [e2, e1, List.filter_filter] at l3
  have e3 : (fun j => decide (j ≠ i) && decide (j ≠ i')) = fun j => (j != i') && (j != i) := by
    funext j
    by_cases a : j = i <;> by_cases b : j = i' <;> simp [a, b]
  rw [e3, l3]
  omega
theorem left_count {cs : List P} (h3 : 3 ≤ cs.length) (O : Out cs) {i : Nat} {a b : P} (hi : i < cs.length) (ea : cs[i]? = some a) (eb : cs[(i + 1) % cs.length]? = some b) : (cs.filter fun x => decide (0 < turn a b x)).length = cs.length - 2 := by
  have lb : (i + 1) % cs.length < cs.length := Nat.mod_lt _ (by omega)
  have ne : i ≠ (i + 1) % cs.length := fun z => by
    by_cases q : i + 1 < cs.length
    · rw [Nat.mod_eq_of_lt q] at z
      omega
    · have : (i + 1) % cs.length = i + 1 - cs.length := by rw [Nat.mod_eq_sub_mod (by omega), Nat.mod_eq_of_lt (by omega)]
      omega
  have em : cs = (List.range cs.length).map fun j => cs.getD j (0, 0) := by
    refine List.ext_getElem? fun j => ?_
    rw [List.getElem?_map]
    by_cases h : j < cs.length
    · rw [List.getElem?_range h, List.getElem?_eq_getElem h]
      simp [List.getD_eq_getElem?_getD, List.getElem?_eq_getElem h]
    · rw [List.getElem?_eq_none (by omega), List.getElem?_eq_none (by rw [List.length_range]; omega)]
      rfl
  have step : (cs.filter fun x => decide (0 < turn a b x)).length = (((List.range cs.length).map fun j => cs.getD j (0, 0)).filter fun x => decide (0 < turn a b x)).length := by rw [← em]
  rw [step, List.filter_map, List.length_map, ← range_two hi lb ne]
  congr 1
  refine List.filter_congr fun j hj => ?_
  have lj : j < cs.length := List.mem_range.mp hj
  obtain ⟨d, ed⟩ : ∃ d, cs[j]? = some d := ⟨_, List.getElem?_eq_getElem lj⟩
  have gd : cs.getD j (0, 0) = d := by rw [List.getD_eq_getElem?_getD, ed]; rfl
  show decide (0 < turn a b (cs.getD j (0, 0))) = _
  rw [gd]
  by_cases q1 : j = i
  · subst q1
    have : d = a := Option.some.inj (ed.symm.trans ea)
    subst this
    rw [Hull.turn_aba]
    simp
  · by_cases q2 : j = (i + 1) % cs.length
    · subst q2
      have : d = b := Option.some.inj (ed.symm.trans eb)
      subst this
      rw [Hull.turn_abb]
      simp
    · rw [decide_eq_true (O.left i j a b d hi lj ea eb ed q1 q2)]
      simp [q1, q2]
end Fen
set_option Elab.async false
set_option linter.all false
set_option maxRecDepth 100000
set_option maxHeartbeats 1000000
set_option exponentiation.threshold 20000
namespace Fen
open PySem PySem.Spec PyProof.Rows L2
def Cor (p : Hull.P) : Prop := -(10 : Int) ^ 30 ≤ p.1 ∧ p.1 ≤ 10 ^ 30 ∧ -(10 : Int) ^ 30 ≤ p.2 ∧ p.2 ≤ 10 ^ 30
theorem Cor.sm {p : Hull.P} (h : Cor p) : Sm p := by
  obtain ⟨a, b, c, d⟩ := h
  have e : (10 : Int) ^ 30 < 2 ^ 210 := by decide
  have e2 : ((2 : Int) ^ 210) = ((2 ^ 210 : Nat) : Int) := by decide
  unfold Sm
  generalize hL : (10 : Int) ^ 30 = L at *
  rw [e2] at e
  generalize (2 : Nat) ^ 210 = M at *
  omega
theorem Cor.sh {p : Hull.P} (h : Cor p) : Sh p := by
  obtain ⟨a, b, c, d⟩ := h
  have e : (10 : Int) ^ 30 = 1000000000000000000000000000000 := by decide
  have e2 : (10 : Nat) ^ 31 = 10000000000000000000000000000000 := by decide
  rw [e] at a b c d
  unfold Sh
  rw [e2]
  omega
/-- a fence: bottom, corners, open sides -/
structure IsF (b : Int) (cs : List Hull.P) (os : List Int) : Prop where
  b1 : 1 ≤ b
  b2 : b ≤ 30
  l1 : 1 ≤ cs.length
  l2 : cs.length ≤ 10
  co : ∀ p ∈ cs, Cor p
  sh : Shape cs
  up : os.Pairwise (· < ·)
  inn : ∀ o ∈ os, 0 ≤ o ∧ o < tot cs
theorem up_len : ∀ (os : List Int) (lo n : Int), os.Pairwise (· < ·) → (∀ o ∈ os, lo ≤ o ∧ o < n) → (os.length : Int) ≤ n - lo ∨ os = []
  | [], _, _, _, _ => .inr rfl
  | o :: os, lo, n, h, k => by
    left
    obtain ⟨h1, h2⟩ := List.pairwise_cons.mp h
    have ko := k o List.mem_cons_self
    rcases up_len os (o + 1) n h2 (fun x hx => ⟨h1 x hx, (k x (List.mem_cons_of_mem _ hx)).2⟩) with z | z
    · simp only [List.length_cons]
      omega
    · rw [z]
      simp
      omega
theorem IsF.few {b : Int} {cs : List Hull.P} {os : List Int} (f : IsF b cs os) : os.length ≤ 10 := by
  have t : tot cs ≤ 10 := by
    unfold tot
    have := f.l2
    split <;> omega
  rcases up_len os 0 (tot cs) f.up f.inn with z | z
  · omega
  · rw [z]
    simp
/-- the fence as it stands -/
structure FAt (K : PySem.W.Frag) (H : Hp) (t c o : Addr) (b : Int) (ks : Pts) (os : List Int) : Prop where
  tup : SqT K H t [.int b, .ref c, .ref o]
  cor : SqL K H c (refs ks)
  pts : At K H ks
  sid : SqL K H o (os.map V.int)
theorem FAt.same {K : PySem.W.Frag} {H H' : Hp} {t c o : Addr} {b : Int} {ks : Pts} {os : List Int} (f : FAt K H t c o b ks os) (s : Same H H') : FAt K H' t c o b ks os := ⟨s.seqT f.tup, s.seq f.cor, f.pts.same s, s.seq f.sid⟩
def fD (b : Int) (cs : List Hull.P) (os : List Int) : PyData := .tuple [.int b, ptsD cs, .list (os.map PyData.int)]
theorem dp_intl {K : PySem.W.Frag} {H : Hp} : ∀ ns : List Int, DpAll K H (ns.map V.int) (ns.map PyData.int)
  | [] => .nil
  | n :: r => .cons (.int n) (dp_intl r)
theorem FAt.dp {K : PySem.W.Frag} {H : Hp} {t c o : Addr} {b : Int} {ks : Pts} {os : List Int} (f : FAt K H t c o b ks os) : Dp K H (.ref t) (fD b (ks.map (·.2)) os) :=
  .tup f.tup (.cons (.int b) (.cons (dp_pts f.cor f.pts) (.cons (.lst f.sid (dp_intl os)) .nil)))
theorem ints_lay : ∀ l : List Int, PyData.canLayAll0 (l.map PyData.int) = true ∧ PyData.depthAll (l.map PyData.int) ≤ 1
  | [] => ⟨rfl, by decide⟩
  | b :: r => ⟨by simp [PyData.canLayAll0, PyData.canLay0, (ints_lay r).1], by have := (ints_lay r).2; simp only [List.map_cons, PyData.depthAll, PyData.depth]; omega⟩
theorem fD_lay (b : Int) (cs : List Hull.P) (os : List Int) : (fD b cs os).canLay0 = true ∧ (fD b cs os).depth ≤ 4 := by
  have h := pts_lay cs
  have g := ints_lay os
  refine ⟨?_, ?_⟩
  · simp only [fD, ptsD, PyData.canLay0, PyData.canLayAll0, h.1, g.1, Bool.true_and, Bool.and_true]
  · simp only [fD, ptsD, PyData.depth, PyData.depthAll]
    have := h.2
    have := g.2
    omega
theorem shaped_f (b : Int) (cs : List Hull.P) (os : List Int) : SeqAt.shaped (fD b cs os) = true := by
  unfold SeqAt.shaped
  rw [(fD_lay b cs os).1, Bool.true_and]
  exact decide_eq_true (by have := (fD_lay b cs os).2; omega)
theorem ints_show : ∀ {os : List Int}, (∀ o ∈ os, o.natAbs < 10 ^ 31) → PyData.showableAll (os.map PyData.int) = true ∧ PyData.hasDictAll (os.map PyData.int) = false ∧ ((PyData.shownAll (os.map PyData.int)).map (·.length)).sum + 2 * (PyData.shownAll (os.map PyData.int)).length ≤ 42 * os.length
  | [], _ => ⟨rfl, rfl, by simp [PyData.shownAll]⟩
  | p :: ps, h => by
    obtain ⟨a1, a2⟩ := int_show (h p List.mem_cons_self)
    obtain ⟨b1, b2, b3⟩ := ints_show fun q hq => h q (List.mem_cons_of_mem _ hq)
    refine ⟨by simp only [List.map_cons, PyData.showableAll, a1, b1, Bool.true_and], by simp [PyData.hasDictAll, PyData.hasDict, b2], ?_⟩
    simp only [List.map_cons, PyData.shownAll, List.sum_cons, List.length_cons]
    omega
/-- what repr asks of a fence -/
structure Rp (d : PyData) (n : Nat) : Prop where
  sh : d.showable = true
  nd : d.hasDict = false
  len : d.shown.length ≤ n
  dep : d.depth ≤ 5
theorem IsF.rp {b : Int} {cs : List Hull.P} {os : List Int} (f : IsF b cs os) : Rp (fD b cs os) 1500 := by
  have e31 : (10 : Nat) ^ 31 = 10000000000000000000000000000000 := by decide
  obtain ⟨a1, a2⟩ := int_show (i := b) (by have := f.b1; have := f.b2; omega)
  obtain ⟨b1, b2, b3⟩ := pts_show (ps := cs) fun p hp => (f.co p hp).sh
  have t10 : tot cs ≤ 10 := by
    unfold tot
    have := f.l2
    split <;> omega
  obtain ⟨c1, c2, c3⟩ := ints_show (os := os) fun o ho => by have := f.inn o ho; omega
  have few := f.few
  have l2 := f.l2
  refine ⟨by simp only [fD, ptsD, PyData.showable, PyData.showableAll, b1, c1, Bool.true_and, Bool.and_true]; simpa [PyData.showable] using a1, by simp [fD, ptsD, PyData.hasDict, PyData.hasDictAll, b2, c2], ?_, ?_⟩
  · have z1 := listText_len_le (PyData.shownAll (cs.map ptD))
    have z2 := tupleText_len_le (PyData.shownAll [.int b, ptsD cs, .list (os.map PyData.int)])
    have z3 := listText_len_le (PyData.shownAll (os.map PyData.int))
    have z4 : (PyData.shown (ptsD cs)).length ≤ 89 * cs.length + 3 := Nat.le_trans z1 (by omega)
    have z5 : (PyData.shown (.list (os.map PyData.int))).length ≤ 42 * os.length + 3 := Nat.le_trans z3 (by omega)
    refine Nat.le_trans z2 ?_
    simp only [PyData.shownAll, List.map_cons, List.map_nil, List.sum_cons, List.sum_nil, List.length_cons, List.length_nil]
    omega
  · exact Nat.le_trans (fD_lay b cs os).2 (by decide)
end Fen
set_option Elab.async false
set_option linter.all false
set_option maxRecDepth 100000
set_option maxHeartbeats 1000000
set_option exponentiation.threshold 20000
namespace K3
open PySem PySem.Spec PyProof.Rows L2 Fen
abbrev sNx : Stmt := topS 6
abbrev sLs : Stmt := topS 7
abbrev sOut : Stmt := topS 8
abbrev sCs : Stmt := topS 18
abbrev sTot : Stmt := topS 19
abbrev sSd : Stmt := topS 20
abbrev sChk : Stmt := topS 22
theorem scNx : FnScope ["corners", "side"] ["corners", "side"] (defScope sNx) := ⟨rfl, rfl, rfl, by decide +kernel, rfl, by decide +kernel, by decide +kernel⟩
abbrev nLs : List Str := ["corners", "side", "tail", "head", "left", "corner"]
theorem scLs : FnScope nLs ["corners", "side"] (defScope sLs) := ⟨rfl, rfl, rfl, by decide +kernel, rfl, by decide +kernel, by decide +kernel⟩
abbrev nOut : List Str := ["corners", "side"]
theorem scOut : FnScope nOut ["corners"] (defScope sOut) := ⟨rfl, rfl, rfl, by decide +kernel, rfl, by decide +kernel, by decide +kernel⟩
abbrev nCs : List Str := ["value", "corner"]
theorem scCs : FnScope nCs ["value"] (defScope sCs) := ⟨rfl, rfl, rfl, by decide +kernel, rfl, by decide +kernel, by decide +kernel⟩
theorem scTot : FnScope ["corners"] ["corners"] (defScope sTot) := ⟨rfl, rfl, rfl, by decide +kernel, rfl, by decide +kernel, by decide +kernel⟩
theorem scSd : FnScope ["value", "total", "least", "side"] ["value", "total"] (defScope sSd) := ⟨rfl, rfl, rfl, by decide +kernel, rfl, by decide +kernel, by decide +kernel⟩
theorem scChk : FnScope ["value", "bottom", "corners", "sides"] ["value"] (defScope sChk) := ⟨rfl, rfl, rfl, by decide +kernel, rfl, by decide +kernel, by decide +kernel⟩
section
variable {P : Program} {w : World} {K : PySem.W.Frag} {mg : Str → Option Value} {base : Heap}
structure Nm2 (mg : Str → Option Value) : Prop where
  mmin : mg "min" = none
  mmax : mg "max" = none
  mzip : mg "zip" = none
  mall : mg "all" = none
  mrange : mg "range" = none
  mabs : mg "abs" = none
  msum : mg "sum" = none
  mrepr : mg "repr" = none
  msorted : mg "sorted" = none
def spNx (K : PySem.W.Frag) : Sp := fun vs H Q _ => ∃ (c : Addr) (ks : Pts) (i : Nat) (p : Addr × Hull.P), vs = [.ref c, .int i] ∧ SqL K H c (refs ks) ∧ ks[(i + 1) % ks.length]? = some p ∧ Q (.ref p.1) H
theorem ok_nx {f : Addr} {fd : FuncData} {k : Nat} (F : Fun K "next_corner" "next_corner" sNx f fd) (T : Nms mg) : FnOk P w K mg base CX0 (k + 1) f fd ["corners", "side"] (spNx K) := by
  refine F.ok scNx (fun vs H Q E h => ?_) (fun cdv A outer s H vs Q E hr h => ?_)
  · obtain ⟨c, ks, i, p, rfl, _⟩ := h
    rfl
  · obtain ⟨c, ks, i, p, rfl, hS, hp, q⟩ := h
    have l1 : 0 < ks.length := by
      have := (List.getElem?_eq_some_iff.mp hp).1
      omega
    refine ⟨_, pss_one (ps_ret (pe_ix ix_list (pv 0) (pe_op op_mod (pe_op op_add (pv 1) pe_int) (pe_callB call_len_seq (by rfl) T.mlen PySem.boot_len (pa_cons (pv 0) pa_nil))) (fun _ _ => rfl))), ?_⟩
    refine ⟨.ref c, rfl, _, rfl, _, _, rfl, rfl, .ref c, rfl, c, _, rfl, .inl hS, _, _, rfl, rfl, ?_, c, _, (((i + 1) % ks.length : Nat) : Int), .ref p.1, rfl, ?_, hS, atI_nat (refs_at hp), q⟩
    · rw [refs_len]
      omega
    · rw [refs_len]
      show V.int _ = V.int _
      congr 1
def spLs (K : PySem.W.Frag) : Sp := fun vs H Q _ => ∃ (c : Addr) (ks : Pts) (i : Nat), vs = [.ref c, .int i] ∧ SqL K H c (refs ks) ∧ At K H ks ∧ (∀ p ∈ ks, Sm p.2) ∧ 3 ≤ ks.length ∧ ks.length ≤ 10 ∧ Out (ks.map (·.2)) ∧ i < ks.length ∧ ∀ H', Same H H' → Q (.bl true) H'
theorem ok_ls {f fT fN : Addr} {fd fdT fdN : FuncData} {k : Nat} (F : Fun K "is_left_of_side" "is_left_of_side" sLs f fd) (FT : Fun K "turn" "turn" sTurnP fT fdT) (bT : Binds K fdT ["one", "two", "three"] []) (gT : mg "turn" = some (.ref fT))
    (FN : Fun K "next_corner" "next_corner" sNx fN fdN) (bN : Binds K fdN ["corners", "side"] []) (gN : mg "next_corner" = some (.ref fN)) (T : Nms mg) : FnOk P w K mg base CX0 (k + 1 + 1) f fd ["corners", "side"] (spLs K) := by
  have OT : FnOk P w K mg base CX0 1 fT fdT ["one", "two", "three"] (spTurn K) := ok_TurnP FT
  have ON : FnOk P w K mg base CX0 1 fN fdN ["corners", "side"] (spNx K) := ok_nx FN T
  refine F.ok scLs (fun vs H Q E h => ?_) (fun cdv A outer s H vs Q E hr h => ?_)
  · obtain ⟨c, ks, i, rfl, _⟩ := h
    rfl
  · obtain ⟨c, ks, i, rfl, hS, hT, small, l3, l10, O, hi, q⟩ := h
    have h1 : Room 1 (A.deeper (envOfC "is_left_of_side" (defScope sLs) s.heap.objs.size f cdv)) := hr.mono (by omega)
    refine ⟨_, pss_cons (ps_asg (pe_tup (pa_cons (pe_ix ix_list (pv 0) (pv 1) (fun _ _ => rfl)) (pa_cons (pe_call ON h1 (by rfl) gN FN.kp bN .nil pass0 (pa_cons (pv 0) (pa_cons (pv 1) pa_nil))) pa_nil))) (pg_tup rfl (pgs_cons (pg_name (i := 2) scLs.nd rfl (.inr rfl)) (pgs_cons (pg_name (i := 3) scLs.nd rfl (.inr rfl)) pgs_nil))))
      (pss_cons (ps_setLc (i := 4) (own := [("corner", 5)]) (g := gName 5) (tt := _) rfl scLs.nd rfl rfl (sw_true rfl rfl rfl (by decide +kernel)) (pi_list (pv 0)) (blkOk_by (N := nLs) (sc := defScope sLs) (by decide +kernel)) (fun _ _ _ _ _ => pg_name (i := 5) scLs.nd rfl (Or.inl rfl))
          (fun _ _ _ _ _ => pts_one (pt_cmpR op_gt (pe_call OT h1 (by rfl) gT FT.kp bT .nil pass0 (pa_cons (pv 2) (pa_cons (pv 3) (pa_cons (pv 5) pa_nil)))) pe_int (nomark _))) (fun _ _ _ _ _ => pv 5))
      (pss_one (ps_ret (pe_cmpR op_eq (pe_callB call_len_seq (by rfl) T.mlen PySem.boot_len (pa_cons (pv 4) pa_nil)) (pe_op op_sub (pe_callB call_len_seq (by rfl) T.mlen PySem.boot_len (pa_cons (pv 0) pa_nil)) pe_int) (nomark _))))), ?_⟩
    have lb : (i + 1) % ks.length < ks.length := Nat.mod_lt _ (by omega)
    obtain ⟨p, hp⟩ : ∃ p, ks[i]? = some p := ⟨_, List.getElem?_eq_getElem hi⟩
    obtain ⟨r, hr2⟩ : ∃ r, ks[(i + 1) % ks.length]? = some r := ⟨_, List.getElem?_eq_getElem lb⟩
    have mp := List.mem_of_getElem? hp
    have mr := List.mem_of_getElem? hr2
    refine ⟨.ref c, rfl, _, rfl, c, _, (i : Int), .ref p.1, rfl, rfl, hS, atI_nat (refs_at hp), .ref c, rfl, _, rfl, c, ks, i, r, rfl, hS, hr2, by show 2 ≤ sizeLine; decide, fun t nt => ?_⟩
    have s1 : Same H (upd H t (.tup [.ref p.1, .ref r.1])) := same_new nt
    refine ⟨t, _, rfl, SqT.of upd_same, rfl, .ref p.1, [.ref r.1], rfl, .ref r.1, [], rfl, rfl, ?_⟩
    generalize upd H t (.tup [.ref p.1, .ref r.1]) = H1 at s1 ⊢
    refine ⟨.ref c, rfl, c, rfl, ⟨_, s1.seq hS⟩, fun D nD => ?_⟩
    refine lc_list (K := K) (a := c) (xs := refs ks) (fun j H' => Same H1 H' ∧ H' D = some (.lst (refs ((ks.take j).filter fun x => decide (0 < Hull.turn p.2 r.2 x.2))))) ⟨same_new nD, upd_same⟩ (fun j H' _ z => (s1.trans z.1).seq hS) (fun j v H' hv z => ?_) fun H2 z => ?_
    · obtain ⟨x, hx, rfl⟩ := refs_get hv
      have mx := List.mem_of_getElem? hx
      have sz := s1.trans z.1
      have Tz := hT.same sz
      refine ⟨rfl, .ref p.1, rfl, .ref r.1, rfl, .ref x.1, rfl, p.1, r.1, x.1, p.2, r.2, x.2, rfl, Tz p mp, Tz r mr, Tz x mx, small p mp, small r mr, small x mx, _, _, rfl, rfl, _, rfl, ite2 (fun d => ?_) (fun d => ?_)⟩
      · have d1 : 0 < Hull.turn p.2 r.2 x.2 := of_decide_eq_true d
        refine ⟨_, rfl, _, z.2, ?_, ?_, ?_⟩
        · rw [refs_len]
          have := List.length_filter_le (fun x : Addr × Hull.P => decide (0 < Hull.turn p.2 r.2 x.2)) (ks.take j)
          have h2 : (ks.take j).length ≤ ks.length := by rw [List.length_take]; omega
          exact Nat.lt_of_lt_of_le (show _ < 11 by omega) (by decide)
        · exact fun b o e => by
            have nb : b ≠ D := fun y => by rw [y, nD] at e; cases e
            rw [upd_ne nb]
            exact z.1 b o e
        · rw [upd_same, take_succ_at hx, List.filter_append]
          simp [refs, d1]
      · have d1 : ¬ 0 < Hull.turn p.2 r.2 x.2 := fun y => d (decide_eq_true y)
        refine ⟨z.1, ?_⟩
        rw [z.2, take_succ_at hx, List.filter_append]
        simp [d1]
    · obtain ⟨s2', hD⟩ := z
      have s2 := s1.trans s2'
      rw [refs_len, List.take_length] at hD
      have cnt := left_count (cs := ks.map (·.2)) (by rw [List.length_map]; exact l3) O (i := i) (a := p.2) (b := r.2) (by rw [List.length_map]; exact hi) (by rw [List.getElem?_map, hp]; rfl) (by rw [List.length_map, List.getElem?_map, hr2]; rfl)
      rw [List.filter_map, List.length_map, List.length_map] at cnt
      have lf : (refs (ks.filter fun x => decide (0 < Hull.turn p.2 r.2 x.2))).length = ks.length - 2 := by
        rw [refs_len]
        exact cnt
      refine ⟨_, rfl, D, _, rfl, .inl (SqL.of hD), .ref c, rfl, c, _, rfl, .inl (s2.seq hS), _, _, rfl, rfl, rfl, ?_⟩
      rw [lf, refs_len, decide_eq_true (show V.int ((ks.length - 2 : Nat) : Int) = V.int ((ks.length : Int) - 2) from by congr 1; omega)]
      exact q _ s2
def spOut (K : PySem.W.Frag) : Sp := fun vs H Q _ => ∃ (c : Addr) (ks : Pts), vs = [.ref c] ∧ SqL K H c (refs ks) ∧ At K H ks ∧ (∀ p ∈ ks, Sm p.2) ∧ 3 ≤ ks.length ∧ ks.length ≤ 10 ∧ Out (ks.map (·.2)) ∧ ∀ H', Same H H' → Q (.bl true) H'
theorem ok_out {f fL : Addr} {fd fdL : FuncData} {k : Nat} (F : Fun K "is_outline" "is_outline" sOut f fd) (OL : FnOk P w K mg base CX0 (k + 1) fL fdL ["corners", "side"] (spLs K)) (kL : PySem.W.keepIn K (.ref fL) = true) (bL : Binds K fdL ["corners", "side"] []) (gL : mg "is_left_of_side" = some (.ref fL)) (T : Nms mg) (T2 : Nm2 mg) :
    FnOk P w K mg base CX0 (k + 1 + 1) f fd ["corners"] (spOut K) := by
  refine F.ok scOut (fun vs H Q E h => ?_) (fun cdv A outer s H vs Q E hr h => ?_)
  · obtain ⟨c, ks, rfl, _⟩ := h
    rfl
  · obtain ⟨c, ks, rfl, hS, hT, small, l3, l10, O, q⟩ := h
    have hu8 : (A.deeper (envOfC "is_outline" (defScope sOut) s.heap.objs.size f cdv)).units + 8 < cLine := by have := hr.un; omega
    refine ⟨_, pss_cons (ps_if (pt_cmpR (op_neD (hu_of64 hr)) (pe_callB (cr_minP rfl hu8) (by rfl) T2.mmin (by decide +kernel) (pa_cons (pv 0) pa_nil)) (pe_ix ix_list (pv 0) pe_int (fun _ _ => rfl)) (nomark _)) (pss_one (ps_ret pe_bl)) pss_nil)
      (pss_one (ps_ret (pe_callB (cr_all rfl) (by rfl) T2.mall (by decide +kernel) (pa_cons (pe_lc (own := [("side", 1)]) (g := gName 1) (tt := tYes) rfl scOut.nd (pi_range1 rfl T2.mrange (pa_cons (pe_callB call_len_seq (by rfl) T.mlen PySem.boot_len (pa_cons (pv 0) pa_nil)) pa_nil)) (blkOk_by (N := nOut) (sc := defScope sOut) (by decide +kernel)) (fun _ _ _ _ _ => pg_name (i := 1) scOut.nd rfl (Or.inl rfl)) (fun _ _ _ _ _ => pts_nil)
          (fun _ _ _ _ _ => pe_call OL hr (by rfl) gL kL bL .nil pass0 (pa_cons (pv 0) (pa_cons (pv 1) pa_nil)))) pa_nil)))), ?_⟩
    obtain ⟨⟨m, e0, least⟩, _⟩ := id O
    obtain ⟨p0, hp0, em⟩ : ∃ p, ks[0]? = some p ∧ p.2 = m := by
      rw [List.getElem?_map] at e0
      exact Option.map_eq_some_iff.mp e0
    have m0 := List.mem_of_getElem? hp0
    refine ⟨.ref c, rfl, c, ks, rfl, hS, hT, fun z => by rw [z] at l3; simp at l3, fun p hp hb => ?_⟩
    have ep : p.2 = p0.2 := by
      rw [em]
      refine Classical.byContradiction fun n => ?_
      have z := least p.2 (List.mem_map.mpr ⟨p, hp, rfl⟩) n
      have y := hb p0 m0
      rw [em, lexO_iff.mpr z] at y
      cases y
    refine ⟨.ref c, rfl, c, _, 0, .ref p0.1, rfl, rfl, hS, atI_nat (j := 0) (refs_at hp0), ptD p.2, ptD p0.2, dp_pt (hT p hp), dp_pt (hT p0 m0), shaped_pt _, shaped_pt _, _, rfl, ?_⟩
    rw [ep, eqv_self (shaped_pt _)]
    refine iteF ?_
    refine ⟨.ref c, rfl, c, _, rfl, .inl hS, _, rfl, by rw [refs_len]; omega, by rw [refs_len]; omega, fun D nD => ?_⟩
    refine lc_range (lo := 0) (n := ((refs ks).length : Int).toNat) (fun j H' => Same H H' ∧ H' D = some (.lst ((List.replicate j true).map V.bl))) ⟨same_new nD, upd_same⟩ ?_ ?_
    · rintro j H' hj ⟨sz, hD⟩
      have hj2 : j < ks.length := by rw [refs_len] at hj; omega
      refine ⟨rfl, yesT ?_⟩
      refine ⟨.ref c, rfl, _, rfl, c, ks, j, by simp, sz.seq hS, hT.same sz, small, l3, l10, O, hj2, fun H'' s'' => ?_⟩
      refine ⟨_, s'' _ _ hD, by simp; exact Nat.lt_of_lt_of_le (show j < 11 by omega) (by decide), fun b o e => ?_, ?_⟩
      · have nb : b ≠ D := fun y => by rw [y, nD] at e; cases e
        rw [upd_ne nb]
        exact (sz.trans s'') b o e
      · rw [upd_same, List.replicate_succ', List.map_append]
        rfl
    · rintro H' ⟨sz, hD⟩
      refine ⟨D, List.replicate _ true, rfl, SqL.of hD, ?_⟩
      rw [show (List.replicate ((refs ks).length : Int).toNat true).all id = true by simp]
      exact q _ sz
end
end K3
set_option Elab.async false
set_option linter.all false
set_option maxRecDepth 100000
set_option maxHeartbeats 1000000
set_option exponentiation.threshold 20000
namespace K3
open PySem PySem.Spec PyProof.Rows L2 Fen
section
variable {P : Program} {w : World} {K : PySem.W.Frag} {mg : Str → Option Value} {base : Heap}
def spCs (K : PySem.W.Frag) : Sp := fun vs H Q _ => ∃ (c : Addr) (ks : Pts), vs = [.ref c] ∧ SqL K H c (refs ks) ∧ At K H ks ∧ (∀ p ∈ ks, Cor p.2) ∧ 1 ≤ ks.length ∧ ks.length ≤ 10 ∧ Shape (ks.map (·.2)) ∧ ∀ H', Same H H' → Q (.bl true) H'
theorem ok_cs {f fC fO : Addr} {fd fdC fdO : FuncData} {k : Nat} (F : Fun K "are_corners" "are_corners" sCs f fd) (OC : FnOk P w K mg base CX0 (k + 1) fC fdC ["value"] (spIsC K)) (kC : PySem.W.keepIn K (.ref fC) = true) (bC : Binds K fdC ["value"] []) (gC : mg "is_corner" = some (.ref fC))
    (OO : FnOk P w K mg base CX0 (k + 1) fO fdO ["corners"] (spOut K)) (kO : PySem.W.keepIn K (.ref fO) = true) (bO : Binds K fdO ["corners"] []) (gO : mg "is_outline" = some (.ref fO)) (T : Nms mg) (T2 : Nm2 mg) : FnOk P w K mg base CX0 (k + 1 + 1) f fd ["value"] (spCs K) := by
  obtain ⟨t, mc⟩ := T.mc
  refine F.ok scCs (fun vs H Q E h => ?_) (fun cdv A outer s H vs Q E hr h => ?_)
  · obtain ⟨c, ks, rfl, _⟩ := h
    rfl
  · obtain ⟨c, ks, rfl, hS, hT, co, l1, l2, S, q⟩ := h
    have hu : (A.deeper (envOfC "are_corners" (defScope sCs) s.heap.objs.size f cdv)).units < cLine := by have := hr.un; omega
    refine ⟨_, pss_cons (ps_if (PW.pt (pw_or (pt_not (pt_val (pe_callB call_isi (by rfl) T.mii (by decide +kernel) (pa_cons (pv 0) (pa_cons (pe_bltn (v := .ty "list") (by rfl) T.mlst (by decide +kernel) rfl) pa_nil)))))
        (pw_or1 (pt_not (pt_chain op_le op_le pe_int (pe_callB call_len_seq (by rfl) T.mlen PySem.boot_len (pa_cons (pv 0) pa_nil)) (pe_glob (v := .int 10) (by rfl) mc ⟨_, rfl⟩)))))) (pss_one (ps_ret pe_bl)) pss_nil)
      (pss_cons (ps_if (pt_not (pt_val (pe_callB (cr_all rfl) (by rfl) T2.mall (by decide +kernel) (pa_cons (pe_lc (own := [("corner", 1)]) (g := gName 1) (tt := tYes) rfl scCs.nd (pi_list (pv 0)) (blkOk_by (N := nCs) (sc := defScope sCs) (by decide +kernel)) (fun _ _ _ _ _ => pg_name (i := 1) scCs.nd rfl (Or.inl rfl)) (fun _ _ _ _ _ => pts_nil)
          (fun _ _ _ _ _ => pe_call OC hr (by rfl) gC kC bC .nil pass0 (pa_cons (pv 1) pa_nil))) pa_nil)))) (pss_one (ps_ret pe_bl)) pss_nil)
      (pss_cons (ps_if (pt_cmpR op_eq (pe_callB call_len_seq (by rfl) T.mlen PySem.boot_len (pa_cons (pv 0) pa_nil)) pe_int (nomark _)) (pss_one (ps_ret pe_bl)) pss_nil)
      (pss_cons (ps_if (pt_cmpR op_eq (pe_callB call_len_seq (by rfl) T.mlen PySem.boot_len (pa_cons (pv 0) pa_nil)) pe_int (nomark _)) (pss_one (ps_ret (pe_cmpR (op_ltT hu) (pe_ix ix_list (pv 0) pe_int (fun _ _ => rfl)) (pe_ix ix_list (pv 0) pe_int (fun _ _ => rfl)) (nomark _)))) pss_nil)
      (pss_one (ps_ret (pe_call OO hr (by rfl) gO kO bO .nil pass0 (pa_cons (pv 0) pa_nil))))))), ?_⟩
    refine ⟨_, rfl, .ref c, .ty "list", .type "list", .type "list", true, rfl, .ty _, ty_lst hS, kit_ll, true, rfl, ?_⟩
    refine iteF ?_
    refine ⟨.ref c, rfl, c, _, rfl, .inl hS, _, _, rfl, rfl, _, rfl, ?_⟩
    rw [refs_len, if_pos (decide_eq_true (show (1 : Int) ≤ (ks.length : Int) by omega))]
    refine ⟨_, _, rfl, rfl, _, rfl, ?_⟩
    rw [decide_eq_true (show (ks.length : Int) ≤ 10 by omega)]
    refine iteF ?_
    refine ⟨.ref c, rfl, c, rfl, ⟨_, hS⟩, fun D nD => ?_⟩
    refine lc_list (K := K) (a := c) (xs := refs ks) (fun j H' => Same H H' ∧ H' D = some (.lst ((List.replicate j true).map V.bl))) ⟨same_new nD, upd_same⟩ (fun j H' _ z => z.1.seq hS) (fun j v H' hv z => ?_) fun H1 z => ?_
    · obtain ⟨x, hx, rfl⟩ := refs_get hv
      have mx := List.mem_of_getElem? hx
      have jl : j < ks.length := (List.getElem?_eq_some_iff.mp hx).1
      obtain ⟨sz, hD⟩ := z
      refine ⟨rfl, yesT ?_⟩
      refine ⟨.ref x.1, rfl, x.1, x.2, rfl, (hT.same sz) x mx, co x mx, _, hD, by simp; exact Nat.lt_of_lt_of_le (show j < 11 by omega) (by decide), fun b o e => ?_, ?_⟩
      · have nb : b ≠ D := fun y => by rw [y, nD] at e; cases e
        rw [upd_ne nb]
        exact sz b o e
      · rw [upd_same, List.replicate_succ', List.map_append]
        rfl
    obtain ⟨s1, hD⟩ := z
    refine ⟨D, List.replicate _ true, rfl, SqL.of hD, _, rfl, ?_⟩
    rw [show (List.replicate (refs ks).length true).all id = true by simp]
    refine iteF ?_
    have hS1 := s1.seq hS
    have hT1 := hT.same s1
    refine ⟨.ref c, rfl, c, _, rfl, .inl hS1, rfl, _, rfl, ite2 (fun d => ?_) (fun d => ?_)⟩
    · exact q _ s1
    rw [refs_len] at d
    have d1 : ks.length ≠ 1 := fun z => d (decide_eq_true (by rw [z]; rfl))
    refine ⟨.ref c, rfl, c, _, rfl, .inl hS1, rfl, _, rfl, ite2 (fun e => ?_) (fun e => ?_)⟩
    · rw [refs_len] at e
      have e1 : (ks.length : Int) = 2 := V.int.inj (of_decide_eq_true e)
      obtain ⟨x, y, rfl⟩ : ∃ x y, ks = [x, y] := by
        rcases ks with _ | ⟨x, _ | ⟨y, _ | ⟨z, r⟩⟩⟩
        · simp at e1
        · simp at e1
        · exact ⟨x, y, rfl⟩
        · simp at e1
          omega
      have lt : Hull.Lt x.2 y.2 := by
        rcases S with z | ⟨a, b, z, lt⟩ | ⟨z, _⟩
        · simp at z
        · have z1 := (List.cons.inj z)
          have z2 := List.cons.inj z1.2
          have q1 : x.2 = a := z1.1
          have q2 : y.2 = b := z2.1
          rw [q1, q2]
          exact lt
        · simp at z
      refine ⟨.ref c, rfl, c, _, 0, .ref x.1, rfl, rfl, hS1, atI_nat (j := 0) rfl, .ref c, rfl, c, _, 1, .ref y.1, rfl, rfl, hS1, atI_nat (j := 1) rfl, x.1, y.1, [x.2.1, x.2.2], [y.2.1, y.2.2], rfl, rfl, hT1 x (by simp), hT1 y (by simp), ?_⟩
      rw [lexLt2, lexO_iff.mpr lt]
      exact q _ s1
    · rw [refs_len] at e
      have e1 : ks.length ≠ 2 := fun z => e (decide_eq_true (by rw [z]; rfl))
      have l3 : 3 ≤ ks.length := by omega
      have O : Out (ks.map (·.2)) := by
        rcases S with z | ⟨a, b, z, lt⟩ | ⟨_, O⟩
        · rw [List.length_map] at z
          omega
        · have := congrArg List.length z
          rw [List.length_map] at this
          simp at this
          omega
        · exact O
      exact ⟨.ref c, rfl, c, ks, rfl, hS1, hT1, fun p hp => (co p hp).sm, l3, l2, O, fun H' s' => q _ (s1.trans s')⟩
def spTot (K : PySem.W.Frag) : Sp := fun vs H Q _ => ∃ (c : Addr) (ks : Pts), vs = [.ref c] ∧ SqL K H c (refs ks) ∧ Q (.int (tot (ks.map (·.2)))) H
theorem ok_tot {f : Addr} {fd : FuncData} {k : Nat} (F : Fun K "side_total" "side_total" sTot f fd) (T : Nms mg) : FnOk P w K mg base CX0 (k + 1) f fd ["corners"] (spTot K) := by
  refine F.ok scTot (fun vs H Q E h => ?_) (fun cdv A outer s H vs Q E hr h => ?_)
  · obtain ⟨c, ks, rfl, _⟩ := h
    rfl
  · obtain ⟨c, ks, rfl, hS, q⟩ := h
    refine ⟨_, pss_cons (ps_if (pt_cmpR op_eq (pe_callB call_len_seq (by rfl) T.mlen PySem.boot_len (pa_cons (pv 0) pa_nil)) pe_int (nomark _)) (pss_one (ps_ret pe_int)) pss_nil)
      (pss_one (ps_ret (pe_callB call_len_seq (by rfl) T.mlen PySem.boot_len (pa_cons (pv 0) pa_nil)))), ?_⟩
    unfold tot at q
    rw [List.length_map] at q
    refine ⟨.ref c, rfl, c, _, rfl, .inl hS, rfl, _, rfl, ite2 (fun d => ?_) (fun d => ?_)⟩
    · rw [refs_len] at d
      have d1 : (ks.length : Int) = 1 := V.int.inj (of_decide_eq_true d)
      rw [if_pos (by omega)] at q
      exact q
    · rw [refs_len] at d
      have d1 : ks.length ≠ 1 := fun z => d (decide_eq_true (by rw [z]; rfl))
      rw [if_neg d1] at q
      refine ⟨.ref c, rfl, c, _, rfl, .inl hS, ?_⟩
      rw [refs_len]
      exact q
def spSd (K : PySem.W.Frag) : Sp := fun vs H Q _ => ∃ (o : Addr) (os : List Int) (n : Int), vs = [.ref o, .int n] ∧ SqL K H o (os.map V.int) ∧ os.Pairwise (· < ·) ∧ (∀ x ∈ os, 0 ≤ x ∧ x < n) ∧ Q (.bl true) H
theorem ok_sd {f fB : Addr} {fd fdB : FuncData} {k : Nat} (F : Fun K "are_open_sides" "are_open_sides" sSd f fd) (OB : FnOk P w K mg base CX0 (k + 1) fB fdB ["value", "least", "greatest"] spBet) (kB : PySem.W.keepIn K (.ref fB) = true) (bB : Binds K fdB ["value", "least", "greatest"] []) (gB : mg "is_between" = some (.ref fB)) (T : Nms mg) : FnOk P w K mg base CX0 (k + 1 + 1) f fd ["value", "total"] (spSd K) := by
  refine F.ok scSd (fun vs H Q E h => ?_) (fun cdv A outer s H vs Q E hr h => ?_)
  · obtain ⟨o, os, n, rfl, _⟩ := h
    rfl
  · obtain ⟨o, os, n, rfl, hS, up, inn, q⟩ := h
    refine ⟨_, pss_cons (ps_if (pt_not (pt_val (pe_callB call_isi (by rfl) T.mii (by decide +kernel) (pa_cons (pv 0) (pa_cons (pe_bltn (v := .ty "list") (by rfl) T.mlst (by decide +kernel) rfl) pa_nil))))) (pss_one (ps_ret pe_bl)) pss_nil)
      (pss_cons (ps_set (i := 2) scSd.nd rfl (.inl rfl) pe_int)
      (pss_cons (ps_for PassesOwn.never rfl (pi_list (pv 0)) (pg_name (i := 3) scSd.nd rfl (.inl rfl))
        (pss_cons (ps_if (pt_not (pt_val (pe_call OB hr (by rfl) gB kB bB .nil pass0 (pa_cons (pv 3) (pa_cons (pv 2) (pa_cons (pe_op op_sub (pv 1) pe_int) pa_nil)))))) (pss_one (ps_ret pe_bl)) pss_nil)
        (pss_one (ps_set (i := 2) scSd.nd rfl (.inl rfl) (pe_op op_add (pv 3) pe_int)))))
      (pss_one (ps_ret pe_bl)))), ?_⟩
    refine ⟨_, rfl, .ref o, .ty "list", .type "list", .type "list", true, rfl, .ty _, ty_lst hS, kit_ll, true, rfl, ?_⟩
    refine iteF ?_
    refine ⟨.ref o, rfl, o, rfl, ⟨_, hS⟩, ?_⟩
    refine for_list (K := K) (a := o) (xs := os.map V.int) (fun i σ H' => ∃ (least : Int) (y3 : Option V), σ = [some (.ref o), some (.int n), some (.int least), y3] ∧ H' = H ∧ ∀ x ∈ os.drop i, least ≤ x) ⟨0, none, rfl, rfl, fun x hx => (inn x (List.mem_of_mem_drop hx)).1⟩ ?_ ?_ ?_
    · rintro i σ H' _ ⟨_, _, _, rfl, _⟩
      exact hS
    · rintro i v σ H' hv ⟨least, y3, rfl, rfl, lo⟩
      rw [List.getElem?_map] at hv
      obtain ⟨x, hx, rfl⟩ := Option.map_eq_some_iff.mp hv
      have il : i < os.length := (List.getElem?_eq_some_iff.mp hx).1
      have ed : os.drop i = x :: os.drop (i + 1) := by
        rw [List.drop_eq_getElem_cons il, show os[i] = x from Option.some.inj ((List.getElem?_eq_getElem il).symm.trans hx)]
      have mx := List.mem_of_getElem? hx
      have upd' : (x :: os.drop (i + 1)).Pairwise (· < ·) := by
        rw [← ed]
        exact List.Pairwise.sublist (List.drop_sublist i os) up
      refine ⟨_, rfl, _, rfl, _, rfl, _, _, rfl, rfl, x, least, n - 1, rfl, lo x (by rw [ed]; exact List.mem_cons_self), by have := (inn x mx).2; omega, true, rfl, ?_⟩
      refine iteF ?_
      refine ⟨_, rfl, _, _, rfl, rfl, x + 1, _, rfl, rfl, fun y hy => ?_⟩
      have := (List.pairwise_cons.mp upd').1 y hy
      omega
    · rintro σ H' ⟨least, y3, rfl, rfl, lo⟩
      exact q
def spChk (K : PySem.W.Frag) : Sp := fun vs H Q _ => ∃ (t c o : Addr) (b : Int) (ks : Pts) (os : List Int), vs = [.ref t] ∧ FAt K H t c o b ks os ∧ IsF b (ks.map (·.2)) os ∧ ∀ H', Same H H' → Q .non H'
theorem ok_chk {f fB fC fT fS : Addr} {fd fdB fdC fdT fdS : FuncData} {k : Nat} (F : Fun K "check_fence" "check_fence" sChk f fd) (T : Nms mg)
    (OB : FnOk P w K mg base CX0 (k + 1) fB fdB ["value"] spChB) (kB : PySem.W.keepIn K (.ref fB) = true) (bB : Binds K fdB ["value"] []) (gB : mg "check_bottom" = some (.ref fB))
    (OC : FnOk P w K mg base CX0 (k + 1) fC fdC ["value"] (spCs K)) (kC : PySem.W.keepIn K (.ref fC) = true) (bC : Binds K fdC ["value"] []) (gC : mg "are_corners" = some (.ref fC))
    (OT : FnOk P w K mg base CX0 (k + 1) fT fdT ["corners"] (spTot K)) (kT : PySem.W.keepIn K (.ref fT) = true) (bT : Binds K fdT ["corners"] []) (gT : mg "side_total" = some (.ref fT))
    (OS : FnOk P w K mg base CX0 (k + 1) fS fdS ["value", "total"] (spSd K)) (kS : PySem.W.keepIn K (.ref fS) = true) (bS : Binds K fdS ["value", "total"] []) (gS : mg "are_open_sides" = some (.ref fS)) :
    FnOk P w K mg base CX0 (k + 1 + 1) f fd ["value"] (spChk K) := by
  refine F.ok scChk (fun vs H Q E h => ?_) (fun cdv A outer s H vs Q E hr h => ?_)
  · obtain ⟨t, c, o, b, ks, os, rfl, _⟩ := h
    rfl
  · obtain ⟨t, c, o, b, ks, os, rfl, fa, isf, q⟩ := h
    refine ⟨_, pss_cons (ps_if (PW.pt (pw_or (pt_not (pt_val (pe_callB call_isi (by rfl) T.mii (by decide +kernel) (pa_cons (pv 0) (pa_cons (pe_bltn (v := .ty "tuple") (by rfl) T.mtup (by decide +kernel) rfl) pa_nil)))))
        (pw_or1 (pt_cmpR op_ne (pe_callB call_len_seq (by rfl) T.mlen PySem.boot_len (pa_cons (pv 0) pa_nil)) pe_int (nomark _))))) (pss_one ps_no) pss_nil)
      (pss_cons (ps_asg (pv 0) (pg_tup rfl (pgs_cons (pg_name (i := 1) scChk.nd rfl (.inl rfl)) (pgs_cons (pg_name (i := 2) scChk.nd rfl (.inl rfl)) (pgs_cons (pg_name (i := 3) scChk.nd rfl (.inl rfl)) pgs_nil)))))
      (pss_cons (ps_expr (pe_call OB hr (by rfl) gB kB bB .nil pass0 (pa_cons (pv 1) pa_nil)))
      (pss_cons (ps_if (pt_not (pt_val (pe_call OC hr (by rfl) gC kC bC .nil pass0 (pa_cons (pv 2) pa_nil)))) (pss_one ps_no) pss_nil)
      (pss_one (ps_if (pt_not (pt_val (pe_call OS hr (by rfl) gS kS bS .nil pass0 (pa_cons (pv 3) (pa_cons (pe_call OT hr (by rfl) gT kT bT .nil pass0 (pa_cons (pv 2) pa_nil)) pa_nil))))) (pss_one ps_no) pss_nil))))), ?_⟩
    refine ⟨_, rfl, .ref t, .ty "tuple", .type "tuple", .type "tuple", true, rfl, .ty _, ty_tup fa.tup, kit_tt, true, rfl, ?_⟩
    refine iteF ?_
    refine ⟨.ref t, rfl, t, _, rfl, .inr fa.tup, rfl, false, rfl, iteF ?_⟩
    refine ⟨.ref t, rfl, t, _, rfl, fa.tup, rfl, .int b, [.ref c, .ref o], rfl, .ref c, [.ref o], rfl, .ref o, [], rfl, rfl, ?_⟩
    refine ⟨_, rfl, b, rfl, isf.b1, isf.b2, ?_⟩
    have ll : (ks.map (·.2)).length = ks.length := List.length_map ..
    refine ⟨.ref c, rfl, c, ks, rfl, fa.cor, fa.pts, fun p hp => isf.co _ (List.mem_map.mpr ⟨p, hp, rfl⟩), by rw [← ll]; exact isf.l1, by rw [← ll]; exact isf.l2, isf.sh, fun H1 s1 => ⟨true, rfl, iteF ?_⟩⟩
    refine ⟨.ref o, rfl, .ref c, rfl, c, ks, rfl, s1.seq fa.cor, o, os, _, rfl, s1.seq fa.sid, isf.up, isf.inn, true, rfl, iteF ?_⟩
    exact q _ s1
end
end K3
set_option Elab.async false
set_option linter.all false
set_option maxRecDepth 100000
set_option maxHeartbeats 1000000
set_option exponentiation.threshold 20000
namespace Fen
open L2
open Hull (P turn Lt)
/-! common divisors -/
theorem g3_dvd (a b c : Int) : g3 a b c ∣ a ∧ g3 a b c ∣ b ∧ g3 a b c ∣ c := by
  have e : ∀ z : Int, ((a.natAbs.gcd b.natAbs).gcd c.natAbs) ∣ z.natAbs → g3 a b c ∣ z := fun z h => Int.natAbs_dvd_natAbs.mp (by show ((((a.natAbs.gcd b.natAbs).gcd c.natAbs : Nat) : Int)).natAbs ∣ z.natAbs; rw [Int.natAbs_natCast]; exact h)
  exact ⟨e a (Nat.dvd_trans (Nat.gcd_dvd_left _ _) (Nat.gcd_dvd_left _ _)), e b (Nat.dvd_trans (Nat.gcd_dvd_left _ _) (Nat.gcd_dvd_right _ _)), e c (Nat.gcd_dvd_right _ _)⟩
theorem g3_pos {a b c : Int} (h : 0 < a) : 0 < g3 a b c := by
  have h1 : 0 < a.natAbs.gcd b.natAbs := Nat.gcd_pos_of_pos_left _ (by omega)
  have h2 : 0 < (a.natAbs.gcd b.natAbs).gcd c.natAbs := Nat.gcd_pos_of_pos_left _ h1
  unfold g3
  omega
theorem g3_mul (a b c : Int) {t : Int} (h : 0 ≤ t) : g3 (a * t) (b * t) (c * t) = g3 a b c * t := by
  unfold g3
  rw [Int.natAbs_mul, Int.natAbs_mul, Int.natAbs_mul, Nat.gcd_mul_right, Nat.gcd_mul_right]
  push_cast
  congr 1
  omega
def gF (b : Int) (cs : List P) : Int := cs.foldl (fun g p => g3 g p.1 p.2) b
theorem gF_pos : ∀ (cs : List P) {b : Int}, 0 < b → 0 < gF b cs
  | [], _, h => h
  | p :: cs, b, h => gF_pos cs (b := g3 b p.1 p.2) (g3_pos h)
theorem gF_dvd : ∀ (cs : List P) (b : Int), gF b cs ∣ b ∧ ∀ p ∈ cs, gF b cs ∣ p.1 ∧ gF b cs ∣ p.2
  | [], b => ⟨Int.dvd_refl b, fun p hp => nomatch hp⟩
  | p :: cs, b => by
    obtain ⟨h1, h2⟩ := gF_dvd cs (g3 b p.1 p.2)
    obtain ⟨k1, k2, k3⟩ := g3_dvd b p.1 p.2
    have e : gF b (p :: cs) = gF (g3 b p.1 p.2) cs := rfl
    rw [e]
    refine ⟨Int.dvd_trans h1 k1, fun q hq => ?_⟩
    rcases List.mem_cons.mp hq with rfl | z
    · exact ⟨Int.dvd_trans h1 k2, Int.dvd_trans h1 k3⟩
    · exact h2 q z
def sc (t : Int) (p : P) : P := (p.1 * t, p.2 * t)
def dv (g : Int) (p : P) : P := (p.1 / g, p.2 / g)
theorem gF_mul : ∀ (cs : List P) (b : Int) {t : Int}, 0 ≤ t → gF (b * t) (cs.map (sc t)) = gF b cs * t
  | [], _, _, _ => rfl
  | p :: cs, b, t, h => by
    show gF (g3 (b * t) (p.1 * t) (p.2 * t)) (cs.map (sc t)) = gF (g3 b p.1 p.2) cs * t
    rw [g3_mul _ _ _ h, gF_mul cs _ h]
theorem gF_le {cs : List P} {b : Int} (h : 0 < b) : gF b cs ≤ b := Int.le_of_dvd h (gF_dvd cs b).1
theorem sc_dv {g : Int} {p : P} (h : g ∣ p.1 ∧ g ∣ p.2) : sc g (dv g p) = p := by
  unfold sc dv
  rw [Int.ediv_mul_cancel h.1, Int.ediv_mul_cancel h.2]
theorem dv_sc {g : Int} (h : g ≠ 0) (p : P) : dv g (sc g p) = p := by
  unfold sc dv
  rw [Int.mul_ediv_cancel _ h, Int.mul_ediv_cancel _ h]
/-- the fence with its lowest bottom -/
def lowB (b : Int) (cs : List P) : Int := b / gF b cs
def lowC (b : Int) (cs : List P) : List P := cs.map (dv (gF b cs))
theorem low_back (b : Int) (cs : List P) : lowB b cs * gF b cs = b ∧ (lowC b cs).map (sc (gF b cs)) = cs := by
  obtain ⟨h1, h2⟩ := gF_dvd cs b
  refine ⟨Int.ediv_mul_cancel h1, ?_⟩
  unfold lowC
  rw [List.map_map]
  refine (List.map_congr_left fun p hp => ?_).trans (List.map_id cs)
  exact sc_dv (h2 p hp)
theorem gF_low {b : Int} (h : 0 < b) (cs : List P) : gF (lowB b cs) (lowC b cs) = 1 := by
  obtain ⟨e1, e2⟩ := low_back b cs
  have gp := gF_pos cs h
  have z := gF_mul (lowC b cs) (lowB b cs) (t := gF b cs) (by omega)
  rw [e1, e2] at z
  have z2 : 1 * gF b cs = gF (lowB b cs) (lowC b cs) * gF b cs := by rw [Int.one_mul]; exact z
  exact (Int.eq_of_mul_eq_mul_right (by omega) z2).symm
/-- lowest again, and of multiples -/
theorem low_mul {b t : Int} {cs : List P} (g1 : gF b cs = 1) (ht : 0 < t) : lowB (b * t) (cs.map (sc t)) = b ∧ lowC (b * t) (cs.map (sc t)) = cs := by
  have e : gF (b * t) (cs.map (sc t)) = t := by rw [gF_mul cs b (by omega), g1, Int.one_mul]
  unfold lowB lowC
  rw [e, Int.mul_ediv_cancel _ (by omega), List.map_map]
  refine ⟨rfl, (List.map_congr_left fun p _ => ?_).trans (List.map_id cs)⟩
  exact dv_sc (by omega) p
theorem low_one {b : Int} {cs : List P} (g1 : gF b cs = 1) : lowB b cs = b ∧ lowC b cs = cs := by
  unfold lowB lowC
  rw [g1, Int.ediv_one]
  refine ⟨rfl, (List.map_congr_left fun p _ => ?_).trans (List.map_id cs)⟩
  unfold dv
  rw [Int.ediv_one, Int.ediv_one]
  rfl
/-! shapes, made greater -/
theorem turn_sc (t : Int) (a b c : P) : turn (sc t a) (sc t b) (sc t c) = t * t * turn a b c := by
  unfold turn sc
  grind
theorem lt_sc {t : Int} (ht : 0 < t) {a b : P} : Lt (sc t a) (sc t b) ↔ Lt a b := by
  unfold Lt sc
  have e : ∀ x y : Int, x * t < y * t ↔ x < y := fun x y => ⟨fun h => Int.lt_of_mul_lt_mul_right h (by omega), fun h => Int.mul_lt_mul_of_pos_right h ht⟩
  have e2 : ∀ x y : Int, x * t = y * t ↔ x = y := fun x y => ⟨fun h => Int.eq_of_mul_eq_mul_right (by omega) h, fun h => by rw [h]⟩
  dsimp only
  rw [e, e, e2]
theorem sc_inj {t : Int} (ht : 0 < t) {a b : P} (h : sc t a = sc t b) : a = b := by
  rw [← dv_sc (show t ≠ 0 by omega) a, h, dv_sc (by omega)]
theorem shape_sc {t : Int} (ht : 0 < t) {cs : List P} : Shape (cs.map (sc t)) ↔ Shape cs := by
  have tt : 0 < t * t := Int.mul_pos ht ht
  unfold Shape
  rw [List.length_map]
  constructor
  · rintro (h | ⟨a, b, e, h⟩ | ⟨h, O⟩)
    · exact .inl h
    · rcases cs with _ | ⟨x, _ | ⟨y, _ | ⟨z, r⟩⟩⟩
      · cases e
      · cases e
      · refine .inr (.inl ⟨x, y, rfl, ?_⟩)
        obtain ⟨e1, e2⟩ := List.cons.inj e
        obtain ⟨e2, _⟩ := List.cons.inj e2
        rw [← e1, ← e2] at h
        exact (lt_sc ht).mp h
      · simp at e
    · refine .inr (.inr ⟨h, ?_, fun i j a b d hi hj ea eb ed n1 n2 => ?_⟩)
      · obtain ⟨m, e0, l⟩ := O.first
        rw [List.getElem?_map] at e0
        obtain ⟨x, ex, rfl⟩ := Option.map_eq_some_iff.mp e0
        exact ⟨x, ex, fun y hy n => (lt_sc ht).mp (l (sc t y) (List.mem_map.mpr ⟨y, hy, rfl⟩) fun z => n (sc_inj ht z))⟩
      · have z := O.left i j (sc t a) (sc t b) (sc t d) (by rw [List.length_map]; exact hi) (by rw [List.length_map]; exact hj) (by rw [List.getElem?_map, ea]; rfl) (by rw [List.length_map, List.getElem?_map, eb]; rfl) (by rw [List.getElem?_map, ed]; rfl) n1 (by rw [List.length_map]; exact n2)
        rw [turn_sc] at z
        exact Int.not_le.mp fun y => by
          have := Int.mul_le_mul_of_nonneg_left y (show 0 ≤ t * t by omega)
          omega
  · rintro (h | ⟨a, b, rfl, h⟩ | ⟨h, O⟩)
    · exact .inl h
    · exact .inr (.inl ⟨sc t a, sc t b, rfl, (lt_sc ht).mpr h⟩)
    · refine .inr (.inr ⟨h, ?_, fun i j a b d hi hj ea eb ed n1 n2 => ?_⟩)
      · obtain ⟨m, e0, l⟩ := O.first
        refine ⟨sc t m, by rw [List.getElem?_map, e0]; rfl, fun y hy n => ?_⟩
        obtain ⟨x, hx, rfl⟩ := List.mem_map.mp hy
        exact (lt_sc ht).mpr (l x hx fun z => n (by rw [z]))
      · rw [List.length_map] at hi hj eb n2
        rw [List.getElem?_map] at ea eb ed
        obtain ⟨x, ex, rfl⟩ := Option.map_eq_some_iff.mp ea
        obtain ⟨y, ey, rfl⟩ := Option.map_eq_some_iff.mp eb
        obtain ⟨z, ez, rfl⟩ := Option.map_eq_some_iff.mp ed
        rw [turn_sc]
        exact Int.mul_pos tt (O.left i j x y z hi hj ex ey ez n1 n2)
theorem tot_map (f : P → P) (cs : List P) : tot (cs.map f) = tot cs := by
  unfold tot
  rw [List.length_map]
theorem IsF.low {b : Int} {cs : List P} {os : List Int} (f : IsF b cs os) : IsF (lowB b cs) (lowC b cs) os := by
  have b0 : 0 < b := by have := f.b1; omega
  have gp := gF_pos cs b0
  obtain ⟨e1, e2⟩ := low_back b cs
  have lb : 0 < lowB b cs := by
    refine Int.not_le.mp fun z => ?_
    have := Int.mul_le_mul_of_nonneg_right z (show 0 ≤ gF b cs by omega)
    omega
  refine ⟨by omega, ?_, by unfold lowC; rw [List.length_map]; exact f.l1, by unfold lowC; rw [List.length_map]; exact f.l2, fun p hp => ?_, ?_, f.up, fun o ho => ?_⟩
  · have h1 : lowB b cs * 1 ≤ lowB b cs * gF b cs := Int.mul_le_mul_of_nonneg_left (by omega) (by omega)
    have := f.b2
    omega
  · obtain ⟨q, hq, rfl⟩ := List.mem_map.mp hp
    obtain ⟨c1, c2, c3, c4⟩ := f.co q hq
    have d : ∀ x : Int, -(10 : Int) ^ 30 ≤ x → x ≤ 10 ^ 30 → -(10 : Int) ^ 30 ≤ x / gF b cs ∧ x / gF b cs ≤ 10 ^ 30 := fun x h1 h2 => by
      refine ⟨?_, ?_⟩
      · refine (Int.le_ediv_iff_mul_le gp).mpr ?_
        have z : -(10 : Int) ^ 30 * gF b cs ≤ -(10 : Int) ^ 30 * 1 := Int.mul_le_mul_of_nonpos_left (by decide) (by omega)
        omega
      · by_cases x0 : 0 ≤ x
        · exact Int.le_trans (Int.ediv_le_self _ x0) h2
        · have z : x / gF b cs < 0 := Int.ediv_neg_of_neg_of_pos (by omega) gp
          exact Int.le_trans (Int.le_of_lt z) (by decide)
    exact ⟨(d _ c1 c2).1, (d _ c1 c2).2, (d _ c3 c4).1, (d _ c3 c4).2⟩
  · have z := f.sh
    rw [← e2] at z
    exact (shape_sc gp).mp z
  · have := f.inn o ho
    unfold lowC
    rw [tot_map]
    exact this
end Fen
set_option Elab.async false
set_option linter.all false
set_option maxRecDepth 100000
set_option maxHeartbeats 1000000
set_option exponentiation.threshold 20000
namespace L2
open PySem PySem.Spec PyProof.Rows
/-- the written part named: within a comprehension -/
theorem or_K {X : Cx} {f : Value → Value → Sem Value} {r : PySem.W.Frag → R2} (h : OpR X f (r X.K)) (K : PySem.W.Frag) (hK : X.K = K) : OpR X f (r K) := by
  subst hK
  exact h
end L2
namespace Fen
open PySem PySem.Spec PyProof.Rows L2
/-- a new fence -/
structure NewF (K : PySem.W.Frag) (H0 H : Hp) (t c o : Addr) (b : Int) (ks : Pts) (os : List Int) : Prop where
  nt : H0 t = none
  nc : H0 c = none
  no : H0 o = none
  tup : H t = some (.tup [.int b, .ref c, .ref o])
  cor : H c = some (.lst (refs ks))
  pts : At K H ks
  sid : H o = some (.lst (os.map V.int))
  ap : c ≠ o
theorem NewF.fat {K : PySem.W.Frag} {H0 H : Hp} {t c o : Addr} {b : Int} {ks : Pts} {os : List Int} (f : NewF K H0 H t c o b ks os) : FAt K H t c o b ks os := ⟨SqT.of f.tup, SqL.of f.cor, f.pts, SqL.of f.sid⟩
/-- a fence of lists that were made -/
structure FPl (K : PySem.W.Frag) (H : Hp) (t c o : Addr) (b : Int) (ks : Pts) (os : List Int) : Prop where
  tup : H t = some (.tup [.int b, .ref c, .ref o])
  cor : H c = some (.lst (refs ks))
  pts : At K H ks
  sid : H o = some (.lst (os.map V.int))
theorem FPl.fat {K : PySem.W.Frag} {H : Hp} {t c o : Addr} {b : Int} {ks : Pts} {os : List Int} (f : FPl K H t c o b ks os) : FAt K H t c o b ks os := ⟨SqT.of f.tup, SqL.of f.cor, f.pts, SqL.of f.sid⟩
theorem FPl.same {K : PySem.W.Frag} {H H' : Hp} {t c o : Addr} {b : Int} {ks : Pts} {os : List Int} (f : FPl K H t c o b ks os) (s : Same H H') : FPl K H' t c o b ks os := ⟨s _ _ f.tup, s _ _ f.cor, f.pts.same s, s _ _ f.sid⟩
theorem NewF.pl {K : PySem.W.Frag} {H0 H : Hp} {t c o : Addr} {b : Int} {ks : Pts} {os : List Int} (f : NewF K H0 H t c o b ks os) : FPl K H t c o b ks os := ⟨f.tup, f.cor, f.pts, f.sid⟩
theorem NewF.same {K : PySem.W.Frag} {H0 H H' : Hp} {t c o : Addr} {b : Int} {ks : Pts} {os : List Int} (f : NewF K H0 H t c o b ks os) (s : Same H H') : NewF K H0 H' t c o b ks os := ⟨f.nt, f.nc, f.no, s _ _ f.tup, s _ _ f.cor, f.pts.same s, s _ _ f.sid, f.ap⟩
theorem NewF.old {K : PySem.W.Frag} {H1 H0 H : Hp} {t c o : Addr} {b : Int} {ks : Pts} {os : List Int} (f : NewF K H0 H t c o b ks os) (s : Same H1 H0) : NewF K H1 H t c o b ks os := ⟨s.free f.nt, s.free f.nc, s.free f.no, f.tup, f.cor, f.pts, f.sid, f.ap⟩
def rI (n : Nat) : List Int := (List.range n).map fun (i : Nat) => (i : Int)
theorem rgV_rI (n : Nat) : rgV 0 (n : Int) = (rI n).map V.int := by
  unfold rgV rI
  rw [List.map_map, show ((n : Int) - 0).toNat = n by omega]
  refine List.map_congr_left fun i _ => ?_
  show V.int (0 + (i : Int)) = V.int (i : Int)
  rw [Int.zero_add]
theorem rI_up (n : Nat) : (rI n).Pairwise (· < ·) := by
  unfold Fen.rI
  rw [List.pairwise_map]
  exact List.Pairwise.imp (fun {a b} h => by omega) (List.pairwise_lt_range (n := n))
theorem rI_in {n : Nat} {o : Int} (h : o ∈ rI n) : 0 ≤ o ∧ o < n := by
  unfold Fen.rI at h
  obtain ⟨i, hi, rfl⟩ := List.mem_map.mp h
  have := List.mem_range.mp hi
  omega
/-- the other sides -/
def otherS (n : Nat) (os : List Int) : List Int := (rI n).filter fun i => !os.contains i
end Fen
namespace K3
open PySem PySem.Spec PyProof.Rows L2 Fen
abbrev sLow : Stmt := topS 27
abbrev sLwd : Stmt := topS 26
abbrev sClo : Stmt := topS 28
abbrev sShu : Stmt := topS 29
abbrev sTrn : Stmt := topS 30
abbrev sSam : Stmt := topS 31
abbrev sKnd : Stmt := topS 32
abbrev sAre : Stmt := topS 33
abbrev sFrc : Stmt := topS 24
abbrev nLow : List Str := ["fence", "bottom", "corners", "sides", "part", "x", "y"]
theorem scLow : FnScope ["fence"] ["fence"] (defScope sLow) := ⟨rfl, rfl, rfl, by decide +kernel, rfl, by decide +kernel, by decide +kernel⟩
theorem scLwd : FnScope nLow ["fence"] (defScope sLwd) := ⟨rfl, rfl, rfl, by decide +kernel, rfl, by decide +kernel, by decide +kernel⟩
theorem scClo : FnScope ["fence", "bottom", "corners", "_"] ["fence"] (defScope sClo) := ⟨rfl, rfl, rfl, by decide +kernel, rfl, by decide +kernel, by decide +kernel⟩
theorem scShu : FnScope ["fence", "bottom", "corners", "_"] ["fence"] (defScope sShu) := ⟨rfl, rfl, rfl, by decide +kernel, rfl, by decide +kernel, by decide +kernel⟩
abbrev nTrn : List Str := ["fence", "bottom", "corners", "sides", "side"]
theorem scTrn : FnScope nTrn ["fence"] (defScope sTrn) := ⟨rfl, rfl, rfl, by decide +kernel, rfl, by decide +kernel, by decide +kernel⟩
theorem scSam : FnScope ["fence", "other"] ["fence", "other"] (defScope sSam) := ⟨rfl, rfl, rfl, by decide +kernel, rfl, by decide +kernel, by decide +kernel⟩
theorem scKnd : FnScope ["fence", "corners"] ["fence"] (defScope sKnd) := ⟨rfl, rfl, rfl, by decide +kernel, rfl, by decide +kernel, by decide +kernel⟩
theorem scAre : FnScope ["fence", "bottom", "corners", "_", "top", "side", "x", "y", "next_x", "next_y"] ["fence"] (defScope sAre) := ⟨rfl, rfl, rfl, by decide +kernel, rfl, by decide +kernel, by decide +kernel⟩
theorem scFrc : FnScope ["top", "bottom", "part"] ["top", "bottom"] (defScope sFrc) := ⟨rfl, rfl, rfl, by decide +kernel, rfl, by decide +kernel, by decide +kernel⟩
section
variable {P : Program} {w : World} {K : PySem.W.Frag} {mg : Str → Option Value} {base : Heap}
def spLow (K : PySem.W.Frag) : Sp := fun vs H Q _ => ∃ (t c o : Addr) (b : Int) (ks : Pts) (os : List Int), vs = [.ref t] ∧ FAt K H t c o b ks os ∧ IsF b (ks.map (·.2)) os ∧
  ∀ H' t' c' o' ks', Same H H' → NewF K H H' t' c' o' (lowB b (ks.map (·.2))) ks' os → ks'.map (·.2) = lowC b (ks.map (·.2)) → Q (.ref t') H'
theorem ok_lwd {f : Addr} {fd : FuncData} {k : Nat} (F : Fun K "lowered_fence" "lowered_fence" sLwd f fd) (T : Nms mg) (mg3 : mg "gcd" = some (.builtin "math.gcd")) :
    FnOk P w K mg base CX0 (k + 1) f fd ["fence"] (spLow K) := by
  refine F.ok scLwd (fun vs H Q E h => ?_) (fun cdv A outer s H vs Q E hr h => ?_)
  · obtain ⟨t, c, o, b, ks, os, rfl, _⟩ := h
    rfl
  · obtain ⟨t, c, o, b, ks, os, rfl, fa, isf, q⟩ := h
    refine ⟨_, pss_cons (ps_asg (pv 0) (pg_tup rfl (pgs_cons (pg_name (i := 1) scLwd.nd rfl (.inl rfl)) (pgs_cons (pg_name (i := 2) scLwd.nd rfl (.inl rfl)) (pgs_cons (pg_name (i := 3) scLwd.nd rfl (.inl rfl)) pgs_nil)))))
      (pss_cons (ps_set (i := 4) scLwd.nd rfl (.inr rfl) (pv 1))
      (pss_cons (ps_for PassesOwn.never rfl (pi_list (pv 2)) (pg_tup rfl (pgs_cons (pg_name (i := 5) scLwd.nd rfl (.inl rfl)) (pgs_cons (pg_name (i := 6) scLwd.nd rfl (.inl rfl)) pgs_nil)))
        (pss_one (ps_set (i := 4) scLwd.nd rfl (.inr rfl) (pe_callBfun cr_gcd3 (by rfl) mg3 (pa_cons (pv 4) (pa_cons (pv 5) (pa_cons (pv 6) pa_nil)))))))
      (pss_one (ps_ret (pe_tup (pa_cons (pe_op op_fdiv (pv 1) (pv 4)) (pa_cons (pe_lc (own := [("x", 5), ("y", 6)]) (g := gTup K 2 (gCons (gName 5) (gCons (gName 6) gNil))) (tt := tYes) rfl scLwd.nd (pi_list (pv 2)) (blkOk_by (N := nLow) (sc := defScope sLwd) (by decide +kernel)) (fun _ _ _ _ _ => pg_tup rfl (pgs_cons (pg_name (i := 5) scLwd.nd rfl (Or.inl rfl)) (pgs_cons (pg_name (i := 6) scLwd.nd rfl (Or.inl rfl)) pgs_nil))) (fun _ _ _ _ _ => pts_nil)
          (fun _ _ _ _ _ => pe_tup (pa_cons (pe_op op_fdiv (pv 5) (pv 4)) (pa_cons (pe_op op_fdiv (pv 6) (pv 4)) pa_nil))))
          (pa_cons (pe_callTy call_list_of (by rfl) T.mlst (by decide +kernel) (pa_cons (pv 3) pa_nil)) pa_nil)))))))), ?_⟩
    have s1 : Same H H := fun _ _ h => h
    have f1 := fa.same s1
    refine ⟨.ref t, rfl, t, _, rfl, f1.tup, rfl, .int b, [.ref c, .ref o], rfl, .ref c, [.ref o], rfl, .ref o, [], rfl, rfl, ?_⟩
    refine ⟨_, rfl, ?_⟩
    refine ⟨.ref c, rfl, c, rfl, ⟨_, f1.cor⟩, ?_⟩
    refine for_list (K := K) (a := c) (xs := refs ks) (fun i σ H' => ∃ y5 y6, σ = [some (.ref t), some (.int b), some (.ref c), some (.ref o), some (.int (gF b ((ks.map (·.2)).take i))), y5, y6] ∧ H' = H) ⟨_, _, rfl, rfl⟩ ?_ ?_ ?_
    · rintro i σ H' _ ⟨_, _, _, rfl⟩
      exact f1.cor
    · rintro i v σ H' hv ⟨y5, y6, rfl, rfl⟩
      obtain ⟨x, hx, rfl⟩ := refs_get hv
      refine ⟨x.1, _, rfl, f1.pts x (List.mem_of_getElem? hx), rfl, .int x.2.1, [.int x.2.2], rfl, .int x.2.2, [], rfl, rfl, ?_⟩
      have e : gF b ((ks.map (·.2)).take (i + 1)) = g3 (gF b ((ks.map (·.2)).take i)) x.2.1 x.2.2 := by
        rw [take_succ_at (show (ks.map (·.2))[i]? = some x.2 by rw [List.getElem?_map, hx]; rfl)]
        unfold gF
        rw [List.foldl_append]
        rfl
      refine ⟨_, rfl, _, rfl, _, rfl, _, _, _, rfl, some (.int x.2.1), some (.int x.2.2), ?_, rfl⟩
      rw [e]
      rfl
    rintro σ H' ⟨y5, y6, rfl, eH⟩
    have eH2 := eH.symm
    subst eH2
    rw [refs_len, show (ks.map (·.2)).take ks.length = ks.map (·.2) from List.take_of_length_le (by rw [List.length_map]; exact Nat.le_refl _)]
    have b0 : 0 < b := by have := isf.b1; omega
    have gp := gF_pos (ks.map (·.2)) b0
    have gl := gF_le (cs := ks.map (·.2)) b0
    have b2 := isf.b2
    have gd : CDiv b (gF b (ks.map (·.2))) := ⟨gp, by omega⟩
    refine ⟨_, rfl, _, rfl, _, _, rfl, rfl, gd, .ref c, rfl, c, rfl, ⟨_, f1.cor⟩, fun D nD => ?_⟩
    refine lc_list (K := K) (a := c) (xs := refs ks) (fun j H' => ∃ ks' : Pts, Same H H' ∧ H' D = some (.lst (refs ks')) ∧ At K H' ks' ∧ ks'.map (·.2) = ((ks.map (·.2)).take j).map (dv (gF b (ks.map (·.2))))) ⟨[], same_new nD, upd_same, fun p hp => (nomatch hp), rfl⟩ (fun j H' _ z => ?_) (fun j v H2 hv z => ?_) fun H2 z => ?_
    · obtain ⟨_, sz, _⟩ := z
      exact sz.seq f1.cor
    · obtain ⟨x, hx, rfl⟩ := refs_get hv
      obtain ⟨ks', sz, hD, T2, e2⟩ := z
      have mx := List.mem_of_getElem? hx
      have jl : j < ks.length := (List.getElem?_eq_some_iff.mp hx).1
      have lk : ks'.length = j := by
        have := congrArg List.length e2
        rw [List.length_map, List.length_map, List.length_take, List.length_map] at this
        omega
      have l10 := isf.l2
      rw [List.length_map] at l10
      refine ⟨x.1, _, rfl, (f1.pts.same sz) x mx, rfl, .int x.2.1, [.int x.2.2], rfl, .int x.2.2, [], rfl, rfl, rfl, yesT ?_⟩
      refine ⟨_, rfl, _, rfl, _, _, rfl, rfl, gd, _, rfl, _, rfl, _, _, rfl, rfl, gd, by show 2 ≤ sizeLine; decide, fun u nu => ?_⟩
      have s3 := same_new (o := .tup [.int (x.2.1 / gF b (ks.map (·.2))), .int (x.2.2 / gF b (ks.map (·.2)))]) nu
      have hD3 := s3 _ _ hD
      have uD : u ≠ D := fun z => by
        rw [z, hD] at nu
        cases nu
      refine ⟨refs ks', hD3, by rw [refs_len]; exact Nat.lt_of_lt_of_le (show ks'.length < 11 by omega) (by decide), ks' ++ [(u, dv (gF b (ks.map (·.2))) x.2)], fun p q e => ?_, ?_, fun r hr => ?_, ?_⟩
      · have nb : p ≠ D := fun y => by rw [y, nD] at e; cases e
        rw [upd_ne nb]
        exact (sz.trans s3) p q e
      · rw [upd_same]
        simp [refs]
      · rcases List.mem_append.mp hr with z | z
        · exact L2.SqT.put ((T2.same s3) r z) hD3 SameX.put
        · rw [List.mem_singleton.mp z]
          refine SqT.of ?_
          rw [upd_ne uD]
          exact upd_same
      · rw [List.map_append, e2, take_succ_at (show (ks.map (·.2))[j]? = some x.2 by rw [List.getElem?_map, hx]; rfl), List.map_append]
        rfl
    obtain ⟨ks', s2, hD, T2, e2⟩ := z
    rw [refs_len, show (ks.map (·.2)).take ks.length = ks.map (·.2) from List.take_of_length_le (by rw [List.length_map]; exact Nat.le_refl _)] at e2
    refine ⟨.ref o, rfl, o, os.map V.int, rfl, .inl (s2.seq f1.sid), fun o' no' => ?_⟩
    refine ⟨by show 3 ≤ sizeLine; decide, fun t' nt' => ?_⟩
    have s4 := (same_new (o := .lst (os.map V.int)) no').trans (same_new (o := .tup [.int (b / gF b (ks.map (·.2))), .ref D, .ref o']) nt')
    have sA := s1.trans s2
    exact q _ t' D o' ks' (sA.trans s4) ⟨(sA.trans (same_new no')).free nt', s1.free nD, sA.free no', upd_same, s4 _ _ hD, T2.same s4, (same_new nt') _ _ upd_same, ne_of_none hD no'⟩ e2
theorem ok_low {f fC fL : Addr} {fd fdC fdL : FuncData} {k : Nat} (F : Fun K "lowest_fence" "lowest_fence" sLow f fd) (OC : FnOk P w K mg base CX0 (k + 1) fC fdC ["value"] (spChk K)) (kC : PySem.W.keepIn K (.ref fC) = true) (bC : Binds K fdC ["value"] []) (gC : mg "check_fence" = some (.ref fC))
    (OL : FnOk P w K mg base CX0 (k + 1) fL fdL ["fence"] (spLow K)) (kL : PySem.W.keepIn K (.ref fL) = true) (bL : Binds K fdL ["fence"] []) (gL : mg "lowered_fence" = some (.ref fL)) :
    FnOk P w K mg base CX0 (k + 1 + 1) f fd ["fence"] (spLow K) := by
  refine F.ok scLow (fun vs H Q E h => ?_) (fun cdv A outer s H vs Q E hr h => ?_)
  · obtain ⟨t, c, o, b, ks, os, rfl, _⟩ := h
    rfl
  · obtain ⟨t, c, o, b, ks, os, rfl, fa, isf, q⟩ := h
    refine ⟨_, pss_cons (ps_expr (pe_call OC hr (by rfl) gC kC bC .nil pass0 (pa_cons (pv 0) pa_nil)))
      (pss_one (ps_ret (pe_call OL hr (by rfl) gL kL bL .nil pass0 (pa_cons (pv 0) pa_nil)))), ?_⟩
    refine ⟨_, rfl, t, c, o, b, ks, os, rfl, fa, isf, fun H1 s1 => ?_⟩
    exact ⟨_, rfl, t, c, o, b, ks, os, rfl, fa.same s1, isf, fun H' t' c' o' ks' s2 f2 e2 => q H' t' c' o' ks' (s1.trans s2) (f2.old s1) e2⟩
def spClo (K : PySem.W.Frag) (g : List Hull.P → List Int → List Int) : Sp := fun vs H Q _ => ∃ (t c o : Addr) (b : Int) (ks : Pts) (os : List Int), vs = [.ref t] ∧ FAt K H t c o b ks os ∧ IsF b (ks.map (·.2)) os ∧
  ∀ H' t' c' o', Same H H' → NewF K H H' t' c' o' b ks (g (ks.map (·.2)) os) → Q (.ref t') H'
theorem ok_clo {f fC : Addr} {fd fdC : FuncData} {k : Nat} (F : Fun K "closed_fence" "closed_fence" sClo f fd) (OC : FnOk P w K mg base CX0 (k + 1) fC fdC ["value"] (spChk K)) (kC : PySem.W.keepIn K (.ref fC) = true) (bC : Binds K fdC ["value"] []) (gC : mg "check_fence" = some (.ref fC)) (T : Nms mg) :
    FnOk P w K mg base CX0 (k + 1 + 1) f fd ["fence"] (spClo K fun _ _ => []) := by
  refine F.ok scClo (fun vs H Q E h => ?_) (fun cdv A outer s H vs Q E hr h => ?_)
  · obtain ⟨t, c, o, b, ks, os, rfl, _⟩ := h
    rfl
  · obtain ⟨t, c, o, b, ks, os, rfl, fa, isf, q⟩ := h
    refine ⟨_, pss_cons (ps_expr (pe_call OC hr (by rfl) gC kC bC .nil pass0 (pa_cons (pv 0) pa_nil)))
      (pss_cons (ps_asg (pv 0) (pg_tup rfl (pgs_cons (pg_name (i := 1) scClo.nd rfl (.inl rfl)) (pgs_cons (pg_name (i := 2) scClo.nd rfl (.inl rfl)) (pgs_cons (pg_name (i := 3) scClo.nd rfl (.inl rfl)) pgs_nil)))))
      (pss_one (ps_ret (pe_tup (pa_cons (pv 1) (pa_cons (pe_callTy call_list_of (by rfl) T.mlst (by decide +kernel) (pa_cons (pv 2) pa_nil)) (pa_cons (pe_lst pa_nil) pa_nil))))))), ?_⟩
    refine ⟨_, rfl, t, c, o, b, ks, os, rfl, fa, isf, fun H1 s1 => ?_⟩
    have f1 := fa.same s1
    refine ⟨.ref t, rfl, t, _, rfl, f1.tup, rfl, .int b, [.ref c, .ref o], rfl, .ref c, [.ref o], rfl, .ref o, [], rfl, rfl, ?_⟩
    refine ⟨_, rfl, .ref c, rfl, c, refs ks, rfl, .inl f1.cor, fun c' nc' => ⟨by show 0 ≤ sizeLine; decide, fun o' no' => ⟨by show 3 ≤ sizeLine; decide, fun t' nt' => ?_⟩⟩⟩
    have s2 := (same_new (o := .lst []) no').trans (same_new (o := .tup [.int b, .ref c', .ref o']) nt')
    have sB := s1.trans (same_new (o := .lst (refs ks)) nc')
    exact q _ t' c' o' (sB.trans s2) ⟨(sB.trans (same_new no')).free nt', s1.free nc', sB.free no', upd_same, s2 _ _ upd_same, (fa.pts.same sB).same s2, (same_new nt') _ _ upd_same, ne_of_none upd_same no'⟩
theorem ok_shu {f fC fT : Addr} {fd fdC fdT : FuncData} {k : Nat} (F : Fun K "shut_fence" "shut_fence" sShu f fd) (OC : FnOk P w K mg base CX0 (k + 1) fC fdC ["value"] (spChk K)) (kC : PySem.W.keepIn K (.ref fC) = true) (bC : Binds K fdC ["value"] []) (gC : mg "check_fence" = some (.ref fC))
    (OT : FnOk P w K mg base CX0 (k + 1) fT fdT ["corners"] (spTot K)) (kT : PySem.W.keepIn K (.ref fT) = true) (bT : Binds K fdT ["corners"] []) (gT : mg "side_total" = some (.ref fT)) (T : Nms mg) (T2 : Nm2 mg) :
    FnOk P w K mg base CX0 (k + 1 + 1) f fd ["fence"] (spClo K fun cs _ => rI (tot cs)) := by
  refine F.ok scShu (fun vs H Q E h => ?_) (fun cdv A outer s H vs Q E hr h => ?_)
  · obtain ⟨t, c, o, b, ks, os, rfl, _⟩ := h
    rfl
  · obtain ⟨t, c, o, b, ks, os, rfl, fa, isf, q⟩ := h
    refine ⟨_, pss_cons (ps_expr (pe_call OC hr (by rfl) gC kC bC .nil pass0 (pa_cons (pv 0) pa_nil)))
      (pss_cons (ps_asg (pv 0) (pg_tup rfl (pgs_cons (pg_name (i := 1) scShu.nd rfl (.inl rfl)) (pgs_cons (pg_name (i := 2) scShu.nd rfl (.inl rfl)) (pgs_cons (pg_name (i := 3) scShu.nd rfl (.inl rfl)) pgs_nil)))))
      (pss_one (ps_ret (pe_tup (pa_cons (pv 1) (pa_cons (pe_callTy call_list_of (by rfl) T.mlst (by decide +kernel) (pa_cons (pv 2) pa_nil)) (pa_cons (pe_listRg rfl (by rfl) T.mlst (prg_1 (by rfl) T2.mrange (pe_call OT hr (by rfl) gT kT bT .nil pass0 (pa_cons (pv 2) pa_nil)))) pa_nil))))))), ?_⟩
    refine ⟨_, rfl, t, c, o, b, ks, os, rfl, fa, isf, fun H1 s1 => ?_⟩
    have f1 := fa.same s1
    have t10 : tot (ks.map (·.2)) ≤ 10 := by
      unfold tot
      have := isf.l2
      split <;> omega
    refine ⟨.ref t, rfl, t, _, rfl, f1.tup, rfl, .int b, [.ref c, .ref o], rfl, .ref c, [.ref o], rfl, .ref o, [], rfl, rfl, ?_⟩
    refine ⟨_, rfl, .ref c, rfl, c, refs ks, rfl, .inl f1.cor, fun c' nc' => ?_⟩
    have sB := s1.trans (same_new (o := .lst (refs ks)) nc')
    refine ⟨.ref c, rfl, c, ks, rfl, sB.seq fa.cor, _, rfl, RgOk.of_le (by decide) (by omega) (by decide) (by omega), fun o' no' => ⟨by show 3 ≤ sizeLine; decide, fun t' nt' => ?_⟩⟩
    rw [rgV_rI] at nt' ⊢
    have s2 := (same_new (o := .lst ((rI (tot (ks.map (·.2)))).map V.int)) no').trans (same_new (o := .tup [.int b, .ref c', .ref o']) nt')
    exact q _ t' c' o' (sB.trans s2) ⟨(sB.trans (same_new no')).free nt', s1.free nc', sB.free no', upd_same, s2 _ _ upd_same, (fa.pts.same sB).same s2, (same_new nt') _ _ upd_same, ne_of_none upd_same no'⟩
theorem ok_trn {f fC fT : Addr} {fd fdC fdT : FuncData} {k : Nat} (F : Fun K "turned_fence" "turned_fence" sTrn f fd) (OC : FnOk P w K mg base CX0 (k + 1) fC fdC ["value"] (spChk K)) (kC : PySem.W.keepIn K (.ref fC) = true) (bC : Binds K fdC ["value"] []) (gC : mg "check_fence" = some (.ref fC))
    (OT : FnOk P w K mg base CX0 (k + 1) fT fdT ["corners"] (spTot K)) (kT : PySem.W.keepIn K (.ref fT) = true) (bT : Binds K fdT ["corners"] []) (gT : mg "side_total" = some (.ref fT)) (T : Nms mg) (T2 : Nm2 mg) :
    FnOk P w K mg base CX0 (k + 1 + 1) f fd ["fence"] (spClo K fun cs os => otherS (tot cs) os) := by
  refine F.ok scTrn (fun vs H Q E h => ?_) (fun cdv A outer s H vs Q E hr h => ?_)
  · obtain ⟨t, c, o, b, ks, os, rfl, _⟩ := h
    rfl
  · obtain ⟨t, c, o, b, ks, os, rfl, fa, isf, q⟩ := h
    refine ⟨_, pss_cons (ps_expr (pe_call OC hr (by rfl) gC kC bC .nil pass0 (pa_cons (pv 0) pa_nil)))
      (pss_cons (ps_asg (pv 0) (pg_tup rfl (pgs_cons (pg_name (i := 1) scTrn.nd rfl (.inl rfl)) (pgs_cons (pg_name (i := 2) scTrn.nd rfl (.inl rfl)) (pgs_cons (pg_name (i := 3) scTrn.nd rfl (.inr rfl)) pgs_nil)))))
      (pss_one (ps_ret (pe_tup (pa_cons (pv 1) (pa_cons (pe_callTy call_list_of (by rfl) T.mlst (by decide +kernel) (pa_cons (pv 2) pa_nil)) (pa_cons (pe_lc (own := [("side", 4)]) (g := gName 4) (tt := tTest (tOp (rIn K true) (tVar 4) (tVar 3))) rfl scTrn.nd (pi_range1 rfl T2.mrange (pa_cons (pe_call OT hr (by rfl) gT kT bT .nil pass0 (pa_cons (pv 2) pa_nil)) pa_nil)) (blkOk_by (N := nTrn) (sc := defScope sTrn) (by decide +kernel)) (fun _ _ _ _ _ => pg_name (i := 4) scTrn.nd rfl (Or.inl rfl))
          (fun _ _ _ _ _ => pts_one (pt_cmpR (or_K (r := fun K => rIn K true) op_notIn_seq K rfl) (pv 4) (pv 3) (by rfl))) (fun _ _ _ _ _ => pv 4)) pa_nil))))))), ?_⟩
    refine ⟨_, rfl, t, c, o, b, ks, os, rfl, fa, isf, fun H1 s1 => ?_⟩
    have f1 := fa.same s1
    have t10 : tot (ks.map (·.2)) ≤ 10 := by
      unfold tot
      have := isf.l2
      split <;> omega
    refine ⟨.ref t, rfl, t, _, rfl, f1.tup, rfl, .int b, [.ref c, .ref o], rfl, .ref c, [.ref o], rfl, .ref o, [], rfl, rfl, ?_⟩
    refine ⟨_, rfl, .ref c, rfl, c, refs ks, rfl, .inl f1.cor, fun c' nc' => ?_⟩
    have sB := s1.trans (same_new (o := .lst (refs ks)) nc')
    refine ⟨.ref c, rfl, c, ks, rfl, sB.seq fa.cor, _, rfl, by omega, by omega, fun D nD => ?_⟩
    refine lc_range (lo := 0) (n := ((tot (ks.map (·.2)) : Nat) : Int).toNat) (fun j H' => Same (upd H1 c' (.lst (refs ks))) H' ∧ H' D = some (.lst ((otherS j os).map V.int))) ⟨same_new nD, upd_same⟩ ?_ ?_
    · rintro j H' hj ⟨sz, hD⟩
      have hj2 : j < 10 := by omega
      have st : otherS (j + 1) os = otherS j os ++ (if os.contains (j : Int) then [] else [(j : Int)]) := by
        unfold otherS Fen.rI
        rw [List.range_succ, List.map_append, List.filter_append]
        congr 1
        rw [show List.map (fun (i : Nat) => (i : Int)) [j] = [(j : Int)] from rfl, List.filter_cons, List.filter_nil]
        cases os.contains (j : Int) <;> rfl
      refine ⟨rfl, _, rfl, _, rfl, o, os.map V.int, rfl, .inl ((sB.trans sz).seq fa.sid), rfl, by simp [flatV], _, rfl, ?_⟩
      have ei : inV (.int (0 + (j : Int))) (os.map V.int) = os.contains (j : Int) := by
        unfold inV
        rw [List.any_map, Int.zero_add, List.contains_eq_any_beq]
        congr 1
        funext x
        show (x == (j : Int)) = ((j : Int) == x)
        exact Bool.beq_comm
      rw [ei]
      cases hc : os.contains (j : Int) with
      | true =>
        refine iteF ⟨sz, ?_⟩
        rw [hD, st, hc]
        simp
      | false =>
        refine iteT ⟨_, rfl, _, hD, ?_, fun p q e => ?_, ?_⟩
        · rw [List.length_map]
          have : (otherS j os).length ≤ j := by
            unfold otherS Fen.rI
            refine Nat.le_trans (List.length_filter_le _ _) ?_
            rw [List.length_map, List.length_range]
            exact Nat.le_refl _
          exact Nat.lt_of_lt_of_le (show _ < 11 by omega) (by decide)
        · have nb : p ≠ D := fun y => by rw [y, nD] at e; cases e
          rw [upd_ne nb]
          exact sz p q e
        · rw [upd_same, st, hc, List.map_append, Int.zero_add]
          rfl
    · rintro H' ⟨sz, hD⟩
      refine ⟨by show 3 ≤ sizeLine; decide, fun t' nt' => ?_⟩
      have s2 := sz.trans (same_new (o := .tup [.int b, .ref c', .ref D]) nt')
      rw [show ((tot (ks.map (·.2)) : Nat) : Int).toNat = tot (ks.map (·.2)) from Int.toNat_natCast _] at hD
      exact q _ t' c' D (sB.trans s2) ⟨(sB.trans sz).free nt', s1.free nc', sB.free nD, upd_same, s2 _ _ upd_same, (fa.pts.same sB).same s2, (same_new nt') _ _ hD, ne_of_none upd_same nD⟩
/-- the same fence, or not -/
def spSam (K : PySem.W.Frag) : Sp := fun vs H Q _ => ∃ (t c o : Addr) (b : Int) (ks : Pts) (os : List Int) (t2 c2 o2 : Addr) (b2 : Int) (ks2 : Pts) (os2 : List Int), vs = [.ref t, .ref t2] ∧ FAt K H t c o b ks os ∧ IsF b (ks.map (·.2)) os ∧ FAt K H t2 c2 o2 b2 ks2 os2 ∧ IsF b2 (ks2.map (·.2)) os2 ∧
  ∀ H', Same H H' → Q (.bl (PyData.eqv (fD (lowB b (ks.map (·.2))) (lowC b (ks.map (·.2))) os) (fD (lowB b2 (ks2.map (·.2))) (lowC b2 (ks2.map (·.2))) os2))) H'
theorem ok_sam {f fL : Addr} {fd fdL : FuncData} {k : Nat} (F : Fun K "are_same" "are_same" sSam f fd) (OL : FnOk P w K mg base CX0 (k + 1) fL fdL ["fence"] (spLow K)) (kL : PySem.W.keepIn K (.ref fL) = true) (bL : Binds K fdL ["fence"] []) (gL : mg "lowest_fence" = some (.ref fL)) :
    FnOk P w K mg base CX0 (k + 1 + 1) f fd ["fence", "other"] (spSam K) := by
  refine F.ok scSam (fun vs H Q E h => ?_) (fun cdv A outer s H vs Q E hr h => ?_)
  · obtain ⟨t, c, o, b, ks, os, t2, c2, o2, b2, ks2, os2, rfl, _⟩ := h
    rfl
  · obtain ⟨t, c, o, b, ks, os, t2, c2, o2, b2, ks2, os2, rfl, fa, isf, fa2, isf2, q⟩ := h
    refine ⟨_, pss_one (ps_ret (pe_cmpR (op_eqD (hu_of64 hr)) (pe_call OL hr (by rfl) gL kL bL .nil pass0 (pa_cons (pv 0) pa_nil)) (pe_call OL hr (by rfl) gL kL bL .nil pass0 (pa_cons (pv 1) pa_nil)) (nomark _))), ?_⟩
    refine ⟨_, rfl, t, c, o, b, ks, os, rfl, fa, isf, fun H1 u1 c1' o1' ks1 s1 n1 e1 => ?_⟩
    refine ⟨_, rfl, t2, c2, o2, b2, ks2, os2, rfl, fa2.same s1, isf2, fun H2 u2 c2' o2' ks2' s2 n2 e2 => ?_⟩
    have d1 := (n1.same s2).fat.dp
    have d2 := n2.fat.dp
    rw [e1] at d1
    rw [e2] at d2
    exact ⟨_, _, d1, d2, shaped_f _ _ _, shaped_f _ _ _, q _ (s1.trans s2)⟩
def kindS (cs : List Hull.P) : Str := if cs.length = 1 then "point" else if cs.length = 2 then "stretch" else "field"
def spKnd (K : PySem.W.Frag) : Sp := fun vs H Q _ => ∃ (t c o : Addr) (b : Int) (ks : Pts) (os : List Int), vs = [.ref t] ∧ FAt K H t c o b ks os ∧ IsF b (ks.map (·.2)) os ∧ ∀ H', Same H H' → Q (.str (kindS (ks.map (·.2)))) H'
theorem ok_knd {f fC : Addr} {fd fdC : FuncData} {k : Nat} (F : Fun K "fence_kind" "fence_kind" sKnd f fd) (OC : FnOk P w K mg base CX0 (k + 1) fC fdC ["value"] (spChk K)) (kC : PySem.W.keepIn K (.ref fC) = true) (bC : Binds K fdC ["value"] []) (gC : mg "check_fence" = some (.ref fC)) (T : Nms mg) :
    FnOk P w K mg base CX0 (k + 1 + 1) f fd ["fence"] (spKnd K) := by
  refine F.ok scKnd (fun vs H Q E h => ?_) (fun cdv A outer s H vs Q E hr h => ?_)
  · obtain ⟨t, c, o, b, ks, os, rfl, _⟩ := h
    rfl
  · obtain ⟨t, c, o, b, ks, os, rfl, fa, isf, q⟩ := h
    refine ⟨_, pss_cons (ps_expr (pe_call OC hr (by rfl) gC kC bC .nil pass0 (pa_cons (pv 0) pa_nil)))
      (pss_cons (ps_set (i := 1) scKnd.nd rfl (.inl rfl) (pe_ix ix_tup (pv 0) pe_int (fun _ _ => rfl)))
      (pss_cons (ps_if (pt_cmpR op_eq (pe_callB call_len_seq (by rfl) T.mlen PySem.boot_len (pa_cons (pv 1) pa_nil)) pe_int (nomark _)) (pss_one (ps_ret pe_str)) pss_nil)
      (pss_cons (ps_if (pt_cmpR op_eq (pe_callB call_len_seq (by rfl) T.mlen PySem.boot_len (pa_cons (pv 1) pa_nil)) pe_int (nomark _)) (pss_one (ps_ret pe_str)) pss_nil)
      (pss_one (ps_ret pe_str))))), ?_⟩
    refine ⟨_, rfl, t, c, o, b, ks, os, rfl, fa, isf, fun H1 s1 => ?_⟩
    have f1 := fa.same s1
    have q1 := q _ s1
    unfold kindS at q1
    rw [List.length_map] at q1
    refine ⟨.ref t, rfl, t, _, 1, .ref c, rfl, rfl, f1.tup, rfl, ?_⟩
    refine ⟨.ref c, rfl, c, _, rfl, .inl f1.cor, rfl, _, rfl, ite2 (fun d => ?_) (fun d => ?_)⟩
    · rw [refs_len] at d
      have d1 : (ks.length : Int) = 1 := V.int.inj (of_decide_eq_true d)
      rw [if_pos (by omega)] at q1
      exact q1
    rw [refs_len] at d
    have d1 : ks.length ≠ 1 := fun z => d (decide_eq_true (by rw [z]; rfl))
    rw [if_neg d1] at q1
    refine ⟨.ref c, rfl, c, _, rfl, .inl f1.cor, rfl, _, rfl, ite2 (fun e => ?_) (fun e => ?_)⟩
    · rw [refs_len] at e
      have e1 : (ks.length : Int) = 2 := V.int.inj (of_decide_eq_true e)
      rw [if_pos (by omega)] at q1
      exact q1
    · rw [refs_len] at e
      have e1 : ks.length ≠ 2 := fun z => e (decide_eq_true (by rw [z]; rfl))
      rw [if_neg e1] at q1
      exact q1
end
end K3
set_option Elab.async false
set_option linter.all false
set_option maxRecDepth 100000
set_option maxHeartbeats 1000000
set_option exponentiation.threshold 20000
namespace Fen
open PySem PySem.Spec PyProof.Rows L2
def crossAt (cs : List Hull.P) (i : Nat) : Int := (cs.getD i (0, 0)).1 * (cs.getD ((i + 1) % cs.length) (0, 0)).2 - (cs.getD i (0, 0)).2 * (cs.getD ((i + 1) % cs.length) (0, 0)).1
def areaT (cs : List Hull.P) : Int := ((List.range cs.length).map (crossAt cs)).sum
def areaG (b : Int) (cs : List Hull.P) : Int := ((Nat.gcd (areaT cs).natAbs (2 * b * b).natAbs : Nat) : Int)
theorem getD_snd {ks : Pts} {i : Nat} {p : Addr × Hull.P} (h : ks[i]? = some p) : (ks.map (·.2)).getD i (0, 0) = p.2 := by rw [List.getD_eq_getElem?_getD, List.getElem?_map, h] <;> rfl
theorem crossAt_eq {ks : Pts} {i : Nat} {p q : Addr × Hull.P} (h : ks[i]? = some p) (h2 : ks[(i + 1) % ks.length]? = some q) : crossAt (ks.map (·.2)) i = p.2.1 * q.2.2 - p.2.2 * q.2.1 := by
  unfold crossAt
  rw [List.length_map, getD_snd h, getD_snd h2]
theorem areaG_ok {b : Int} (h1 : 1 ≤ b) (h2 : b ≤ 30) (cs : List Hull.P) : 0 < areaG b cs ∧ areaG b cs < 1073741824 := by
  have p1 : 0 < 2 * b * b := Int.mul_pos (by omega) (by omega)
  have p2 : 2 * b * b ≤ 60 * 30 := Int.mul_le_mul (by omega) h2 (by omega) (by decide)
  unfold areaG
  have h3 : 0 < Nat.gcd (areaT cs).natAbs (2 * b * b).natAbs := Nat.gcd_pos_of_pos_right _ (by omega)
  have h4 : Nat.gcd (areaT cs).natAbs (2 * b * b).natAbs ≤ (2 * b * b).natAbs := Nat.gcd_le_right _ (by omega)
  omega
end Fen
namespace K3
open PySem PySem.Spec PyProof.Rows L2 Fen
section
variable {P : Program} {w : World} {K : PySem.W.Frag} {mg : Str → Option Value} {base : Heap}
def spFrc : Sp := fun vs H Q _ => ∃ (top bot g : Int), vs = [.int top, .int bot] ∧ g = ((Nat.gcd top.natAbs bot.natAbs : Nat) : Int) ∧ 0 < g ∧ g < 1073741824 ∧ ∀ x, H x = none → Q (.ref x) (upd H x (.tup [.int (top / g), .int (bot / g)]))
theorem ok_frc {f : Addr} {fd : FuncData} {k : Nat} (F : Fun K "fraction_of" "fraction_of" sFrc f fd) (mg3 : mg "gcd" = some (.builtin "math.gcd")) : FnOk P w K mg base CX0 (k + 1) f fd ["top", "bottom"] spFrc := by
  refine F.ok scFrc (fun vs H Q E h => ?_) (fun cdv A outer s H vs Q E hr h => ?_)
  · obtain ⟨top, bot, g, rfl, _⟩ := h
    rfl
  · obtain ⟨top, bot, g, rfl, eg, g0, g1, q⟩ := h
    refine ⟨_, pss_cons (ps_set (i := 2) scFrc.nd rfl (.inl rfl) (pe_callBfun cr_gcd (by rfl) mg3 (pa_cons (pv 0) (pa_cons (pv 1) pa_nil))))
      (pss_one (ps_ret (pe_tup (pa_cons (pe_op op_fdiv (pv 0) (pv 2)) (pa_cons (pe_op op_fdiv (pv 1) (pv 2)) pa_nil))))), ?_⟩
    refine ⟨_, rfl, _, rfl, _, _, rfl, ?_⟩
    rw [← eg]
    exact ⟨_, rfl, _, rfl, _, _, rfl, rfl, ⟨g0, g1⟩, _, rfl, _, rfl, _, _, rfl, rfl, ⟨g0, g1⟩, by show 2 ≤ sizeLine; decide, fun x nx => q x nx⟩
def spAre (K : PySem.W.Frag) : Sp := fun vs H Q _ => ∃ (t c o : Addr) (b : Int) (ks : Pts) (os : List Int), vs = [.ref t] ∧ FAt K H t c o b ks os ∧ IsF b (ks.map (·.2)) os ∧
  ∀ H' x, Same H H' → H' x = some (.tup [.int (areaT (ks.map (·.2)) / areaG b (ks.map (·.2))), .int (2 * b * b / areaG b (ks.map (·.2)))]) → Q (.ref x) H'
theorem ok_are {f fC fN : Addr} {fd fdC fdN : FuncData} {k : Nat} (F : Fun K "fence_area" "fence_area" sAre f fd) (OC : FnOk P w K mg base CX0 (k + 1) fC fdC ["value"] (spChk K)) (kC : PySem.W.keepIn K (.ref fC) = true) (bC : Binds K fdC ["value"] []) (gC : mg "check_fence" = some (.ref fC))
    (ON : FnOk P w K mg base CX0 (k + 1) fN fdN ["corners", "side"] (spNx K)) (kN : PySem.W.keepIn K (.ref fN) = true) (bN : Binds K fdN ["corners", "side"] []) (gN : mg "next_corner" = some (.ref fN)) (T : Nms mg) {fG : Addr} {fdG : FuncData} (OG : FnOk P w K mg base CX0 (k + 1) fG fdG ["top", "bottom"] spFrc) (kG : PySem.W.keepIn K (.ref fG) = true) (bG : Binds K fdG ["top", "bottom"] []) (gG : mg "fraction_of" = some (.ref fG)) :
    FnOk P w K mg base CX0 (k + 1 + 1) f fd ["fence"] (spAre K) := by
  refine F.ok scAre (fun vs H Q E h => ?_) (fun cdv A outer s H vs Q E hr h => ?_)
  · obtain ⟨t, c, o, b, ks, os, rfl, _⟩ := h
    rfl
  · obtain ⟨t, c, o, b, ks, os, rfl, fa, isf, q⟩ := h
    refine ⟨_, pss_cons (ps_expr (pe_call OC hr (by rfl) gC kC bC .nil pass0 (pa_cons (pv 0) pa_nil)))
      (pss_cons (ps_asg (pv 0) (pg_tup rfl (pgs_cons (pg_name (i := 1) scAre.nd rfl (.inl rfl)) (pgs_cons (pg_name (i := 2) scAre.nd rfl (.inl rfl)) (pgs_cons (pg_name (i := 3) scAre.nd rfl (.inl rfl)) pgs_nil)))))
      (pss_cons (ps_set (i := 4) scAre.nd rfl (.inl rfl) pe_int)
      (pss_cons (ps_for PassesOwn.never rfl (pi_enum (by rfl) T.menum (pa_cons (pv 2) pa_nil)) (pg_tup rfl (pgs_cons (pg_name (i := 5) scAre.nd rfl (.inl rfl)) (pgs_cons (pg_tup rfl (pgs_cons (pg_name (i := 6) scAre.nd rfl (.inl rfl)) (pgs_cons (pg_name (i := 7) scAre.nd rfl (.inl rfl)) pgs_nil))) pgs_nil)))
        (pss_cons (ps_asg (pe_call ON hr (by rfl) gN kN bN .nil pass0 (pa_cons (pv 2) (pa_cons (pv 5) pa_nil))) (pg_tup rfl (pgs_cons (pg_name (i := 8) scAre.nd rfl (.inl rfl)) (pgs_cons (pg_name (i := 9) scAre.nd rfl (.inl rfl)) pgs_nil))))
        (pss_one (ps_aug (i := 4) scAre.nd rfl (.inl rfl) (pe_op op_sub (pe_op op_mulW (pv 6) (pv 9)) (pe_op op_mulW (pv 7) (pv 8))) ip_add))))
      (pss_one (ps_ret (pe_call OG hr (by rfl) gG kG bG .nil pass0 (pa_cons (pv 4) (pa_cons (pe_op op_mul (pe_op op_mul pe_int (pv 1)) (pv 1)) pa_nil)))))))), ?_⟩
    refine ⟨_, rfl, t, c, o, b, ks, os, rfl, fa, isf, fun H1 s1 => ?_⟩
    have f1 := fa.same s1
    have l1 := isf.l1
    rw [List.length_map] at l1
    refine ⟨.ref t, rfl, t, _, rfl, f1.tup, rfl, .int b, [.ref c, .ref o], rfl, .ref c, [.ref o], rfl, .ref o, [], rfl, rfl, ?_⟩
    refine ⟨.ref c, rfl, c, _, rfl, f1.cor, ?_⟩
    refine for_it (walk_enum (K := K) (a := c) (xs := refs ks)) (fun e σ H' => ∃ z5 z6 z7 z8 z9, σ = [some (.ref t), some (.int b), some (.ref c), some (.ref o), some (.int ((List.range e).map (crossAt (ks.map (·.2)))).sum), z5, z6, z7, z8, z9] ∧ Same H1 H') ⟨_, _, _, _, _, rfl, Same.refl _⟩ (fun e σ H' _ z => ?_) ?_ ?_
    · obtain ⟨_, _, _, _, _, _, z⟩ := z
      exact z.seq f1.cor
    · rintro e x σ H7 H8 he ⟨z5, z6, z7, z8, z9, rfl, s7⟩ ⟨U, x1, x2, rfl, nU, rfl, e1, e2⟩
      have ex1 : x1 = .int (e : Nat) := (Option.some.inj e1).symm
      subst ex1
      obtain ⟨p, hp, rfl⟩ := refs_get e2
      rw [refs_len] at he
      have lb : (e + 1) % ks.length < ks.length := Nat.mod_lt _ (by omega)
      obtain ⟨r, hr2⟩ : ∃ r, ks[(e + 1) % ks.length]? = some r := ⟨_, List.getElem?_eq_getElem lb⟩
      have mp := List.mem_of_getElem? hp
      have mr := List.mem_of_getElem? hr2
      have s8 := s7.trans (same_new (o := .tup [.int (e : Nat), .ref p.1]) nU)
      have f8 := f1.same s8
      have sp := (isf.co p.2 (List.mem_map.mpr ⟨p, mp, rfl⟩)).sm
      have sr := (isf.co r.2 (List.mem_map.mpr ⟨r, mr, rfl⟩)).sm
      refine ⟨U, _, rfl, SqT.of upd_same, rfl, .int (e : Nat), [.ref p.1], rfl, .ref p.1, [], rfl, p.1, _, rfl, f8.pts p mp, rfl, .int p.2.1, [.int p.2.2], rfl, .int p.2.2, [], rfl, rfl, rfl, ?_⟩
      refine ⟨.ref c, rfl, _, rfl, c, ks, e, r, rfl, f8.cor, hr2, r.1, _, rfl, f8.pts r mr, rfl, .int r.2.1, [.int r.2.2], rfl, .int r.2.2, [], rfl, rfl, ?_⟩
      refine ⟨_, rfl, _, rfl, _, rfl, _, _, rfl, rfl, wide_mul sp.1 sr.2 (by decide) (by decide) (by decide), _, rfl, _, rfl, _, _, rfl, rfl, wide_mul sp.2 sr.1 (by decide) (by decide) (by decide), _, _, rfl, rfl, _, _, rfl, rfl, some (.int (e : Nat)), some (.int p.2.1), some (.int p.2.2), some (.int r.2.1), some (.int r.2.2), ?_, s8⟩
      rw [List.range_succ, List.map_append, List.sum_append, List.map_singleton, List.sum_singleton, crossAt_eq hp hr2]
      rfl
    · rintro σ H7 ⟨z5, z6, z7, z8, z9, rfl, s7⟩
      obtain ⟨g0, g1⟩ := areaG_ok isf.b1 isf.b2 (ks.map (·.2))
      have b1 := isf.b1
      have b2 := isf.b2
      have eT : ((List.range (refs ks).length).map (crossAt (ks.map (·.2)))).sum = areaT (ks.map (·.2)) := by
        unfold areaT
        rw [refs_len, List.length_map]
      rw [eT]
      refine ⟨_, rfl, _, rfl, _, _, rfl, rfl, .inl ⟨by decide, by decide⟩, _, rfl, _, _, rfl, rfl, .inr ⟨by omega, by omega⟩, ?_⟩
      refine ⟨_, _, _, rfl, rfl, g0, g1, fun x nx => ?_⟩
      exact q _ x ((s1.trans s7).trans (same_new nx)) upd_same
end
end K3
set_option Elab.async false
set_option linter.all false
set_option maxRecDepth 100000
set_option maxHeartbeats 1000000
set_option exponentiation.threshold 20000
namespace Fen
open PySem PySem.Spec PyProof.Rows L2
theorem nodup_len {α : Type} [DecidableEq α] : ∀ (l D : List α), l.Nodup → (∀ x ∈ l, x ∈ D) → l.length ≤ D.length
  | [], _, _, _ => Nat.zero_le _
  | x :: l, D, hn, hs => by
    obtain ⟨n1, n2⟩ := List.nodup_cons.mp hn
    have ih := nodup_len l (D.erase x) n2 fun y hy => (List.mem_erase_of_ne (fun (e : y = x) => n1 (by rw [← e]; exact hy))).mpr (hs y (List.mem_cons_of_mem _ hy))
    have e := List.length_erase_of_mem (hs x List.mem_cons_self)
    have := List.length_pos_of_mem (hs x List.mem_cons_self)
    rw [List.length_cons]
    omega
theorem asc_nodup {s : List Hull.P} (h : s.Pairwise Hull.Lt) : s.Nodup := h.imp fun l => l.ne
theorem hul_len {s D : List Hull.P} (h : s.Pairwise Hull.Lt) (h1 : 1 ≤ s.length) (hs : ∀ x ∈ s, x ∈ D) : (hul s).length ≤ D.length := by
  refine nodup_len _ _ ?_ fun x hx => hs x ((shape_hul h h1).2.2 x hx)
  by_cases e : s.length = 1
  · rw [show hul s = s from if_pos e]
    exact asc_nodup h
  · rw [show hul s = Hull.hull s from if_neg e]
    exact (Hull.poly h (by omega)).nodup
/-- another list is written -/
theorem FAt.upd {K : PySem.W.Frag} {H H' : Hp} {t c o w : Addr} {b : Int} {ks : Pts} {os : List Int} {l : List V} (f : FAt K H t c o b ks os) (hw : H w = some (.lst l)) (s : SameX w H H') (cw : c ≠ w) (ow : o ≠ w) : FAt K H' t c o b ks os := by
  have sq : ∀ {a : Addr} {xs : List V}, a ≠ w → SqL K H a xs → SqL K H' a xs := fun {a xs} n h => by
    rcases h with (h | ⟨u, h⟩) | h
    · exact .inl (.inl (s _ _ n h))
    · exact .inl (.inr ⟨u, s _ _ n h⟩)
    · exact .inr h
  exact ⟨f.tup.put hw s, sq cw f.cor, fun p hp => (f.pts p hp).put hw s, sq ow f.sid⟩
end Fen
namespace K3
open PySem PySem.Spec PyProof.Rows L2 Fen
theorem Drew.list_ne {p : Addr} {H H' : Hp} {n : Nat} (d : Drew p H H' n) {b : Addr} (h : H' b = none) : b ≠ p := fun z => by
  obtain ⟨_, _, _, e, _⟩ := d.bag
  rw [z, e] at h
  cases h
theorem BagAt.ne {p : Addr} {H : Hp} {n : Nat} (d : BagAt H p n) {b : Addr} (h : H b = none) : b ≠ p := fun z => by
  obtain ⟨_, _, _, e, _⟩ := d
  rw [z, e] at h
  cases h
/-- something that was new is written -/
theorem Drew.put {p g : Addr} {H H' : Hp} {n : Nat} {o : HO} (d : Drew p H H' n) (hg : H g = none) (gp : g ≠ p) : Drew p H (upd H' g o) n := by
  refine ⟨fun b u bn e => ?_, ?_⟩
  · rw [upd_ne (ne_of_none e hg)]
    exact d.x b u bn e
  · obtain ⟨a1, a2, a3, e, r⟩ := d.bag
    exact ⟨a1, a2, a3, (upd_ne (Ne.symm gp)).trans e, r⟩
/-- len(xs) if len(xs) > 1 else 0, xs in slot i -/
def tTotE (K : PySem.W.Frag) (i : Nat) : TE := fun σ H Q => ∃ (c : Addr) (hs : Pts), σ[i]? = some (some (.ref c)) ∧ SqL K H c (refs hs) ∧ 1 ≤ hs.length ∧ Q (.int (tot (hs.map (·.2)) : Nat)) H
theorem FAt.drew {K : PySem.W.Frag} {H H' : Hp} {t c o p : Addr} {b : Int} {ks : Pts} {os : List Int} {n m : Nat} (f : FAt K H t c o b ks os) (hb : BagAt H p n) (d : Drew p H H' m) (cp : c ≠ p) (op : o ≠ p) : FAt K H' t c o b ks os := by
  obtain ⟨_, _, _, e, _⟩ := hb
  exact f.upd e d.x cp op
abbrev sFe : Stmt := topS 41
abbrev sDiv : Stmt := topS 42
abbrev nFe : List Str := ["_law_bag_here", "_law_bottom", "_law_many", "_law_wide", "_law_corners", "_law_sides", "_law_way", "_law_side"]
theorem scFe : FnScope nFe ["_law_bag_here", "_law_bottom", "_law_many", "_law_wide"] (defScope sFe) := ⟨rfl, rfl, rfl, by decide +kernel, rfl, by decide +kernel, by decide +kernel⟩
theorem scDiv : FnScope ["_law_one", "_law_other"] ["_law_one", "_law_other"] (defScope sDiv) := ⟨rfl, rfl, rfl, by decide +kernel, rfl, by decide +kernel, by decide +kernel⟩
theorem Cq.co {p : Hull.P} (h : Cq p) : Cor p := by
  unfold Cq at h
  have e : (10 : Int) ^ 30 = 1000000000000000000000000000000 := by decide
  unfold Cor
  rw [e]
  omega
section
variable {P : Program} {w : World} {K : PySem.W.Frag} {mg : Str → Option Value} {base : Heap}
def spFe (K : PySem.W.Frag) : Sp := fun vs H Q _ => ∃ (p : Addr) (b : Int) (many : Nat) (wide : Int) (n : Nat), vs = [.ref p, .int b, .int many, .int wide] ∧ BagAt H p n ∧ n + 200 ≤ 1000000 ∧ 1 ≤ b ∧ b ≤ 30 ∧ 1 ≤ many ∧ many ≤ 9 ∧ 0 < wide ∧ wide ≤ N29 ∧
  ∀ H' t c o ks os, Drew p H H' (n + 60) → H t = none → c ≠ p → o ≠ p → FPl K H' t c o b ks os → IsF b (ks.map (·.2)) os → (∀ q ∈ ks, Cq q.2) → ks.length ≤ 9 → Q (.ref t) H'
theorem ok_fe {f fP fS fH : Addr} {fd fdP fdS fdH : FuncData} {k : Nat} (F : Fun K "_law_fence" "_law_fence" sFe f fd) (T : Nms mg) (T2 : Nm2 mg)
    (OP : FnOk P w K mg base CX0 (k + 1) fP fdP ["_law_bag_here", "_law_many"] spPick) (kP : PySem.W.keepIn K (.ref fP) = true) (bP : Binds K fdP ["_law_bag_here", "_law_many"] []) (gP : mg "_law_pick" = some (.ref fP))
    (OS : FnOk P w K mg base CX0 (k + 1) fS fdS ["_law_bag_here", "_law_many", "_law_wide"] (spPts K)) (kS : PySem.W.keepIn K (.ref fS) = true) (bS : Binds K fdS ["_law_bag_here", "_law_many", "_law_wide"] []) (gS : mg "_law_points" = some (.ref fS))
    (OH : FnOk P w K mg base CX0 (k + 1) fH fdH ["_law_points_here"] (spHul K)) (kH : PySem.W.keepIn K (.ref fH) = true) (bH : Binds K fdH ["_law_points_here"] []) (gH : mg "_law_hull" = some (.ref fH)) :
    FnOk P w K mg base CX0 (k + 1 + 1) f fd ["_law_bag_here", "_law_bottom", "_law_many", "_law_wide"] (spFe K) := by
  refine F.ok scFe (fun vs H Q E h => ?_) (fun cdv A outer s H vs Q E hr h => ?_)
  · obtain ⟨p, b, many, wide, n, rfl, _⟩ := h
    rfl
  · obtain ⟨p, b, many, wide, n, rfl, hb, hn, b1, b2, m1, m2, w0, w1, q⟩ := h
    refine ⟨_, pss_cons (ps_set (i := 4) scFe.nd rfl (.inl rfl) (pe_call OH hr (by rfl) gH kH bH .nil pass0 (pa_cons (pe_call OS hr (by rfl) gS kS bS .nil pass0 (pa_cons (pv 0) (pa_cons (pe_op op_add pe_int (pe_call OP hr (by rfl) gP kP bP .nil pass0 (pa_cons (pv 0) (pa_cons (pv 2) pa_nil)))) (pa_cons (pv 3) pa_nil)))) pa_nil)))
      (pss_cons (ps_set (i := 5) scFe.nd rfl (.inl rfl) (PE.of (tTotE K 4) (pe_ifExp (pt_cmpR op_gt (pe_callB call_len_seq (by rfl) T.mlen PySem.boot_len (pa_cons (pv 4) pa_nil)) pe_int (nomark _)) (pe_callB call_len_seq (by rfl) T.mlen PySem.boot_len (pa_cons (pv 4) pa_nil)) pe_int) ?tt))
      (pss_cons (ps_set (i := 6) scFe.nd rfl (.inl rfl) (pe_call OP hr (by rfl) gP kP bP .nil pass0 (pa_cons (pv 0) (pa_cons pe_int pa_nil))))
      (pss_cons (ps_if (pt_cmpR op_eq (pv 6) pe_int (nomark _)) (pss_one (ps_ret (pe_tup (pa_cons (pv 1) (pa_cons (pv 4) (pa_cons (pe_lst pa_nil) pa_nil)))))) pss_nil)
      (pss_cons (ps_if (pt_cmpR op_eq (pv 6) pe_int (nomark _)) (pss_one (ps_ret (pe_tup (pa_cons (pv 1) (pa_cons (pv 4) (pa_cons (pe_listRg rfl (by rfl) T.mlst (prg_1 (by rfl) T2.mrange (pv 5))) pa_nil)))))) pss_nil)
      (pss_one (ps_ret (pe_tup (pa_cons (pv 1) (pa_cons (pv 4) (pa_cons (pe_lc (own := [("_law_side", 7)]) (g := gName 7) (tt := tTest (tOp rEq (tCall spPick [] E0 (tCons (tVar 0) (tCons (tC (.int 2)) tNil))) (tC (.int 0)))) rfl scFe.nd (pi_range1 rfl T2.mrange (pa_cons (pv 5) pa_nil)) (blkOk_by (N := nFe) (sc := defScope sFe) (by decide +kernel)) (fun _ _ _ _ _ => pg_name (i := 7) scFe.nd rfl (Or.inl rfl))
          (fun _ _ _ _ _ => pts_one (pt_cmpR op_eq (pe_call OP hr (by rfl) gP kP bP .nil pass0 (pa_cons (pv 0) (pa_cons pe_int pa_nil))) pe_int (nomark _))) (fun _ _ _ _ _ => pv 7)) pa_nil)))))))))), ?_⟩
    case tt =>
      rintro σ H Q ⟨c, hs, ec, hS, l1, q⟩
      refine ⟨.ref c, ec, c, _, rfl, .inl hS, _, _, rfl, rfl, _, rfl, ite2 (fun d => ?_) (fun d => ?_)⟩
      · refine ⟨.ref c, ec, c, _, rfl, .inl hS, ?_⟩
        rw [refs_len] at d ⊢
        have d1 : 1 < (hs.length : Int) := of_decide_eq_true d
        unfold tot at q
        rw [List.length_map, if_neg (by omega)] at q
        exact q
      · rw [refs_len] at d
        have d1 : ¬ 1 < (hs.length : Int) := fun z => d (decide_eq_true z)
        unfold tot at q
        rw [List.length_map, if_pos (by omega)] at q
        exact q
    refine ⟨_, rfl, _, rfl, _, rfl, p, (many : Int), n, rfl, by omega, Int.lt_of_le_of_lt (show (many : Int) ≤ 9 by omega) (by decide), hb, by omega, fun r H1 r0 r1 d1 _ => ?_⟩
    obtain ⟨m, hm⟩ : ∃ m : Nat, 1 + r = (m : Int) := ⟨(1 + r).toNat, by omega⟩
    refine ⟨_, _, rfl, rfl, _, rfl, p, m, wide, n + 1, (by rw [← hm] <;> rfl), d1.bag, by omega, by omega, by omega, w0, w1, fun H2 f2 ks d2 nf2 fp hf2 T2' cq lk => ?_⟩
    have dA := d1.then d2
    refine ⟨f2, ks, rfl, SqL.of hf2, T2', fun x hx => ((cq x hx).co).sm, by omega, fun H3 c hs s s3 nc hc sub asc mem e2 => ?_⟩
    have cp : c ≠ p := dA.list_ne nc
    have dB := dA.new s3
    have la : 1 ≤ s.length := by
      obtain ⟨x, hx⟩ : ∃ x, x ∈ ks := List.exists_mem_of_length_pos (by omega)
      exact List.length_pos_of_mem ((mem x.2).mpr (List.mem_map.mpr ⟨x, hx, rfl⟩))
    obtain ⟨shp, lh1, hsub⟩ := shape_hul asc la
    have lh2 : hs.length ≤ 9 := by
      have := hul_len asc la (fun x hx => (mem x).mp hx)
      rw [← e2, List.length_map, List.length_map] at this
      omega
    rw [← e2] at shp lh1
    have cqh : ∀ x ∈ hs, Cq x.2 := fun x hx => cq x (sub x hx)
    have isf : ∀ os : List Int, os.Pairwise (· < ·) → (∀ o ∈ os, 0 ≤ o ∧ o < tot (hs.map (·.2))) → IsF b (hs.map (·.2)) os := fun os u1 u2 => ⟨b1, b2, lh1, by rw [List.length_map]; omega, fun x hx => by
      obtain ⟨y, hy, rfl⟩ := List.mem_map.mp hx
      exact (cqh y hy).co, shp, u1, u2⟩
    have Th : At K H3 hs := (T2'.same s3).sub sub
    have eT : tot (hs.map (·.2)) = if hs.length = 1 then 0 else hs.length := by
      unfold tot
      rw [List.length_map]
    rw [List.length_map] at lh1
    have t9 : tot (hs.map (·.2)) ≤ 9 := by
      rw [eT]
      split <;> omega
    -- how many sides
    refine ⟨c, hs, rfl, SqL.of hc, lh1, ?_⟩
    refine ⟨_, rfl, p, 4, _, rfl, by decide, by decide, dB.bag, by omega, fun way H4 a0 a1 d4 o4 => ?_⟩
    have hc4 : H4 c = some (.lst (refs hs)) := by rw [o4 c cp]; exact hc
    have T4 : At K H4 hs := At.drew Th dB.bag d4
    have dC := dB.then d4
    have c0H : H c = none := dA.free nc
    refine ⟨_, rfl, rfl, _, rfl, ite2 (fun e => ?_) (fun e => ?_)⟩
    · refine ⟨_, rfl, .ref c, rfl, by show 0 ≤ sizeLine; decide, fun o no => ⟨by show 3 ≤ sizeLine; decide, fun t nt => ?_⟩⟩
      have s5 := (same_new (o := .lst []) no).trans (same_new (o := .tup [.int b, .ref c, .ref o]) nt)
      have dD := dC.new s5
      exact q _ t c o hs [] ⟨dD.x, dD.bag.more (by omega)⟩ ((dC.new (same_new no)).free nt) cp (dC.list_ne no) ⟨upd_same, s5 _ _ hc4, T4.same s5, (same_new nt) _ _ upd_same⟩ (isf [] List.Pairwise.nil fun o ho => nomatch ho) cqh lh2
    refine ⟨_, rfl, rfl, _, rfl, ite2 (fun e2' => ?_) (fun e2' => ?_)⟩
    · refine ⟨_, rfl, .ref c, rfl, _, rfl, _, rfl, RgOk.of_le (by decide) (by omega) (by decide) (by omega), fun o no => ⟨by show 3 ≤ sizeLine; decide, fun t nt => ?_⟩⟩
      rw [rgV_rI] at nt ⊢
      have s5 := (same_new (o := .lst ((Fen.rI (tot (hs.map (·.2)))).map V.int)) no).trans (same_new (o := .tup [.int b, .ref c, .ref o]) nt)
      have dD := dC.new s5
      exact q _ t c o hs (Fen.rI (tot (hs.map (·.2)))) ⟨dD.x, dD.bag.more (by omega)⟩ ((dC.new (same_new no)).free nt) cp (dC.list_ne no) ⟨upd_same, s5 _ _ hc4, T4.same s5, (same_new nt) _ _ upd_same⟩ (isf _ (rI_up _) fun o ho => rI_in ho) cqh lh2
    · refine ⟨_, rfl, .ref c, rfl, _, rfl, _, rfl, by omega, by omega, fun D nD => ?_⟩
      have Dp := dC.list_ne nD
      have DH := dC.free nD
      refine lc_range (lo := 0) (n := ((tot (hs.map (·.2)) : Nat) : Int).toNat) (fun j H' => ∃ os : List Int, Drew p H H' (n + 46 + j) ∧ H' D = some (.lst (os.map V.int)) ∧ H' c = some (.lst (refs hs)) ∧ At K H' hs ∧ os.Pairwise (· < ·) ∧ (∀ o ∈ os, 0 ≤ o ∧ o < j) ∧ os.length ≤ j) ⟨[], (dC.new (same_new nD)) |> fun d => ⟨d.x, d.bag.more (by omega)⟩, upd_same, (same_new nD) _ _ hc4, T4.same (same_new nD), List.Pairwise.nil, fun o ho => (nomatch ho), Nat.zero_le _⟩ ?_ ?_
      · rintro j H5 hj ⟨os, d5, hD, hc5, T5, up, inn, lo⟩
        have hj2 : j < 9 := by omega
        refine ⟨rfl, _, rfl, p, 2, _, rfl, by decide, by decide, d5.bag, by omega, fun r H6 r0 r1 d6 o6 => ⟨rfl, _, rfl, ?_⟩⟩
        have hD6 : H6 D = some (.lst (os.map V.int)) := by rw [o6 D Dp]; exact hD
        have hc6 : H6 c = some (.lst (refs hs)) := by rw [o6 c cp]; exact hc5
        have T6 := At.drew T5 d5.bag d6
        have d7 := d5.then d6
        have Dc : D ≠ c := fun z => by
          rw [z, hc4] at nD
          cases nD
        refine ite2 (fun _ => ?_) (fun _ => ?_)
        · refine ⟨_, rfl, _, hD6, by rw [List.length_map]; exact Nat.lt_of_lt_of_le (show os.length < 10 by omega) (by decide), os ++ [(j : Int)], (d7.put DH Dp) |> fun d => ⟨d.x, d.bag.more (by omega)⟩, ?_, (upd_ne (Ne.symm Dc)).trans hc6, At.put T6 hD6 SameX.put, ?_, fun o ho => ?_, by rw [List.length_append]; simpa using lo⟩
          · rw [upd_same, List.map_append, Int.zero_add]
            rfl
          · rw [List.pairwise_append]
            refine ⟨up, List.pairwise_singleton _ _, fun x hx y hy => ?_⟩
            rw [List.mem_singleton.mp hy]
            exact (inn x hx).2
          · rcases List.mem_append.mp ho with z | z
            · have := inn o z
              omega
            · rw [List.mem_singleton.mp z]
              omega
        · exact ⟨os, ⟨d7.x, d7.bag.more (by omega)⟩, hD6, hc6, T6, up, fun o ho => (by have := inn o ho; omega), by omega⟩
      · rintro H5 ⟨os, d5, hD, hc5, T5, up, inn, lo⟩
        have ez : ((tot (hs.map (·.2)) : Nat) : Int).toNat = tot (hs.map (·.2)) := Int.toNat_natCast _
        rw [ez] at d5 inn lo
        refine ⟨by show 3 ≤ sizeLine; decide, fun t nt => ?_⟩
        have s5 := same_new (o := .tup [.int b, .ref c, .ref D]) nt
        have dD := d5.new s5
        exact q _ t c D hs os ⟨dD.x, dD.bag.more (by omega)⟩ (d5.free nt) cp Dp ⟨upd_same, s5 _ _ hc5, T5.same s5, s5 _ _ hD⟩ (isf os up inn) cqh lh2
end
end K3
set_option Elab.async false
set_option linter.all false
set_option maxRecDepth 100000
set_option maxHeartbeats 1000000
set_option exponentiation.threshold 20000
namespace K3
open PySem PySem.Spec PyProof.Rows L2 Fen
abbrev sLL : Stmt := topS 43
abbrev sLA : Stmt := topS 44
abbrev sTim : Stmt := topS 45
abbrev sAln : Stmt := topS 46
abbrev nLL : List Str := ["_law_shape", "_law_bottom", "_law_corners", "_law_sides", "_law_divisor_here", "_law_x", "_law_y"]
theorem scLL : FnScope nLL ["_law_shape"] (defScope sLL) := ⟨rfl, rfl, rfl, by decide +kernel, rfl, by decide +kernel, by decide +kernel⟩
abbrev nLA : List Str := ["_law_shape", "_law_bottom", "_law_corners", "_law_sides", "_law_total", "_law_below", "_law_divisor_here", "_law_one", "_law_two"]
theorem scLA : FnScope nLA ["_law_shape"] (defScope sLA) := ⟨rfl, rfl, rfl, by decide +kernel, rfl, by decide +kernel, by decide +kernel⟩
abbrev nTim : List Str := ["_law_shape", "_law_times_here", "_law_x", "_law_y"]
theorem scTim : FnScope nTim ["_law_shape", "_law_times_here"] (defScope sTim) := ⟨rfl, rfl, rfl, by decide +kernel, rfl, by decide +kernel, by decide +kernel⟩
theorem scAln : FnScope ["_law_told", "_law_shape", "_law_kept"] ["_law_told", "_law_shape"] (defScope sAln) := ⟨rfl, rfl, rfl, by decide +kernel, rfl, by decide +kernel, by decide +kernel⟩
section
variable {P : Program} {w : World} {K : PySem.W.Frag} {mg : Str → Option Value} {base : Heap}
def spDiv : Sp := fun vs H Q _ => ∃ a b : Int, vs = [.int a, .int b] ∧ Q (.int ((Nat.gcd a.natAbs b.natAbs : Nat) : Int)) H
theorem ok_div {f : Addr} {fd : FuncData} {k : Nat} (F : Fun K "_law_divisor" "_law_divisor" sDiv f fd) (T : Nms mg) (T2 : Nm2 mg) : FnOk P w K mg base CX0 (k + 1) f fd ["_law_one", "_law_other"] spDiv := by
  refine F.ok scDiv (fun vs H Q E h => ?_) (fun cdv A outer s H vs Q E hr h => ?_)
  · obtain ⟨a, b, rfl, _⟩ := h
    rfl
  · obtain ⟨a, b, rfl, q⟩ := h
    refine ⟨_, pss_cons (ps_par (i := 0) (j := 1) rfl scDiv.nd rfl rfl (by decide) rfl rfl (pa_cons (pe_callB call_abs (by rfl) T2.mabs (by decide +kernel) (pa_cons (pv 0) pa_nil)) (pa_cons (pe_callB call_abs (by rfl) T2.mabs (by decide +kernel) (pa_cons (pv 1) pa_nil)) pa_nil)) (by rfl))
      (pss_cons (ps_while PassesOwn.never (pt_cmpR op_gt (pv 1) pe_int (nomark _)) (pss_one (ps_par (i := 0) (j := 1) rfl scDiv.nd rfl rfl (by decide) rfl rfl (pa_cons (pv 1) (pa_cons (pe_op op_mod (pe_callTy call_int1 (by rfl) T.mint (by decide +kernel) (pa_cons (pv 0) pa_nil)) (pv 1)) pa_nil)) (by rfl))))
      (pss_one (ps_ret (pv 0)))), ?_⟩
    have ea : ∀ z : Int, (if z < 0 then -z else z) = (z.natAbs : Int) := fun z => by split <;> omega
    refine ⟨_, rfl, _, rfl, _, rfl, _, rfl, _, _, rfl, ?_⟩
    refine ⟨fun m σ H' => ∃ x y : Nat, m = y ∧ σ = [some (.int (x : Int)), some (.int (y : Int))] ∧ H' = H ∧ Nat.gcd x y = Nat.gcd a.natAbs b.natAbs, ⟨b.natAbs, a.natAbs, b.natAbs, rfl, ?_, rfl, rfl⟩, ?_⟩
    · show [some (V.int _), some (V.int _)] = _
      rw [ea, ea]
    · rintro m σ H' ⟨x, y, ey, rfl, rfl, e⟩
      subst ey
      refine ⟨_, rfl, _, _, rfl, rfl, _, rfl, ite2 (fun d => ?_) (fun d => ?_)⟩
      · have d1 : 0 < (m : Int) := of_decide_eq_true d
        refine ⟨fun σ' H' => ∃ m', m' < m ∧ ∃ x' y' : Nat, m' = y' ∧ σ' = [some (.int (x' : Int)), some (.int (y' : Int))] ∧ H' = _ ∧ Nat.gcd x' y' = Nat.gcd a.natAbs b.natAbs, fun σ' H' z => z, ?_⟩
        refine ⟨_, rfl, _, rfl, .inl ⟨_, rfl, _, rfl, _, _, rfl, rfl, d1, _, _, rfl, x % m, Nat.mod_lt _ (by omega), m, x % m, rfl, rfl, rfl, ?_⟩⟩
        rw [← e, Nat.gcd_comm x m, Nat.gcd_rec m x, Nat.gcd_comm]
      · have d1 : ¬ 0 < (m : Int) := fun z => d (decide_eq_true z)
        obtain rfl : m = 0 := by omega
        rw [Nat.gcd_zero_right] at e
        rw [← e] at q
        exact ⟨_, rfl, q⟩
def spLL (K : PySem.W.Frag) : Sp := fun vs H Q _ => ∃ (t c o : Addr) (b : Int) (ks : Pts) (os : List Int), vs = [.ref t] ∧ FPl K H t c o b ks os ∧ IsF b (ks.map (·.2)) os ∧
  ∀ H' t' c' ks', Same H H' → H t' = none → H c' = none → FPl K H' t' c' o (lowB b (ks.map (·.2))) ks' os → ks'.map (·.2) = lowC b (ks.map (·.2)) → Q (.ref t') H'
theorem ok_ll {f fD : Addr} {fd fdD : FuncData} {k : Nat} (F : Fun K "_law_lowest" "_law_lowest" sLL f fd) (OD : FnOk P w K mg base CX0 (k + 1) fD fdD ["_law_one", "_law_other"] spDiv) (kD : PySem.W.keepIn K (.ref fD) = true) (bD : Binds K fdD ["_law_one", "_law_other"] []) (gD : mg "_law_divisor" = some (.ref fD)) :
    FnOk P w K mg base CX0 (k + 1 + 1) f fd ["_law_shape"] (spLL K) := by
  refine F.ok scLL (fun vs H Q E h => ?_) (fun cdv A outer s H vs Q E hr h => ?_)
  · obtain ⟨t, c, o, b, ks, os, rfl, _⟩ := h
    rfl
  · obtain ⟨t, c, o, b, ks, os, rfl, fpl, isf, q⟩ := h
    have f1 := fpl.fat
    refine ⟨_, pss_cons (ps_asg (pv 0) (pg_tup rfl (pgs_cons (pg_name (i := 1) scLL.nd rfl (.inl rfl)) (pgs_cons (pg_name (i := 2) scLL.nd rfl (.inl rfl)) (pgs_cons (pg_name (i := 3) scLL.nd rfl (.inl rfl)) pgs_nil)))))
      (pss_cons (ps_set (i := 4) scLL.nd rfl (.inr rfl) (pv 1))
      (pss_cons (ps_for PassesOwn.never rfl (pi_list (pv 2)) (pg_tup rfl (pgs_cons (pg_name (i := 5) scLL.nd rfl (.inl rfl)) (pgs_cons (pg_name (i := 6) scLL.nd rfl (.inl rfl)) pgs_nil)))
        (pss_one (ps_set (i := 4) scLL.nd rfl (.inr rfl) (pe_call OD hr (by rfl) gD kD bD .nil pass0 (pa_cons (pe_call OD hr (by rfl) gD kD bD .nil pass0 (pa_cons (pv 4) (pa_cons (pv 5) pa_nil))) (pa_cons (pv 6) pa_nil))))))
      (pss_one (ps_ret (pe_tup (pa_cons (pe_op op_fdiv (pv 1) (pv 4)) (pa_cons (pe_lc (own := [("_law_x", 5), ("_law_y", 6)]) (g := gTup K 2 (gCons (gName 5) (gCons (gName 6) gNil))) (tt := tYes) rfl scLL.nd (pi_list (pv 2)) (blkOk_by (N := nLL) (sc := defScope sLL) (by decide +kernel)) (fun _ _ _ _ _ => pg_tup rfl (pgs_cons (pg_name (i := 5) scLL.nd rfl (Or.inl rfl)) (pgs_cons (pg_name (i := 6) scLL.nd rfl (Or.inl rfl)) pgs_nil))) (fun _ _ _ _ _ => pts_nil)
          (fun _ _ _ _ _ => pe_tup (pa_cons (pe_op op_fdiv (pv 5) (pv 4)) (pa_cons (pe_op op_fdiv (pv 6) (pv 4)) pa_nil))))
          (pa_cons (pv 3) pa_nil)))))))), ?_⟩
    refine ⟨.ref t, rfl, t, _, rfl, f1.tup, rfl, .int b, [.ref c, .ref o], rfl, .ref c, [.ref o], rfl, .ref o, [], rfl, rfl, ?_⟩
    refine ⟨_, rfl, ?_⟩
    refine ⟨.ref c, rfl, c, rfl, ⟨_, f1.cor⟩, ?_⟩
    refine for_list (K := K) (a := c) (xs := refs ks) (fun i σ H' => ∃ y5 y6, σ = [some (.ref t), some (.int b), some (.ref c), some (.ref o), some (.int (gF b ((ks.map (·.2)).take i))), y5, y6] ∧ H' = H) ⟨_, _, rfl, rfl⟩ ?_ ?_ ?_
    · rintro i σ H' _ ⟨_, _, _, rfl⟩
      exact f1.cor
    · rintro i v σ H' hv ⟨y5, y6, rfl, rfl⟩
      obtain ⟨x, hx, rfl⟩ := refs_get hv
      have e : gF b ((ks.map (·.2)).take (i + 1)) = g3 (gF b ((ks.map (·.2)).take i)) x.2.1 x.2.2 := by
        rw [take_succ_at (show (ks.map (·.2))[i]? = some x.2 by rw [List.getElem?_map, hx]; rfl)]
        unfold gF
        rw [List.foldl_append]
        rfl
      refine ⟨x.1, _, rfl, f1.pts x (List.mem_of_getElem? hx), rfl, .int x.2.1, [.int x.2.2], rfl, .int x.2.2, [], rfl, rfl, ?_⟩
      refine ⟨_, rfl, _, rfl, _, _, rfl, _, rfl, _, _, rfl, some (.int x.2.1), some (.int x.2.2), ?_, rfl⟩
      rw [e, Int.natAbs_natCast]
      rfl
    rintro σ H' ⟨y5, y6, rfl, eH⟩
    have eH2 := eH.symm
    subst eH2
    rw [refs_len, show (ks.map (·.2)).take ks.length = ks.map (·.2) from List.take_of_length_le (by rw [List.length_map]; exact Nat.le_refl _)]
    have b0 : 0 < b := by have := isf.b1; omega
    have gp := gF_pos (ks.map (·.2)) b0
    have gl := gF_le (cs := ks.map (·.2)) b0
    have b2 := isf.b2
    have gd : CDiv b (gF b (ks.map (·.2))) := ⟨gp, by omega⟩
    refine ⟨_, rfl, _, rfl, _, _, rfl, rfl, gd, .ref c, rfl, c, rfl, ⟨_, f1.cor⟩, fun D nD => ?_⟩
    refine lc_list (K := K) (a := c) (xs := refs ks) (fun j H' => ∃ ks' : Pts, Same H H' ∧ H' D = some (.lst (refs ks')) ∧ At K H' ks' ∧ ks'.map (·.2) = ((ks.map (·.2)).take j).map (dv (gF b (ks.map (·.2))))) ⟨[], same_new nD, upd_same, fun p hp => (nomatch hp), rfl⟩ (fun j H' _ z => ?_) (fun j v H2 hv z => ?_) fun H2 z => ?_
    · obtain ⟨_, sz, _⟩ := z
      exact sz.seq f1.cor
    · obtain ⟨x, hx, rfl⟩ := refs_get hv
      obtain ⟨ks', sz, hD, T2, e2⟩ := z
      have mx := List.mem_of_getElem? hx
      have jl : j < ks.length := (List.getElem?_eq_some_iff.mp hx).1
      have lk : ks'.length = j := by
        have := congrArg List.length e2
        rw [List.length_map, List.length_map, List.length_take, List.length_map] at this
        omega
      have l10 := isf.l2
      rw [List.length_map] at l10
      refine ⟨x.1, _, rfl, (f1.pts.same sz) x mx, rfl, .int x.2.1, [.int x.2.2], rfl, .int x.2.2, [], rfl, rfl, rfl, yesT ?_⟩
      refine ⟨_, rfl, _, rfl, _, _, rfl, rfl, gd, _, rfl, _, rfl, _, _, rfl, rfl, gd, by show 2 ≤ sizeLine; decide, fun u nu => ?_⟩
      have s3 := same_new (o := .tup [.int (x.2.1 / gF b (ks.map (·.2))), .int (x.2.2 / gF b (ks.map (·.2)))]) nu
      have hD3 := s3 _ _ hD
      have uD : u ≠ D := fun z => by
        rw [z, hD] at nu
        cases nu
      refine ⟨refs ks', hD3, by rw [refs_len]; exact Nat.lt_of_lt_of_le (show ks'.length < 11 by omega) (by decide), ks' ++ [(u, dv (gF b (ks.map (·.2))) x.2)], fun p q e => ?_, ?_, fun r hr => ?_, ?_⟩
      · have nb : p ≠ D := fun y => by rw [y, nD] at e; cases e
        rw [upd_ne nb]
        exact (sz.trans s3) p q e
      · rw [upd_same]
        simp [refs]
      · rcases List.mem_append.mp hr with z | z
        · exact L2.SqT.put ((T2.same s3) r z) hD3 SameX.put
        · rw [List.mem_singleton.mp z]
          refine SqT.of ?_
          rw [upd_ne uD]
          exact upd_same
      · rw [List.map_append, e2, take_succ_at (show (ks.map (·.2))[j]? = some x.2 by rw [List.getElem?_map, hx]; rfl), List.map_append]
        rfl
    obtain ⟨ks', s2, hD, T2, e2⟩ := z
    rw [refs_len, show (ks.map (·.2)).take ks.length = ks.map (·.2) from List.take_of_length_le (by rw [List.length_map]; exact Nat.le_refl _)] at e2
    refine ⟨.ref o, rfl, by show 3 ≤ sizeLine; decide, fun t' nt' => ?_⟩
    have s4 := same_new (o := .tup [.int (b / gF b (ks.map (·.2))), .ref D, .ref o]) nt'
    exact q _ t' D ks' (s2.trans s4) (s2.free nt') nD ⟨upd_same, s4 _ _ hD, T2.same s4, (s2.trans s4) _ _ fpl.sid⟩ e2
end
end K3
set_option Elab.async false
set_option linter.all false
set_option maxRecDepth 100000
set_option maxHeartbeats 1000000
set_option exponentiation.threshold 20000
namespace L2
open PySem PySem.Spec PyProof.Rows
theorem ix_K {X : Cx} {r : PySem.W.Frag → R2} (h : IxR X (r X.K)) (K : PySem.W.Frag) (hK : X.K = K) : IxR X (r K) := by
  subst hK
  exact h
theorem cut_from (xs : List V) (n : Nat) : cutV xs (some (n : Int)) none = xs.drop n := by
  unfold cutV
  rw [HT.sIx_none, show HT.sIx xs.length 0 (some (n : Int)) = min n xs.length from HT.sIx_nat xs.length 0 n]
  by_cases h : n ≤ xs.length
  · rw [Nat.min_eq_left h]
    exact List.take_of_length_le (by rw [List.length_drop]; exact Nat.le_refl _)
  · rw [Nat.min_eq_right (by omega), Nat.sub_self, List.take_zero, List.drop_eq_nil_of_le (by omega)]
theorem rot_get {α : Type} (l : List α) {k i : Nat} (hk : k ≤ l.length) (hi : i < l.length) : (l.drop k ++ l.take k)[i]? = l[(i + k) % l.length]? := by
  by_cases h : i + k < l.length
  · rw [Nat.mod_eq_of_lt h, List.getElem?_append_left (by rw [List.length_drop]; omega), List.getElem?_drop, Nat.add_comm]
  · have e : (i + k) % l.length = i + k - l.length := by rw [Nat.mod_eq_sub_mod (by omega), Nat.mod_eq_of_lt (by omega)]
    rw [e, List.getElem?_append_right (by rw [List.length_drop]; omega), List.length_drop, List.getElem?_take_of_lt (by omega)]
    congr 1
    omega
end L2
namespace Fen
open PySem PySem.Spec PyProof.Rows L2
theorem refs_drop_n (ks : Pts) (n : Nat) : (refs ks).drop n = refs (ks.drop n) := by unfold refs; rw [List.map_drop]
theorem refs_take_n (ks : Pts) (n : Nat) : (refs ks).take n = refs (ks.take n) := by unfold refs; rw [List.map_take]
theorem refs_app (ks ls : Pts) : refs ks ++ refs ls = refs (ks ++ ls) := by unfold refs; rw [List.map_append]
end Fen
namespace K3
open PySem PySem.Spec PyProof.Rows L2 Fen
section
variable {P : Program} {w : World} {K : PySem.W.Frag} {mg : Str → Option Value} {base : Heap}
theorem ok_la {f fD : Addr} {fd fdD : FuncData} {k : Nat} (F : Fun K "_law_area" "_law_area" sLA f fd) (OD : FnOk P w K mg base CX0 (k + 1) fD fdD ["_law_one", "_law_other"] spDiv) (kD : PySem.W.keepIn K (.ref fD) = true) (bD : Binds K fdD ["_law_one", "_law_other"] []) (gD : mg "_law_divisor" = some (.ref fD)) (T2 : Nm2 mg) :
    FnOk P w K mg base CX0 (k + 1 + 1) f fd ["_law_shape"] (spAre K) := by
  refine F.ok scLA (fun vs H Q E h => ?_) (fun cdv A outer s H vs Q E hr h => ?_)
  · obtain ⟨t, c, o, b, ks, os, rfl, _⟩ := h
    rfl
  · obtain ⟨t, c, o, b, ks, os, rfl, f1, isf, q⟩ := h
    refine ⟨_, pss_cons (ps_asg (pv 0) (pg_tup rfl (pgs_cons (pg_name (i := 1) scLA.nd rfl (.inl rfl)) (pgs_cons (pg_name (i := 2) scLA.nd rfl (.inl rfl)) (pgs_cons (pg_name (i := 3) scLA.nd rfl (.inl rfl)) pgs_nil)))))
      (pss_cons (ps_set (i := 4) scLA.nd rfl (.inl rfl) (pe_callB (cr_sum rfl) (by rfl) T2.msum (by decide +kernel) (pa_cons (pe_lc (own := [("_law_one", 7), ("_law_two", 8)]) (g := gTup K 2 (gCons (gName 7) (gCons (gName 8) gNil))) (tt := tYes) rfl scLA.nd
          (pi_zip (by rfl) T2.mzip (pa_cons (pv 2) (pa_cons (pe_op op_cat (pe_slice sl_list (pv 2) (po_some pe_int) po_none) (pe_slice sl_list (pv 2) po_none (po_some pe_int))) pa_nil))) (blkOk_by (N := nLA) (sc := defScope sLA) (by decide +kernel)) (fun _ _ _ _ _ => pg_tup rfl (pgs_cons (pg_name (i := 7) scLA.nd rfl (Or.inl rfl)) (pgs_cons (pg_name (i := 8) scLA.nd rfl (Or.inl rfl)) pgs_nil))) (fun _ _ _ _ _ => pts_nil)
          (fun _ _ _ _ _ => pe_op op_sub (pe_op op_mulW (pe_ix (r := rIxT K) ix_tup (pv 7) pe_int (fun _ _ => rfl)) (pe_ix (r := rIxT K) ix_tup (pv 8) pe_int (fun _ _ => rfl))) (pe_op op_mulW (pe_ix (r := rIxT K) ix_tup (pv 7) pe_int (fun _ _ => rfl)) (pe_ix (r := rIxT K) ix_tup (pv 8) pe_int (fun _ _ => rfl))))) pa_nil)))
      (pss_cons (ps_set (i := 5) scLA.nd rfl (.inl rfl) (pe_op op_mul (pe_op op_mul pe_int (pv 1)) (pv 1)))
      (pss_cons (ps_set (i := 6) scLA.nd rfl (.inl rfl) (pe_call OD hr (by rfl) gD kD bD .nil pass0 (pa_cons (pv 4) (pa_cons (pv 5) pa_nil))))
      (pss_one (ps_ret (pe_tup (pa_cons (pe_op op_fdiv (pv 4) (pv 6)) (pa_cons (pe_op op_fdiv (pv 5) (pv 6)) pa_nil)))))))), ?_⟩
    refine ⟨.ref t, rfl, t, _, rfl, f1.tup, rfl, .int b, [.ref c, .ref o], rfl, .ref c, [.ref o], rfl, .ref o, [], rfl, rfl, ?_⟩
    have l1 := isf.l1
    have l10 := isf.l2
    rw [List.length_map] at l1 l10
    refine ⟨.ref c, rfl, .ref c, rfl, 1, rfl, c, _, rfl, f1.cor, fun y1 ny1 => ?_⟩
    rw [show (1 : Int) = ((1 : Nat) : Int) from rfl, cut_from, refs_drop_n]
    refine ⟨.ref c, rfl, ((1 : Nat) : Int), rfl, c, _, rfl, (same_new ny1).seq f1.cor, fun y2 ny2 => ?_⟩
    rw [cut_to, refs_take_n]
    refine ⟨y1, y2, _, _, rfl, rfl, (same_new ny2) _ _ upd_same, upd_same, ?_, fun y3 ny3 => ?_⟩
    · rw [refs_len, refs_len, List.length_drop, List.length_take]
      exact sz20 (by omega)
    rw [refs_app]
    have s1 := (same_new (o := .lst (refs (ks.drop 1))) ny1).trans ((same_new (o := .lst (refs (ks.take 1))) ny2).trans (same_new (o := .lst (refs (ks.drop 1 ++ ks.take 1))) ny3))
    refine ⟨c, y3, refs ks, refs (ks.drop 1 ++ ks.take 1), rfl, s1.seq f1.cor, SqL.of upd_same, ?_⟩
    have hy3 : (upd (upd (upd H y1 (.lst (refs (ks.drop 1)))) y2 (.lst (refs (ks.take 1)))) y3 (.lst (refs (ks.drop 1 ++ ks.take 1)))) y3 = some (.lst (refs (ks.drop 1 ++ ks.take 1))) := upd_same
    generalize upd (upd (upd H y1 (.lst (refs (ks.drop 1)))) y2 (.lst (refs (ks.take 1)))) y3 (.lst (refs (ks.drop 1 ++ ks.take 1))) = H1 at s1 hy3 ⊢
    have lr : (ks.drop 1 ++ ks.take 1).length = ks.length := by rw [List.length_append, List.length_drop, List.length_take]; omega
    refine fun D nD => ?_
    refine lc_it (walk_zip (K := K) (a := c) (b := y3) (xs := refs ks) (ys := refs (ks.drop 1 ++ ks.take 1)) (n := ks.length) (by rw [refs_len, refs_len, lr, Nat.min_self])) (fun j H' => Same H1 H' ∧ H' D = some (.lst (((List.range j).map (crossAt (ks.map (·.2)))).map V.int))) ⟨same_new nD, upd_same⟩ (fun j H' _ z => ⟨(s1.trans z.1).seq f1.cor, SqL.of (z.1 _ _ hy3)⟩) ?_ ?_
    · rintro j v H2 H3 hj ⟨sz, hD⟩ ⟨U, x1, x2, rfl, nU, rfl, e1, e2⟩
      obtain ⟨p, hp, rfl⟩ := refs_get e1
      obtain ⟨r, hr2, rfl⟩ := refs_get e2
      rw [rot_get ks (by omega) hj] at hr2
      have mp := List.mem_of_getElem? hp
      have mr := List.mem_of_getElem? hr2
      have s3 := sz.trans (same_new (o := .tup [.ref p.1, .ref r.1]) nU)
      have f3 := f1.same (s1.trans s3)
      have sp := (isf.co p.2 (List.mem_map.mpr ⟨p, mp, rfl⟩)).sm
      have sr := (isf.co r.2 (List.mem_map.mpr ⟨r, mr, rfl⟩)).sm
      refine ⟨U, _, rfl, SqT.of upd_same, rfl, .ref p.1, [.ref r.1], rfl, .ref r.1, [], rfl, rfl, rfl, yesT ?_⟩
      refine ⟨.ref p.1, rfl, p.1, _, 0, .int p.2.1, rfl, rfl, f3.pts p mp, rfl, .ref r.1, rfl, r.1, _, 1, .int r.2.2, rfl, rfl, f3.pts r mr, rfl, _, _, rfl, rfl, wide_mul sp.1 sr.2 (by decide) (by decide) (by decide),
        .ref p.1, rfl, p.1, _, 1, .int p.2.2, rfl, rfl, f3.pts p mp, rfl, .ref r.1, rfl, r.1, _, 0, .int r.2.1, rfl, rfl, f3.pts r mr, rfl, _, _, rfl, rfl, wide_mul sp.2 sr.1 (by decide) (by decide) (by decide), _, _, rfl, rfl, _, (same_new nU) _ _ hD, ?_, fun b' o' e' => ?_, ?_⟩
      · rw [List.length_map, List.length_map, List.length_range]
        exact Nat.lt_of_lt_of_le (show j < 11 by omega) (by decide)
      · have nb : b' ≠ D := fun y => by rw [y, nD] at e'; cases e'
        rw [upd_ne nb]
        exact s3 b' o' e'
      · rw [upd_same, List.range_succ, List.map_append, List.map_append, List.map_singleton, List.map_singleton, crossAt_eq hp hr2]
    · rintro H2 ⟨sz, hD⟩
      obtain ⟨g0, g1⟩ := areaG_ok isf.b1 isf.b2 (ks.map (·.2))
      have b1 := isf.b1
      have b2 := isf.b2
      have eT : ((List.range ks.length).map (crossAt (ks.map (·.2)))).sum = areaT (ks.map (·.2)) := by
        unfold areaT
        rw [List.length_map]
      refine ⟨D, _, rfl, SqL.of hD, ?_⟩
      rw [eT]
      refine ⟨_, rfl, _, _, rfl, rfl, .inl ⟨by decide, by decide⟩, _, rfl, _, _, rfl, rfl, .inr ⟨by omega, by omega⟩, ?_⟩
      refine ⟨_, rfl, _, rfl, _, _, rfl, ?_⟩
      refine ⟨_, rfl, _, rfl, _, _, rfl, rfl, ⟨g0, g1⟩, _, rfl, _, rfl, _, _, rfl, rfl, ⟨g0, g1⟩, by show 2 ≤ sizeLine; decide, fun x nx => ?_⟩
      exact q _ x ((s1.trans sz).trans (same_new nx)) upd_same
def spTim (K : PySem.W.Frag) : Sp := fun vs H Q _ => ∃ (t c o : Addr) (b : Int) (ks : Pts) (os : List Int) (m : Int), vs = [.ref t, .int m] ∧ FAt K H t c o b ks os ∧ IsF b (ks.map (·.2)) os ∧ 0 < m ∧ m ≤ 30 ∧
  ∀ H' t' c' o' ks', Same H H' → NewF K H H' t' c' o' (b * m) ks' os → ks'.map (·.2) = (ks.map (·.2)).map (sc m) → Q (.ref t') H'
theorem ok_tim {f : Addr} {fd : FuncData} {k : Nat} (F : Fun K "_law_times" "_law_times" sTim f fd) (T : Nms mg) : FnOk P w K mg base CX0 (k + 1) f fd ["_law_shape", "_law_times_here"] (spTim K) := by
  refine F.ok scTim (fun vs H Q E h => ?_) (fun cdv A outer s H vs Q E hr h => ?_)
  · obtain ⟨t, c, o, b, ks, os, m, rfl, _⟩ := h
    rfl
  · obtain ⟨t, c, o, b, ks, os, m, rfl, f1, isf, m0, m1, q⟩ := h
    refine ⟨_, pss_one (ps_ret (pe_tup (pa_cons (pe_op op_mul (pe_ix ix_tup (pv 0) pe_int (fun _ _ => rfl)) (pv 1)) (pa_cons (pe_lc (own := [("_law_x", 2), ("_law_y", 3)]) (g := gTup K 2 (gCons (gName 2) (gCons (gName 3) gNil))) (tt := tYes) rfl scTim.nd (pi_list (pe_ix ix_tup (pv 0) pe_int (fun _ _ => rfl))) (blkOk_by (N := nTim) (sc := defScope sTim) (by decide +kernel)) (fun _ _ _ _ _ => pg_tup rfl (pgs_cons (pg_name (i := 2) scTim.nd rfl (Or.inl rfl)) (pgs_cons (pg_name (i := 3) scTim.nd rfl (Or.inl rfl)) pgs_nil))) (fun _ _ _ _ _ => pts_nil)
          (fun _ _ _ _ _ => pe_tup (pa_cons (pe_op op_mul (pv 2) (pv 1)) (pa_cons (pe_op op_mul (pv 3) (pv 1)) pa_nil))))
          (pa_cons (pe_callTy call_list_of (by rfl) T.mlst (by decide +kernel) (pa_cons (pe_ix ix_tup (pv 0) pe_int (fun _ _ => rfl)) pa_nil)) pa_nil))))), ?_⟩
    have mm : ∀ x : Int, CMul x m := fun x => .inr ⟨by omega, by omega⟩
    refine ⟨.ref t, rfl, t, _, 0, .int b, rfl, rfl, f1.tup, rfl, _, rfl, _, _, rfl, rfl, mm b, .ref t, rfl, t, _, 1, .ref c, rfl, rfl, f1.tup, rfl, c, rfl, ⟨_, f1.cor⟩, fun D nD => ?_⟩
    refine lc_list (K := K) (a := c) (xs := refs ks) (fun j H' => ∃ ks' : Pts, Same H H' ∧ H' D = some (.lst (refs ks')) ∧ At K H' ks' ∧ ks'.map (·.2) = ((ks.map (·.2)).take j).map (sc m)) ⟨[], same_new nD, upd_same, fun p hp => (nomatch hp), rfl⟩ (fun j H' _ z => ?_) (fun j v H2 hv z => ?_) fun H2 z => ?_
    · obtain ⟨_, sz, _⟩ := z
      exact sz.seq f1.cor
    · obtain ⟨x, hx, rfl⟩ := refs_get hv
      obtain ⟨ks', sz, hD, T2, e2⟩ := z
      have mx := List.mem_of_getElem? hx
      have jl : j < ks.length := (List.getElem?_eq_some_iff.mp hx).1
      have lk : ks'.length = j := by
        have := congrArg List.length e2
        rw [List.length_map, List.length_map, List.length_take, List.length_map] at this
        omega
      have l10 := isf.l2
      rw [List.length_map] at l10
      refine ⟨x.1, _, rfl, (f1.pts.same sz) x mx, rfl, .int x.2.1, [.int x.2.2], rfl, .int x.2.2, [], rfl, rfl, rfl, yesT ?_⟩
      refine ⟨_, rfl, _, rfl, _, _, rfl, rfl, mm _, _, rfl, _, rfl, _, _, rfl, rfl, mm _, by show 2 ≤ sizeLine; decide, fun u nu => ?_⟩
      have s3 := same_new (o := .tup [.int (x.2.1 * m), .int (x.2.2 * m)]) nu
      have hD3 := s3 _ _ hD
      have uD : u ≠ D := fun z => by
        rw [z, hD] at nu
        cases nu
      refine ⟨refs ks', hD3, by rw [refs_len]; exact Nat.lt_of_lt_of_le (show ks'.length < 11 by omega) (by decide), ks' ++ [(u, sc m x.2)], fun p q e => ?_, ?_, fun r hr => ?_, ?_⟩
      · have nb : p ≠ D := fun y => by rw [y, nD] at e; cases e
        rw [upd_ne nb]
        exact (sz.trans s3) p q e
      · rw [upd_same]
        simp [refs]
      · rcases List.mem_append.mp hr with z | z
        · exact L2.SqT.put ((T2.same s3) r z) hD3 SameX.put
        · rw [List.mem_singleton.mp z]
          refine SqT.of ?_
          rw [upd_ne uD]
          exact upd_same
      · rw [List.map_append, e2, take_succ_at (show (ks.map (·.2))[j]? = some x.2 by rw [List.getElem?_map, hx]; rfl), List.map_append]
        rfl
    obtain ⟨ks', s2, hD, T2, e2⟩ := z
    rw [refs_len, show (ks.map (·.2)).take ks.length = ks.map (·.2) from List.take_of_length_le (by rw [List.length_map]; exact Nat.le_refl _)] at e2
    refine ⟨.ref t, rfl, t, _, 2, .ref o, rfl, rfl, s2.seqT f1.tup, rfl, o, os.map V.int, rfl, .inl (s2.seq f1.sid), fun o' no' => ?_⟩
    refine ⟨by show 3 ≤ sizeLine; decide, fun t' nt' => ?_⟩
    have s4 := (same_new (o := .lst (os.map V.int)) no').trans (same_new (o := .tup [.int (b * m), .ref D, .ref o']) nt')
    exact q _ t' D o' ks' (s2.trans s4) ⟨(s2.trans (same_new no')).free nt', nD, s2.free no', upd_same, s4 _ _ hD, T2.same s4, (same_new nt') _ _ upd_same, ne_of_none hD no'⟩ e2
/-- what a fence's text is, whatever is done to another one -/
def spAln (K : PySem.W.Frag) : Sp := fun vs H Q _ => ∃ (t1 c1 o1 : Addr) (b1 : Int) (l1 l2 : List V) (t c o : Addr) (b : Int) (ks : Pts) (os : List Int), vs = [.ref t1, .ref t] ∧ H t1 = some (.tup [.int b1, .ref c1, .ref o1]) ∧ H c1 = some (.lst l1) ∧ H o1 = some (.lst l2) ∧ l1.length ≤ 100 ∧ l2.length ≤ 100 ∧ c1 ≠ o1 ∧
  FAt K H t c o b ks os ∧ IsF b (ks.map (·.2)) os ∧ c ≠ c1 ∧ c ≠ o1 ∧ o ≠ c1 ∧ o ≠ o1 ∧
  ∀ H' l1' l2', (∀ x u, x ≠ c1 → x ≠ o1 → H x = some u → H' x = some u) → H' c1 = some (.lst l1') → H' o1 = some (.lst l2') → Q (.bl true) H'
theorem ok_aln {f : Addr} {fd : FuncData} {k : Nat} (F : Fun K "_law_alone" "_law_alone" sAln f fd) (T2 : Nm2 mg) : FnG P w K mg base CX0 (k + 1) f fd ["_law_told", "_law_shape"] (spAln K) := by
  refine F.okG scAln (fun vs H Q E h => ?_) (fun cdv A outer s H vs Q E hgd hr h => ?_)
  · obtain ⟨t1, c1, o1, b1, l1, l2, t, c, o, b, ks, os, rfl, _⟩ := h
    rfl
  · obtain ⟨t1, c1, o1, b1, l1, l2, t, c, o, b, ks, os, rfl, h1, h2, h3, z1, z2, co, fa, isf, n1, n2, n3, n4, q⟩ := h
    refine ⟨_, pss_cons (ps_set (i := 2) scAln.nd rfl (.inl rfl) (pe_callB (call_reprD hgd hr) (by rfl) T2.mrepr (by decide +kernel) (pa_cons (pv 1) pa_nil)))
      (pss_cons (ps_expr (pe_bm PySem.F.plainAttrs_list PySem.F.slot_list_append PySem.F.type_list_append mt_append (pe_ix ix_tup (pv 0) pe_int (fun _ _ => rfl)) (pa_cons pe_non pa_nil)))
      (pss_cons (ps_expr (pe_bm0 PySem.F.plainAttrs_list PySem.F.slot_list_reverse PySem.F.type_list_reverse mt_reverse (pe_ix ix_tup (pv 0) pe_int (fun _ _ => rfl))))
      (pss_cons (ps_expr (pe_bm PySem.F.plainAttrs_list PySem.F.slot_list_append PySem.F.type_list_append mt_append (pe_ix ix_tup (pv 0) pe_int (fun _ _ => rfl)) (pa_cons pe_int pa_nil)))
      (pss_one (ps_ret (pe_cmpR op_eq (pe_callB (call_reprD hgd hr) (by rfl) T2.mrepr (by decide +kernel) (pa_cons (pv 1) pa_nil)) (pv 2) (nomark _))))))), ?_⟩
    obtain ⟨d, hd⟩ : ∃ d : PyData, d = fD b (ks.map (·.2)) os := ⟨_, rfl⟩
    obtain ⟨w1, w2, w3, w4⟩ := isf.rp
    rw [← hd] at w1 w2 w3 w4
    have dp0 : Dp K H (.ref t) d := by rw [hd]; exact fa.dp
    have w3' : d.shown.length ≤ sizeLine := Nat.le_trans w3 (by decide)
    have w4' : d.depth ≤ 20 := Nat.le_trans w4 (by decide)
    have t1c : t1 ≠ c1 := fun z => by rw [z, h2] at h1; cases h1
    have t1o : t1 ≠ o1 := fun z => by rw [z, h3] at h1; cases h1
    refine ⟨.ref t, rfl, t, d, rfl, dp0, w1, w2, w3', w4', ?_⟩
    refine ⟨.ref t1, rfl, t1, _, 1, .ref c1, rfl, rfl, SqT.of h1, rfl, .inl ⟨rfl, _, SqL.of h2⟩, c1, _, .non, rfl, rfl, h2, Nat.lt_of_le_of_lt z1 (by decide), ?_⟩
    have h1' : (upd H c1 (.lst (l1 ++ [V.non]))) t1 = _ := (upd_ne t1c).trans h1
    refine ⟨.ref t1, rfl, t1, _, 1, .ref c1, rfl, rfl, SqT.of h1', rfl, .inl ⟨rfl, _, SqL.of upd_same⟩, c1, _, rfl, rfl, upd_same, ?_⟩
    rw [upd_upd]
    have h1'' : (upd H c1 (.lst (l1 ++ [V.non]).reverse)) t1 = _ := (upd_ne t1c).trans h1
    have h3'' : (upd H c1 (.lst (l1 ++ [V.non]).reverse)) o1 = some (.lst l2) := (upd_ne (Ne.symm co)).trans h3
    refine ⟨.ref t1, rfl, t1, _, 2, .ref o1, rfl, rfl, SqT.of h1'', rfl, .inl ⟨rfl, _, SqL.of h3''⟩, o1, _, .int 7, rfl, rfl, h3'', Nat.lt_of_le_of_lt z2 (by decide), ?_⟩
    have fA := fa.upd h2 (SameX.put (o := .lst (l1 ++ [V.non]).reverse)) n1 n3
    have fB := fA.upd h3'' (SameX.put (o := .lst (l2 ++ [V.int 7]))) n2 n4
    have dpB : Dp K (upd (upd H c1 (.lst (l1 ++ [V.non]).reverse)) o1 (.lst (l2 ++ [V.int 7]))) (.ref t) d := by rw [hd]; exact fB.dp
    refine ⟨.ref t, rfl, t, d, rfl, dpB, w1, w2, w3', w4', _, rfl, rfl, ?_⟩
    rw [decide_eq_true (rfl : V.str d.shown = V.str d.shown)]
    exact q _ _ _ (fun x u nx1 nx2 e => (upd_ne nx2).trans ((upd_ne nx1).trans e)) ((upd_ne co).trans upd_same) upd_same
end
end K3
set_option Elab.async false
set_option linter.all false
set_option maxRecDepth 100000
set_option maxHeartbeats 1000000
set_option exponentiation.threshold 20000
namespace L2
open PySem PySem.Spec PyProof.Rows
/-- one parameter, given by its name -/
def KwOne (K : PySem.W.Frag) (fd : FuncData) (nm : Str) : Prop := ∀ (s : Shared) (u : Value), K.In s.heap → BindsTo s fd ⟨[], [(nm, u)]⟩ [(nm, u)]
section
variable {X : Cx} {CX : CXT} {k : Nat} {f : Addr} {fd : FuncData} {nm : Str} {sp : Sp} {E : XK} {x : Str} {p pos kpos : Pos} {e : Expr} {te : TE}
/-- f(name=e) and nothing else -/
theorem pe_callN (F : FnOk X.prog X.w X.K X.mg X.base CX k f fd [nm] sp) (hr : Room k X.A) (hg : Gl X x) (hm : X.mg x = some (.ref f)) (hk : PySem.W.keepIn X.K (.ref f) = true) (hb : KwOne X.K fd nm) (hx : Passes CX X E)
    (he : PE X e te) (hdb : (x == ("__debug__" : Str)) = false := by decide) : PE X (.Call (.Name x p) [] [⟨some nm, e, kpos⟩] pos) (tCall sp [] E (tCons te tNil)) := by
  refine ⟨fun pins s σ H Q I h => ?_⟩
  refine wpAny_Call_Name_kw (ld_glob I hg hm ?_ hdb)
  have hall : (backToKw pos (keywordEach [⟨some nm, e, kpos⟩] X.env)).all (·.1.isSome) = true := by rfl
  refine PySem.W.callWith_KW0 (h₀ := X.base) (env := X.env) (kws := [⟨some nm, e, kpos⟩]) (pos := pos) I.ok.mod.kin hk hall ?_
  have hkw : PK X [⟨some nm, e, kpos⟩] (tCons te tNil) := pk_cons he pk_nil
  refine thn (hkw.run pos pins s σ H (fun vs H1 => sp (vs ++ []) H1 Q E) I h) fun us s1 ⟨vs, H1, I1, r1, q1⟩ => ?_
  refine ⟨I1.kIn, ?_⟩
  have hl : us.length = 1 := by
    have : (vs ++ []).length = 1 := F.len _ _ _ _ q1
    rw [List.append_nil] at this
    rw [← r1.length]
    exact this
  obtain ⟨u, rfl⟩ : ∃ u, us = [u] := by
    rcases us with _ | ⟨u, _ | ⟨v, r⟩⟩
    · simp at hl
    · exact ⟨u, rfl⟩
    · simp at hl
  have q2 : sp vs H1 Q E := by
    have q3 : sp (vs ++ []) H1 Q E := q1
    rw [List.append_nil] at q3
    exact q3
  show wpAny _ _ (call (.ref f) [] [(nm, u)]) _ _ _
  refine wpAny_call (codeAny_mono (F.run X.A X.stack s1 H1 ⟨[], [(nm, u)]⟩ [u] vs Q E hr I1.env0 (hb s1 u I1.kIn) r1 q2) fun r s' hq => ?_)
  cases r with
  | error e => exact hx pins σ H1 s1 e s' I1 hq
  | ok fl =>
    cases fl with
    | ret u => exact I1.after hq
    | next => exact False.elim hq
    | brk => exact False.elim hq
    | cont => exact False.elim hq
end
/-- a def that is called -/
structure Cal (P : Program) (w : World) (K : PySem.W.Frag) (mg : Str → Option Value) (base : Heap) (k : Nat) (x : Str) (f : Addr) (fd : FuncData) (ps : List Str) (sp : Sp) : Prop where
  ok : FnOk P w K mg base CX0 k f fd ps sp
  kp : PySem.W.keepIn K (.ref f) = true
  bi : L2.Binds K fd ps []
  mt : mg x = some (.ref f)
structure CalG (P : Program) (w : World) (K : PySem.W.Frag) (mg : Str → Option Value) (base : Heap) (k : Nat) (x : Str) (f : Addr) (fd : FuncData) (ps : List Str) (sp : Sp) : Prop where
  ok : FnG P w K mg base CX0 k f fd ps sp
  kp : PySem.W.keepIn K (.ref f) = true
  bi : L2.Binds K fd ps []
  mt : mg x = some (.ref f)
section
variable {X : Cx} {k : Nat} {f : Addr} {fd : FuncData} {ps : List Str} {nm : Str} {sp : Sp} {x : Str} {p pos kpos : Pos} {e : Expr} {es : List Expr} {t : TA} {te : TE}
theorem pe_cal (C : Cal X.prog X.w X.K X.mg X.base k x f fd ps sp) (hr : Room k X.A) (ha : PA X (e :: es) t) (hg : Gl X x := by rfl) (hdb : (x == ("__debug__" : Str)) = false := by decide)
    (he : starEach (e :: es) X.env = (false, eval e X.env) :: starEach es X.env := by rfl) (hpl : (backTo pos (starEach es X.env)).any (·.1) = false := by rfl) : PE X (.Call (.Name x p) (e :: es) [] pos) (tCall sp [] E0 t) :=
  pe_call C.ok hr hg C.mt C.kp C.bi .nil pass0 ha hdb he hpl
theorem pe_calG (C : CalG X.prog X.w X.K X.mg X.base k x f fd ps sp) (hgd : X.A.guards = some []) (hr : Room k X.A) (ha : PA X (e :: es) t) (hg : Gl X x := by rfl) (hdb : (x == ("__debug__" : Str)) = false := by decide)
    (he : starEach (e :: es) X.env = (false, eval e X.env) :: starEach es X.env := by rfl) (hpl : (backTo pos (starEach es X.env)).any (·.1) = false := by rfl) : PE X (.Call (.Name x p) (e :: es) [] pos) (tCall sp [] E0 t) :=
  pe_callG C.ok hgd hr hg C.mt C.kp C.bi .nil pass0 ha hdb he hpl
theorem pe_calN (C : Cal X.prog X.w X.K X.mg X.base k x f fd [nm] sp) (hn : KwOne X.K fd nm) (hr : Room k X.A) (he : PE X e te) (hg : Gl X x := by rfl) (hdb : (x == ("__debug__" : Str)) = false := by decide) : PE X (.Call (.Name x p) [] [⟨some nm, e, kpos⟩] pos) (tCall sp [] E0 (tCons te tNil)) :=
  pe_callN C.ok hr hg C.mt C.kp hn pass0 he hdb
end
end L2
namespace Fen
open PySem PySem.Spec PyProof.Rows L2
/-- what repr asks -/
structure RpX (d : PyData) : Prop where
  sh : d.showable = true
  nd : d.hasDict = false
  len : d.shown.length ≤ sizeLine
  dep : d.depth ≤ 20
theorem rp_many : ∀ {ds : List PyData} {n : Nat}, (∀ d ∈ ds, Rp d n ∧ d.depth ≤ 6) → PyData.showableAll ds = true ∧ PyData.hasDictAll ds = false ∧ ((PyData.shownAll ds).map (·.length)).sum + 2 * (PyData.shownAll ds).length ≤ (n + 2) * ds.length ∧ PyData.depthAll ds ≤ 6
  | [], _, _ => ⟨rfl, rfl, by simp [PyData.shownAll], by decide⟩
  | d :: ds, n, h => by
    obtain ⟨⟨a1, a2, a3, a4⟩, a5⟩ := h d List.mem_cons_self
    obtain ⟨b1, b2, b3, b4⟩ := rp_many fun x hx => h x (List.mem_cons_of_mem _ hx)
    refine ⟨by simp only [PyData.showableAll, a1, b1, Bool.true_and], by simp [PyData.hasDictAll, a2, b2], ?_, ?_⟩
    · simp only [PyData.shownAll, List.map_cons, List.sum_cons, List.length_cons]
      rw [Nat.mul_add (n + 2)]
      omega
    · simp only [PyData.depthAll]
      omega
theorem rp_list {ds : List PyData} {n : Nat} (h : ∀ d ∈ ds, Rp d n ∧ d.depth ≤ 6) (l : (n + 2) * ds.length ≤ 10000) : RpX (.list ds) := by
  obtain ⟨a1, a2, a3, a4⟩ := rp_many h
  refine ⟨by simpa [PyData.showable] using a1, by simpa [PyData.hasDict] using a2, ?_, by simp only [PyData.depth]; omega⟩
  have z := listText_len_le (PyData.shownAll ds)
  refine Nat.le_trans z (Nat.le_trans (show _ ≤ 10010 by omega) (by decide))
theorem rp_fen {b : Int} {cs : List Hull.P} {os : List Int} (f : IsF b cs os) : Rp (fD b cs os) 1500 ∧ (fD b cs os).depth ≤ 6 := ⟨f.rp, Nat.le_trans (fD_lay b cs os).2 (by decide)⟩
/-! open sides -/
theorem otherS_up (n : Nat) (os : List Int) : (otherS n os).Pairwise (· < ·) := (rI_up n).filter _
theorem mem_rI {n : Nat} {x : Int} : x ∈ rI n ↔ 0 ≤ x ∧ x < n := by
  unfold Fen.rI
  rw [List.mem_map]
  constructor
  · rintro ⟨i, hi, rfl⟩
    have := List.mem_range.mp hi
    omega
  · intro h
    exact ⟨x.toNat, List.mem_range.mpr (by omega), by omega⟩
theorem mem_other {n : Nat} {os : List Int} {x : Int} : x ∈ otherS n os ↔ (0 ≤ x ∧ x < n) ∧ x ∉ os := by
  unfold otherS
  rw [List.mem_filter, mem_rI]
  simp
theorem up_uniq : ∀ {l m : List Int}, l.Pairwise (· < ·) → m.Pairwise (· < ·) → (∀ x, x ∈ l ↔ x ∈ m) → l = m
  | [], [], _, _, _ => rfl
  | [], y :: m, _, _, h => absurd ((h y).mpr List.mem_cons_self) (by simp)
  | x :: l, [], _, _, h => absurd ((h x).mp List.mem_cons_self) (by simp)
  | x :: l, y :: m, hl, hm, h => by
    obtain ⟨l1, l2⟩ := List.pairwise_cons.mp hl
    obtain ⟨m1, m2⟩ := List.pairwise_cons.mp hm
    have e : x = y := by
      rcases List.mem_cons.mp ((h x).mp List.mem_cons_self) with z | z
      · exact z
      · rcases List.mem_cons.mp ((h y).mpr List.mem_cons_self) with z2 | z2
        · exact z2.symm
        · have := m1 x z
          have := l1 y z2
          omega
    subst e
    congr 1
    refine up_uniq l2 m2 fun z => ?_
    constructor
    · intro hz
      rcases List.mem_cons.mp ((h z).mp (List.mem_cons_of_mem _ hz)) with rfl | q
      · exact absurd (l1 z hz) (Int.lt_irrefl z)
      · exact q
    · intro hz
      rcases List.mem_cons.mp ((h z).mpr (List.mem_cons_of_mem _ hz)) with rfl | q
      · exact absurd (m1 z hz) (Int.lt_irrefl z)
      · exact q
theorem IsF.twice {b : Int} {cs : List Hull.P} {os : List Int} (f : IsF b cs os) : otherS (tot cs) (otherS (tot cs) os) = os := by
  refine up_uniq (otherS_up _ _) f.up fun x => ?_
  rw [mem_other, mem_other]
  constructor
  · rintro ⟨h1, h2⟩
    exact Classical.byContradiction fun z => h2 ⟨h1, z⟩
  · intro h
    exact ⟨f.inn x h, fun z => z.2 h⟩
theorem IsF.with {b : Int} {cs : List Hull.P} {os os' : List Int} (f : IsF b cs os) (h1 : os'.Pairwise (· < ·)) (h2 : ∀ o ∈ os', 0 ≤ o ∧ o < tot cs) : IsF b cs os' := ⟨f.b1, f.b2, f.l1, f.l2, f.co, f.sh, h1, h2⟩
theorem IsF.non {b : Int} {cs : List Hull.P} {os : List Int} (f : IsF b cs os) : IsF b cs [] := f.with List.Pairwise.nil fun o ho => nomatch ho
theorem IsF.all {b : Int} {cs : List Hull.P} {os : List Int} (f : IsF b cs os) : IsF b cs (rI (tot cs)) := f.with (rI_up _) fun o ho => rI_in ho
theorem IsF.oth {b : Int} {cs : List Hull.P} {os : List Int} (f : IsF b cs os) : IsF b cs (otherS (tot cs) os) := f.with (otherS_up _ _) fun o ho => (mem_other.mp ho).1
theorem IsF.t10 {b : Int} {cs : List Hull.P} {os : List Int} (f : IsF b cs os) : tot cs ≤ 10 := by
  unfold tot
  have := f.l2
  split <;> omega
/-! the area's text -/
theorem int_show62 {i : Int} (h : i.natAbs < 10 ^ 62) : (PyData.int i).showable = true ∧ (PyData.int i).shown.length ≤ 80 := by
  have lg : i.natAbs.log2 < 1920 := Nat.lt_of_lt_of_le (PySem.Flt.log2_lt_of (by decide) (Nat.lt_trans h (by decide : 10 ^ 62 < 2 ^ 220))) (by decide)
  refine ⟨by simp [PyData.showable, lg], ?_⟩
  show (Str.ofString (toString i)).length ≤ 80
  rw [PySem.ofString_length]
  exact Nat.le_trans (PySem.int_text_length_le10 (k := 62) (by decide) h) (by decide)
theorem sum_le {M : Nat} : ∀ (l : List Int), (∀ x ∈ l, x.natAbs ≤ M) → l.sum.natAbs ≤ l.length * M
  | [], _ => by simp
  | x :: l, h => by
    have h1 := h x List.mem_cons_self
    have h2 := sum_le l fun y hy => h y (List.mem_cons_of_mem _ hy)
    rw [List.sum_cons, List.length_cons, Nat.add_mul, Nat.one_mul]
    have := Int.natAbs_add_le x l.sum
    omega
theorem cor_le {p : Hull.P} (h : Cor p) : p.1.natAbs ≤ 10 ^ 30 ∧ p.2.natAbs ≤ 10 ^ 30 := by
  obtain ⟨a, b, c, d⟩ := h
  have e : (10 : Int) ^ 30 = 1000000000000000000000000000000 := by decide
  have e2 : (10 : Nat) ^ 30 = 1000000000000000000000000000000 := by decide
  rw [e] at a b c d
  rw [e2]
  omega
theorem area_le {b : Int} {cs : List Hull.P} {os : List Int} (f : IsF b cs os) : (areaT cs).natAbs < 10 ^ 62 := by
  have dflt : ∀ i, (cs.getD i (0, 0)).1.natAbs ≤ 10 ^ 30 ∧ (cs.getD i (0, 0)).2.natAbs ≤ 10 ^ 30 := fun i => by
    rw [List.getD_eq_getElem?_getD]
    cases e : cs[i]? with
    | none => exact ⟨by decide, by decide⟩
    | some p => exact cor_le (f.co p (List.mem_of_getElem? e))
  have h : (areaT cs).natAbs ≤ _ := sum_le (M := 10 ^ 30 * 10 ^ 30 + 10 ^ 30 * 10 ^ 30) _ fun x hx => by
    obtain ⟨i, _, rfl⟩ := List.mem_map.mp hx
    unfold crossAt
    have p := dflt i
    have q := dflt ((i + 1) % cs.length)
    have m1 := Nat.mul_le_mul p.1 q.2
    have m2 := Nat.mul_le_mul p.2 q.1
    rw [← Int.natAbs_mul] at m1 m2
    generalize (10 ^ 30 * 10 ^ 30 : Nat) = M at *
    omega
  rw [List.length_map, List.length_range] at h
  have l2 := f.l2
  have m3 := Nat.mul_le_mul_right (10 ^ 30 * 10 ^ 30 + 10 ^ 30 * 10 ^ 30) l2
  exact Nat.lt_of_le_of_lt (Nat.le_trans h m3) (by decide)
theorem natAbs_div_le {x g : Int} (h : 0 < g) : (x / g).natAbs ≤ x.natAbs := by
  have h1 := Int.mul_ediv_add_emod x g
  have h2 := Int.emod_nonneg x (show g ≠ 0 by omega)
  have h3 := Int.emod_lt_of_pos x h
  by_cases c : 0 ≤ x
  · have := Int.ediv_le_self g c
    have := Int.ediv_nonneg c (show 0 ≤ g by omega)
    omega
  · have q : x / g < 0 := Int.ediv_neg_of_neg_of_pos (by omega) h
    have z : x ≤ x / g := by
      refine (Int.le_ediv_iff_mul_le h).mpr ?_
      have := Int.mul_le_mul_of_nonpos_left (show x ≤ 0 by omega) (show 1 ≤ g by omega)
      omega
    omega
def kaD (b : Int) (cs : List Hull.P) : PyData := .list [.str (K3.kindS cs), .tuple [.int (areaT cs / areaG b cs), .int (2 * b * b / areaG b cs)]]
theorem ka_rp {b : Int} {cs : List Hull.P} {os : List Int} (f : IsF b cs os) : RpX (kaD b cs) := by
  obtain ⟨g0, g1⟩ := areaG_ok f.b1 f.b2 cs
  have al := area_le f
  have b1 := f.b1
  have b2 := f.b2
  have p1 : 0 < 2 * b * b := Int.mul_pos (by omega) (by omega)
  have p2 : 2 * b * b ≤ 60 * 30 := Int.mul_le_mul (by omega) b2 (by omega) (by decide)
  have h1 : (areaT cs / areaG b cs).natAbs < 10 ^ 62 := Nat.lt_of_le_of_lt (natAbs_div_le g0) al
  have h2 : (2 * b * b / areaG b cs).natAbs < 10 ^ 62 := by
    have : (2 * b * b / areaG b cs) ≤ 2 * b * b := Int.ediv_le_self _ (by omega)
    have : 0 ≤ 2 * b * b / areaG b cs := Int.ediv_nonneg (by omega) (by omega)
    exact Nat.lt_of_le_of_lt (show _ ≤ 2000 by omega) (by decide)
  obtain ⟨a1, a2⟩ := int_show62 h1
  obtain ⟨c1, c2⟩ := int_show62 h2
  have ks : (PyData.str (K3.kindS cs)).showable = true ∧ (PyData.str (K3.kindS cs)).shown.length ≤ 20 := by
    unfold K3.kindS
    split
    · exact ⟨by decide +kernel, by decide +kernel⟩
    · split <;> exact ⟨by decide +kernel, by decide +kernel⟩
  have z1 := tupleText_len_le (PyData.shownAll [.int (areaT cs / areaG b cs), .int (2 * b * b / areaG b cs)])
  have z2 := listText_len_le (PyData.shownAll [.str (K3.kindS cs), .tuple [.int (areaT cs / areaG b cs), .int (2 * b * b / areaG b cs)]])
  simp only [PyData.shownAll, List.map_cons, List.map_nil, List.sum_cons, List.sum_nil, List.length_cons, List.length_nil] at z1 z2
  have z3 : (PyData.shown (.tuple [.int (areaT cs / areaG b cs), .int (2 * b * b / areaG b cs)])).length ≤ 200 := by
    show (tupleText (PyData.shownAll [.int (areaT cs / areaG b cs), .int (2 * b * b / areaG b cs)])).length ≤ 200
    simp only [PyData.shownAll]
    omega
  refine ⟨?_, by simp [kaD, PyData.hasDict, PyData.hasDictAll], ?_, by simp only [kaD, PyData.depth, PyData.depthAll]; decide⟩
  · simp only [kaD, PyData.showable, PyData.showableAll, Bool.and_true]
    simp only [PyData.showable] at a1 c1
    rw [a1, c1]
    rfl
  · refine Nat.le_trans (show _ ≤ 400 from ?_) (by decide)
    show (listText (PyData.shownAll [.str (K3.kindS cs), .tuple [.int (areaT cs / areaG b cs), .int (2 * b * b / areaG b cs)]])).length ≤ 400
    simp only [PyData.shownAll]
    omega
end Fen
set_option Elab.async false
set_option linter.all false
set_option maxRecDepth 100000
set_option maxHeartbeats 1000000
set_option exponentiation.threshold 20000
namespace Fen
open PySem PySem.Spec PyProof.Rows L2
structure Tf where
  t : Addr
  c : Addr
  o : Addr
  b : Int
  ks : Pts
  os : List Int
def Tf.At (K : PySem.W.Frag) (H : Hp) (x : Tf) : Prop := FPl K H x.t x.c x.o x.b x.ks x.os
def Tf.D (x : Tf) : PyData := fD x.b (x.ks.map (·.2)) x.os
def Tf.Apart (x y : Tf) : Prop := x.c ≠ y.c ∧ x.c ≠ y.o ∧ x.o ≠ y.c ∧ x.o ≠ y.o
/-- two lists are written -/
theorem sqT_two {K : PySem.W.Frag} {H H' : Hp} {a c o : Addr} {xs l1 l2 : List V} (h : SqT K H a xs) (hc : H c = some (.lst l1)) (ho : H o = some (.lst l2)) (s : ∀ x u, x ≠ c → x ≠ o → H x = some u → H' x = some u) : SqT K H' a xs := by
  rcases h with (h | ⟨u, h⟩) | h
  · exact .inl (.inl (s _ _ (fun z => by rw [z, hc] at h; cases h) (fun z => by rw [z, ho] at h; cases h) h))
  · exact .inl (.inr ⟨u, s _ _ (fun z => by rw [z, hc] at h; cases h) (fun z => by rw [z, ho] at h; cases h) h⟩)
  · exact .inr h
theorem Tf.At.two {K : PySem.W.Frag} {H H' : Hp} {x y : Tf} (h : y.At K H) (hx : x.At K H) (s : ∀ a u, a ≠ x.c → a ≠ x.o → H a = some u → H' a = some u) (ap : x.Apart y) : y.At K H' :=
  ⟨s _ _ (fun z => by have e := h.tup; rw [z, hx.cor] at e; cases e) (fun z => by have e := h.tup; rw [z, hx.sid] at e; cases e) h.tup, s _ _ (Ne.symm ap.1) (Ne.symm ap.2.2.1) h.cor, fun p hp => sqT_two (h.pts p hp) hx.cor hx.sid s, s _ _ (Ne.symm ap.2.1) (Ne.symm ap.2.2.2) h.sid⟩
theorem dp_tfs {K : PySem.W.Frag} {H : Hp} : ∀ {l : List Tf}, (∀ x ∈ l, x.At K H) → DpAll K H (l.map fun x => V.ref x.t) (l.map Tf.D)
  | [], _ => .nil
  | x :: l, h => .cons (FPl.fat (h x List.mem_cons_self)).dp (dp_tfs fun y hy => h y (List.mem_cons_of_mem _ hy))
end Fen
namespace K3
open PySem PySem.Spec PyProof.Rows L2 Fen
abbrev sRt : Stmt := topS 47
abbrev nRt : List Str := ["_law_shape", "_law_low", "_law_bottom", "_law_corners", "_law_sides", "_law_many", "_law_due", "_law_kept", "_law_told", "_law_kind", "_law_again", "_law_side", "_law_one"]
theorem scRt : FnScope nRt ["_law_shape", "_law_low"] (defScope sRt) := ⟨rfl, rfl, rfl, by decide +kernel, rfl, by decide +kernel, by decide +kernel⟩
section
variable {P : Program} {w : World} {K : PySem.W.Frag} {mg : Str → Option Value} {base : Heap}
def spRt (K : PySem.W.Frag) : Sp := fun vs H Q _ => ∃ (t c o : Addr) (b : Int) (ks : Pts) (os : List Int) (t1 c1 o1 : Addr) (ks1 : Pts), vs = [.ref t, .ref t1] ∧ FPl K H t c o b ks os ∧ IsF b (ks.map (·.2)) os ∧ FPl K H t1 c1 o1 (lowB b (ks.map (·.2))) ks1 os ∧ ks1.map (·.2) = lowC b (ks.map (·.2)) ∧
  ∀ H', Same H H' → Q (.bl true) H'
theorem kind_at {n : Nat} (h1 : 1 ≤ n) : atI [V.str "point", .str "stretch", .str "field"] ((if (n : Int) < 3 then (n : Int) else 3) - 1) = some (.str (if n = 1 then "point" else if n = 2 then "stretch" else "field")) := by
  by_cases a : n = 1
  · subst a
    rfl
  · by_cases b : n = 2
    · subst b
      rfl
    · rw [if_neg (by omega), if_neg a, if_neg b]
      rfl
structure CalsR (P : Program) (w : World) (K : PySem.W.Frag) (mg : Str → Option Value) (base : Heap) (k : Nat) (fL fC fS fU fJ fE fA fN : Addr) (dL dC dS dU dJ dE dA dN : FuncData) : Prop where
  L : Cal P w K mg base k "lowest_fence" fL dL ["fence"] (spLow K)
  C : Cal P w K mg base k "closed_fence" fC dC ["fence"] (spClo K fun _ _ => [])
  S : Cal P w K mg base k "shut_fence" fS dS ["fence"] (spClo K fun cs _ => rI (tot cs))
  U : Cal P w K mg base k "turned_fence" fU dU ["fence"] (spClo K fun cs os => otherS (tot cs) os)
  D : Cal P w K mg base k "fence_kind" fJ dJ ["fence"] (spKnd K)
  E : Cal P w K mg base k "fence_area" fE dE ["fence"] (spAre K)
  A : Cal P w K mg base k "_law_area" fA dA ["_law_shape"] (spAre K)
  N : CalG P w K mg base k "_law_alone" fN dN ["_law_told", "_law_shape"] (spAln K)
  nL : KwOne K dL "fence"
  nC : KwOne K dC "fence"
  nS : KwOne K dS "fence"
  nU : KwOne K dU "fence"
  nD : KwOne K dJ "fence"
  nE : KwOne K dE "fence"
theorem ok_rt {f fL fC fS fU fJ fE fA fN : Addr} {fd dL dC dS dU dJ dE dA dN : FuncData} {k : Nat} (F : Fun K "_law_right" "_law_right" sRt f fd) (T : Nms mg) (T2 : Nm2 mg)
    (C : CalsR P w K mg base (k + 1) fL fC fS fU fJ fE fA fN dL dC dS dU dJ dE dA dN) :
    FnG P w K mg base CX0 (k + 1 + 1) f fd ["_law_shape", "_law_low"] (spRt K) := by
  refine F.okG scRt (fun vs H Q E h => ?_) (fun cdv A outer s H vs Q E hgd hr h => ?_)
  · obtain ⟨t, c, o, b, ks, os, t1, c1, o1, ks1, rfl, _⟩ := h
    rfl
  · obtain ⟨t, c, o, b, ks, os, t1, c1, o1, ks1, rfl, fp, isf, fl, el, q⟩ := h
    refine ⟨_, pss_cons (ps_asg (pv 0) (pg_tup rfl (pgs_cons (pg_name (i := 2) scRt.nd rfl (.inl rfl)) (pgs_cons (pg_name (i := 3) scRt.nd rfl (.inl rfl)) (pgs_cons (pg_name (i := 4) scRt.nd rfl (.inr rfl)) pgs_nil)))))
      (pss_cons (ps_set (i := 5) scRt.nd rfl (.inl rfl) (PE.of (tTotE K 3) (pe_ifExp (pt_cmpR op_gt (pe_callB call_len_seq (by rfl) T.mlen PySem.boot_len (pa_cons (pv 3) pa_nil)) pe_int (nomark _)) (pe_callB call_len_seq (by rfl) T.mlen PySem.boot_len (pa_cons (pv 3) pa_nil)) pe_int) ?tt))
      (pss_cons (ps_set (i := 6) scRt.nd rfl (.inl rfl) (pe_lst (pa_cons (pv 1) (pa_cons (pe_tup (pa_cons (pv 2) (pa_cons (pv 3) (pa_cons (pe_lst pa_nil) pa_nil)))) (pa_cons (pe_tup (pa_cons (pv 2) (pa_cons (pv 3) (pa_cons (pe_listRg rfl (by rfl) T.mlst (prg_1 (by rfl) T2.mrange (pv 5))) pa_nil)))) pa_nil)))))
      (pss_cons (ps_expr (pe_bm PySem.F.plainAttrs_list PySem.F.slot_list_append PySem.F.type_list_append mt_append (pv 6) (pa_cons (pe_tup (pa_cons (pv 2) (pa_cons (pv 3) (pa_cons (pe_lc (own := [("_law_side", 11)]) (g := gName 11) (tt := tTest (tOp (rIn K true) (tVar 11) (tVar 4))) rfl scRt.nd (pi_range1 rfl T2.mrange (pa_cons (pv 5) pa_nil)) (blkOk_by (N := nRt) (sc := defScope sRt) (by decide +kernel)) (fun _ _ _ _ _ => pg_name (i := 11) scRt.nd rfl (Or.inl rfl))
          (fun _ _ _ _ _ => pts_one (pt_cmpR (or_K (r := fun K => rIn K true) op_notIn_seq K rfl) (pv 11) (pv 4) (by rfl))) (fun _ _ _ _ _ => pv 11)) pa_nil)))) pa_nil)))
      (pss_cons (ps_set (i := 7) scRt.nd rfl (.inl rfl) (pe_callB (call_reprD hgd hr) (by rfl) T2.mrepr (by decide +kernel) (pa_cons (pv 0) pa_nil)))
      (pss_cons (ps_set (i := 8) scRt.nd rfl (.inl rfl) (pe_lst (pa_cons (pe_cal C.L hr (pa_cons (pv 0) pa_nil)) (pa_cons (pe_cal C.C hr (pa_cons (pv 0) pa_nil)) (pa_cons (pe_cal C.S hr (pa_cons (pv 0) pa_nil)) (pa_cons (pe_cal C.U hr (pa_cons (pv 0) pa_nil)) pa_nil))))))
      (pss_cons (ps_if (PW.pt (pw_or (pt_cmpR op_ne (pe_callB (call_reprD hgd hr) (by rfl) T2.mrepr (by decide +kernel) (pa_cons (pv 8) pa_nil)) (pe_callB (call_reprD hgd hr) (by rfl) T2.mrepr (by decide +kernel) (pa_cons (pv 6) pa_nil)) (nomark _))
          (pw_or (pt_cmpR op_ne (pe_callB (call_reprD hgd hr) (by rfl) T2.mrepr (by decide +kernel) (pa_cons (pv 0) pa_nil)) (pv 7) (nomark _))
          (pw_or1 (pt_cmpR op_ne (pe_callB (call_reprD hgd hr) (by rfl) T2.mrepr (by decide +kernel) (pa_cons (pe_cal C.U hr (pa_cons (pe_ix ix_list (pv 8) pe_int (fun _ _ => rfl)) pa_nil)) pa_nil)) (pv 7) (nomark _)))))) (pss_one (ps_ret pe_bl)) pss_nil)
      (pss_cons (ps_set (i := 9) scRt.nd rfl (.inl rfl) (pe_ix ix_list (pe_lst (pa_cons pe_str (pa_cons pe_str (pa_cons pe_str pa_nil)))) (pe_op op_sub (pe_callB (call_min2 rfl) (by rfl) T2.mmin (by decide +kernel) (pa_cons pe_int (pa_cons (pe_callB call_len_seq (by rfl) T.mlen PySem.boot_len (pa_cons (pv 3) pa_nil)) pa_nil))) pe_int) (fun _ _ => rfl)))
      (pss_cons (ps_if (pt_cmpR op_ne (pe_callB (call_reprD hgd hr) (by rfl) T2.mrepr (by decide +kernel) (pa_cons (pe_lst (pa_cons (pe_cal C.D hr (pa_cons (pv 0) pa_nil)) (pa_cons (pe_cal C.E hr (pa_cons (pv 0) pa_nil)) pa_nil))) pa_nil))
          (pe_callB (call_reprD hgd hr) (by rfl) T2.mrepr (by decide +kernel) (pa_cons (pe_lst (pa_cons (pv 9) (pa_cons (pe_cal C.A hr (pa_cons (pv 0) pa_nil)) pa_nil))) pa_nil)) (nomark _)) (pss_one (ps_ret pe_bl)) pss_nil)
      (pss_cons (ps_if (pt_cmpR (op_neD (hu_of64 hr)) (pe_lc (own := [("_law_one", 12)]) (g := gName 12) (tt := tNot (tTest (tCall (spAln K) [] E0 (tCons (tVar 12) (tCons (tVar 0) tNil))))) rfl scRt.nd (pi_list (pv 8)) (blkOk_by (N := nRt) (sc := defScope sRt) (by decide +kernel)) (fun _ _ _ _ _ => pg_name (i := 12) scRt.nd rfl (Or.inl rfl))
          (fun _ _ _ _ _ => pts_one (pt_not (pt_val (pe_calG C.N hgd hr (pa_cons (pv 12) (pa_cons (pv 0) pa_nil)))))) (fun _ _ _ _ _ => pv 12)) (pe_lst pa_nil) (nomark _)) (pss_one (ps_ret pe_bl)) pss_nil)
      (pss_cons (ps_set (i := 10) scRt.nd rfl (.inl rfl) (pe_lst (pa_cons (pe_calN C.L C.nL hr (pv 0)) (pa_cons (pe_calN C.C C.nC hr (pv 0)) (pa_cons (pe_calN C.S C.nS hr (pv 0)) (pa_cons (pe_calN C.U C.nU hr (pv 0)) pa_nil))))))
      (pss_cons (ps_if (pt_cmpR op_ne (pe_callB (call_reprD hgd hr) (by rfl) T2.mrepr (by decide +kernel) (pa_cons (pe_lst (pa_cons (pe_calN C.D C.nD hr (pv 0)) (pa_cons (pe_calN C.E C.nE hr (pv 0)) pa_nil))) pa_nil))
          (pe_callB (call_reprD hgd hr) (by rfl) T2.mrepr (by decide +kernel) (pa_cons (pe_lst (pa_cons (pv 9) (pa_cons (pe_cal C.A hr (pa_cons (pv 0) pa_nil)) pa_nil))) pa_nil)) (nomark _)) (pss_one (ps_ret pe_bl)) pss_nil)
      (pss_one (ps_ret (pe_cmpR op_eq (pe_callB (call_reprD hgd hr) (by rfl) T2.mrepr (by decide +kernel) (pa_cons (pv 10) pa_nil)) (pe_callB (call_reprD hgd hr) (by rfl) T2.mrepr (by decide +kernel) (pa_cons (pv 6) pa_nil)) (nomark _))))))))))))))), ?_⟩
    case tt =>
      rintro σ H Q ⟨c, hs, ec, hS, l1, q⟩
      refine ⟨.ref c, ec, c, _, rfl, .inl hS, _, _, rfl, rfl, _, rfl, ite2 (fun d => ?_) (fun d => ?_)⟩
      · refine ⟨.ref c, ec, c, _, rfl, .inl hS, ?_⟩
        rw [refs_len] at d ⊢
        have d1 : 1 < (hs.length : Int) := of_decide_eq_true d
        unfold tot at q
        rw [List.length_map, if_neg (by omega)] at q
        exact q
      · rw [refs_len] at d
        have d1 : ¬ 1 < (hs.length : Int) := fun z => d (decide_eq_true z)
        unfold tot at q
        rw [List.length_map, if_pos (by omega)] at q
        exact q
    have fa := fp.fat
    have l1 := isf.l1
    rw [List.length_map] at l1
    have t10 := isf.t10
    refine ⟨.ref t, rfl, t, _, rfl, fa.tup, rfl, .int b, [.ref c, .ref o], rfl, .ref c, [.ref o], rfl, .ref o, [], rfl, rfl, ?_⟩
    refine ⟨c, ks, rfl, fa.cor, l1, ?_⟩
    refine ⟨.ref t1, rfl, .int b, rfl, .ref c, rfl, by show 0 ≤ sizeLine; decide, fun e1 ne1 => ⟨by show 3 ≤ sizeLine; decide, fun d1 nd1 => ?_⟩⟩
    have sA := (same_new (o := .lst []) ne1).trans (same_new (o := .tup [.int b, .ref c, .ref e1]) nd1)
    have gA : FPl K _ d1 c e1 b ks [] := ⟨upd_same, sA _ _ fp.cor, fp.pts.same sA, (same_new nd1) _ _ upd_same⟩
    generalize upd (upd H e1 (.lst [])) d1 (.tup [.int b, .ref c, .ref e1]) = HA at sA gA ⊢
    refine ⟨.int b, rfl, .ref c, rfl, _, rfl, _, rfl, RgOk.of_le (by decide) (by omega) (by decide) (by omega), fun e2 ne2 => ⟨by show 3 ≤ sizeLine; decide, fun d2 nd2 => ?_⟩⟩
    rw [rgV_rI] at nd2 ⊢
    have sB := (same_new (o := .lst ((Fen.rI (tot (ks.map (·.2)))).map V.int)) ne2).trans (same_new (o := .tup [.int b, .ref c, .ref e2]) nd2)
    have gB : FPl K _ d2 c e2 b ks (Fen.rI (tot (ks.map (·.2)))) := ⟨upd_same, sB _ _ (sA _ _ fp.cor), (fp.pts.same sA).same sB, (same_new nd2) _ _ upd_same⟩
    generalize upd (upd HA e2 (.lst ((Fen.rI (tot (ks.map (·.2)))).map V.int))) d2 (.tup [.int b, .ref c, .ref e2]) = HB at sB gB ⊢
    refine ⟨by show 3 ≤ sizeLine; decide, fun W nW => ?_⟩
    have sC := (sA.trans sB).trans (same_new (o := .lst [.ref t1, .ref d1, .ref d2]) nW)
    have hW : (upd HB W (.lst [.ref t1, .ref d1, .ref d2])) W = some (.lst [.ref t1, .ref d1, .ref d2]) := upd_same
    have gA2 := (gA.same sB).same (same_new (o := .lst [.ref t1, .ref d1, .ref d2]) nW)
    have gB2 := gB.same (same_new (o := .lst [.ref t1, .ref d1, .ref d2]) nW)
    have cW : c ≠ W := ne_of_none ((sA.trans sB) _ _ fp.cor) nW
    have e1W : e1 ≠ W := ne_of_none ((gA.same sB).sid) nW
    have e2W : e2 ≠ W := ne_of_none gB.sid nW
    have c1W : c1 ≠ W := ne_of_none ((sA.trans sB) _ _ fl.cor) nW
    have o1W : o1 ≠ W := ne_of_none ((sA.trans sB) _ _ fl.sid) nW
    have HW0 : H W = none := (sA.trans sB).free nW
    generalize upd HB W (.lst [.ref t1, .ref d1, .ref d2]) = HC at sC hW gA2 gB2 ⊢
    refine ⟨.ref W, rfl, .inl ⟨rfl, _, SqL.of hW⟩, ?_⟩
    refine ⟨.int b, rfl, .ref c, rfl, _, rfl, _, rfl, by omega, by omega, fun D nD => ?_⟩
    refine lc_range (lo := 0) (n := ((tot (ks.map (·.2)) : Nat) : Int).toNat) (fun j H' => Same HC H' ∧ H' D = some (.lst ((otherS j os).map V.int))) ⟨same_new nD, upd_same⟩ ?_ ?_
    · rintro j H' hj ⟨sz, hD⟩
      have hj2 : j < 10 := by omega
      have st : otherS (j + 1) os = otherS j os ++ (if os.contains (j : Int) then [] else [(j : Int)]) := by
        unfold otherS Fen.rI
        rw [List.range_succ, List.map_append, List.filter_append]
        congr 1
        rw [show List.map (fun (i : Nat) => (i : Int)) [j] = [(j : Int)] from rfl, List.filter_cons, List.filter_nil]
        cases os.contains (j : Int) <;> rfl
      refine ⟨rfl, _, rfl, _, rfl, o, os.map V.int, rfl, .inl ((sC.trans sz).seq fa.sid), rfl, by simp [flatV], _, rfl, ?_⟩
      have ei : inV (.int (0 + (j : Int))) (os.map V.int) = os.contains (j : Int) := by
        unfold inV
        rw [List.any_map, Int.zero_add, List.contains_eq_any_beq]
        congr 1
        funext x
        show (x == (j : Int)) = ((j : Int) == x)
        exact Bool.beq_comm
      rw [ei]
      cases hc : os.contains (j : Int) with
      | true =>
        refine iteF ⟨sz, ?_⟩
        rw [hD, st, hc]
        simp
      | false =>
        refine iteT ⟨_, rfl, _, hD, ?_, fun p q e => ?_, ?_⟩
        · rw [List.length_map]
          have : (otherS j os).length ≤ j := by
            unfold otherS Fen.rI
            refine Nat.le_trans (List.length_filter_le _ _) ?_
            rw [List.length_map, List.length_range]
            exact Nat.le_refl _
          exact Nat.lt_of_lt_of_le (show _ < 11 by omega) (by decide)
        · have nb : p ≠ D := fun y => by rw [y, nD] at e; cases e
          rw [upd_ne nb]
          exact sz p q e
        · rw [upd_same, st, hc, List.map_append, Int.zero_add]
          rfl
    rintro HD ⟨sz, hD⟩
    rw [show ((tot (ks.map (·.2)) : Nat) : Int).toNat = tot (ks.map (·.2)) from Int.toNat_natCast _] at hD
    refine ⟨by show 3 ≤ sizeLine; decide, fun d3 nd3 => ?_⟩
    have sD := sz.trans (same_new (o := .tup [.int b, .ref c, .ref D]) nd3)
    have gC : FPl K _ d3 c D b ks (otherS (tot (ks.map (·.2))) os) := ⟨upd_same, sD _ _ (sC _ _ fp.cor), (fp.pts.same sC).same sD, (same_new nd3) _ _ hD⟩
    have DW : D ≠ W := fun z => by rw [z, hW] at nD; cases nD
    generalize upd HD d3 (.tup [.int b, .ref c, .ref D]) = HE at sD gC ⊢
    refine ⟨W, _, .ref d3, rfl, rfl, sD _ _ hW, by show 3 < sizeLine; decide, ?_⟩
    have hW3 := sD _ _ hW
    have x1 := ((fl.fat.same sC).same sD).upd hW3 (SameX.put (o := .lst ([.ref t1, .ref d1, .ref d2] ++ [.ref d3]))) c1W o1W
    have x2 := (gA2.same sD).fat.upd hW3 (SameX.put (o := .lst ([.ref t1, .ref d1, .ref d2] ++ [.ref d3]))) cW e1W
    have x3 := (gB2.same sD).fat.upd hW3 (SameX.put (o := .lst ([.ref t1, .ref d1, .ref d2] ++ [.ref d3]))) cW e2W
    have x4 := gC.fat.upd hW3 (SameX.put (o := .lst ([.ref t1, .ref d1, .ref d2] ++ [.ref d3]))) cW DW
    have sF : Same H (upd HE W (.lst ([.ref t1, .ref d1, .ref d2] ++ [.ref d3]))) := fun a u e => by
      rw [upd_ne (ne_of_none e HW0)]
      exact (sC.trans sD) a u e
    have hWF : (upd HE W (.lst ([.ref t1, .ref d1, .ref d2] ++ [.ref d3]))) W = some (.lst [.ref t1, .ref d1, .ref d2, .ref d3]) := upd_same
    generalize upd HE W (.lst ([.ref t1, .ref d1, .ref d2] ++ [.ref d3])) = HF at x1 x2 x3 x4 sF hWF ⊢
    have fF := fa.same sF
    have ow := isf.rp
    obtain ⟨w1, w2, w3, w4⟩ := ow
    obtain ⟨d, hd⟩ : ∃ d : PyData, d = fD b (ks.map (·.2)) os := ⟨_, rfl⟩
    rw [← hd] at w1 w2 w3 w4
    have w3' : d.shown.length ≤ sizeLine := Nat.le_trans w3 (by decide)
    have w4' : d.depth ≤ 20 := Nat.le_trans w4 (by decide)
    have dpd : ∀ H', Same HF H' → Dp K H' (.ref t) d := fun H' z => by rw [hd]; exact (fF.same z).dp
    refine ⟨.ref t, rfl, t, d, rfl, dpd _ (Same.refl _), w1, w2, w3', w4', ?_⟩
    refine ⟨.ref t, rfl, t, c, o, b, ks, os, rfl, fF, isf, fun G1 u1 v1 y1 kk1 p1 n1 m1 => ?_⟩
    refine ⟨.ref t, rfl, t, c, o, b, ks, os, rfl, fF.same p1, isf, fun G2 u2 v2 y2 p2 n2 => ?_⟩
    refine ⟨.ref t, rfl, t, c, o, b, ks, os, rfl, (fF.same p1).same p2, isf, fun G3 u3 v3 y3 p3 n3 => ?_⟩
    refine ⟨.ref t, rfl, t, c, o, b, ks, os, rfl, ((fF.same p1).same p2).same p3, isf, fun G4 u4 v4 y4 p4 n4 => ?_⟩
    refine ⟨by show 4 ≤ sizeLine; decide, fun Z nZ => ?_⟩
    obtain ⟨tl, htl⟩ : ∃ tl : List Tf, tl = [⟨u1, v1, y1, lowB b (ks.map (·.2)), kk1, os⟩, ⟨u2, v2, y2, b, ks, []⟩, ⟨u3, v3, y3, b, ks, Fen.rI (tot (ks.map (·.2)))⟩, ⟨u4, v4, y4, b, ks, otherS (tot (ks.map (·.2))) os⟩] := ⟨_, rfl⟩
    have hZ : (upd G4 Z (.lst [.ref u1, .ref u2, .ref u3, .ref u4])) Z = some (.lst (tl.map fun x => V.ref x.t)) := by rw [htl]; exact upd_same
    have pZ : Same G4 (upd G4 Z (.lst [.ref u1, .ref u2, .ref u3, .ref u4])) := same_new nZ
    have hAt : ∀ x ∈ tl, x.At K G4 := by
      rw [htl]
      intro x hx
      rcases List.mem_cons.mp hx with rfl | hx
      · exact ((n1.pl.same p2).same p3).same p4
      rcases List.mem_cons.mp hx with rfl | hx
      · exact (n2.pl.same p3).same p4
      rcases List.mem_cons.mp hx with rfl | hx
      · exact n3.pl.same p4
      rcases List.mem_cons.mp hx with rfl | hx
      · exact n4.pl
      exact nomatch hx
    have hNew : ∀ x ∈ tl, HF x.t = none ∧ HF x.c = none ∧ HF x.o = none := by
      rw [htl]
      intro x hx
      rcases List.mem_cons.mp hx with rfl | hx
      · exact ⟨n1.nt, n1.nc, n1.no⟩
      rcases List.mem_cons.mp hx with rfl | hx
      · exact ⟨p1.free n2.nt, p1.free n2.nc, p1.free n2.no⟩
      rcases List.mem_cons.mp hx with rfl | hx
      · exact ⟨(p1.trans p2).free n3.nt, (p1.trans p2).free n3.nc, (p1.trans p2).free n3.no⟩
      rcases List.mem_cons.mp hx with rfl | hx
      · exact ⟨((p1.trans p2).trans p3).free n4.nt, ((p1.trans p2).trans p3).free n4.nc, ((p1.trans p2).trans p3).free n4.no⟩
      exact nomatch hx
    have hIs : ∀ x ∈ tl, IsF x.b (x.ks.map (·.2)) x.os ∧ x.c ≠ x.o := by
      rw [htl]
      intro x hx
      rcases List.mem_cons.mp hx with rfl | hx
      · refine ⟨?_, n1.ap⟩
        show IsF _ (kk1.map (·.2)) os
        rw [m1]
        exact isf.low
      rcases List.mem_cons.mp hx with rfl | hx
      · exact ⟨isf.non, n2.ap⟩
      rcases List.mem_cons.mp hx with rfl | hx
      · exact ⟨isf.all, n3.ap⟩
      rcases List.mem_cons.mp hx with rfl | hx
      · exact ⟨isf.oth, n4.ap⟩
      exact nomatch hx
    have hAp : tl.Pairwise Tf.Apart := by
      have ap : ∀ {H1 H2 : Hp} {x y : Tf}, x.At K H1 → NewF K H1 H2 y.t y.c y.o y.b y.ks y.os → x.Apart y := fun {H1 H2 x y} h n => ⟨ne_of_none h.cor n.nc, ne_of_none h.cor n.no, ne_of_none h.sid n.nc, ne_of_none h.sid n.no⟩
      rw [htl]
      refine List.pairwise_cons.mpr ⟨fun y hy => ?_, List.pairwise_cons.mpr ⟨fun y hy => ?_, List.pairwise_cons.mpr ⟨fun y hy => ?_, List.pairwise_singleton _ _⟩⟩⟩
      · rcases List.mem_cons.mp hy with rfl | hy
        · exact ap (H1 := G1) (H2 := G2) n1.pl n2
        rcases List.mem_cons.mp hy with rfl | hy
        · exact ap (H1 := G2) (H2 := G3) (n1.pl.same p2) n3
        rcases List.mem_cons.mp hy with rfl | hy
        · exact ap (H1 := G3) (H2 := G4) ((n1.pl.same p2).same p3) n4
        exact nomatch hy
      · rcases List.mem_cons.mp hy with rfl | hy
        · exact ap (H1 := G2) (H2 := G3) n2.pl n3
        rcases List.mem_cons.mp hy with rfl | hy
        · exact ap (H1 := G3) (H2 := G4) (n2.pl.same p3) n4
        exact nomatch hy
      · rcases List.mem_cons.mp hy with rfl | hy
        · exact ap (H1 := G3) (H2 := G4) n3.pl n4
        exact nomatch hy
    have hAt2 : ∀ x ∈ tl, x.At K (upd G4 Z (.lst [.ref u1, .ref u2, .ref u3, .ref u4])) := fun x hx => (hAt x hx).same pZ
    have hZn : ∀ x ∈ tl, x.c ≠ Z ∧ x.o ≠ Z := fun x hx => ⟨ne_of_none (hAt x hx).cor nZ, ne_of_none (hAt x hx).sid nZ⟩
    have pG : Same HF (upd G4 Z (.lst [.ref u1, .ref u2, .ref u3, .ref u4])) := ((((p1.trans p2).trans p3).trans p4).trans pZ)
    have g4 : tl[3]? = some ⟨u4, v4, y4, b, ks, otherS (tot (ks.map (·.2))) os⟩ := by rw [htl]; rfl
    have at3 : atI (tl.map fun x => V.ref x.t) 3 = some (.ref u4) := by rw [htl]; rfl
    have tlen : tl.length = 4 := by rw [htl]; rfl
    obtain ⟨dd, hdd⟩ : ∃ dd : PyData, dd = .list [fD (lowB b (ks.map (·.2))) (lowC b (ks.map (·.2))) os, fD b (ks.map (·.2)) [], fD b (ks.map (·.2)) (Fen.rI (tot (ks.map (·.2)))), fD b (ks.map (·.2)) (otherS (tot (ks.map (·.2))) os)] := ⟨_, rfl⟩
    have etl : dd = .list (tl.map Tf.D) := by
      rw [hdd, htl]
      show _ = PyData.list [fD (lowB b (ks.map (·.2))) (kk1.map (·.2)) os, _, _, _]
      rw [m1]
      rfl
    have rdd : RpX dd := by
      rw [etl]
      refine rp_list (n := 1500) (fun x hx => ?_) (by rw [List.length_map, tlen]; decide)
      obtain ⟨y, hy, rfl⟩ := List.mem_map.mp hx
      exact rp_fen (hIs y hy).1
    have dpT : ∀ H', H' Z = some (.lst (tl.map fun x => V.ref x.t)) → (∀ x ∈ tl, x.At K H') → Dp K H' (.ref Z) dd := fun H' z1 z2 => by
      rw [etl]
      exact .lst (SqL.of z1) (dp_tfs z2)
    have dpW : ∀ H', Same HF H' → Dp K H' (.ref W) dd := fun H' z => by
      rw [hdd]
      have x1' := (x1.same z).dp
      rw [el] at x1'
      exact .lst (SqL.of (z _ _ hWF)) (.cons x1' (.cons (x2.same z).dp (.cons (x3.same z).dp (.cons (x4.same z).dp .nil))))
    generalize upd G4 Z (.lst [.ref u1, .ref u2, .ref u3, .ref u4]) = HG at hZ pZ hAt2 pG ⊢
    clear htl
    refine ⟨.ref Z, rfl, Z, dd, rfl, dpT _ hZ hAt2, rdd.sh, rdd.nd, rdd.len, rdd.dep, .ref W, rfl, W, dd, rfl, dpW _ pG, rdd.sh, rdd.nd, rdd.len, rdd.dep, rfl, _, rfl, ?_⟩
    rw [decide_eq_true (rfl : V.str dd.shown = V.str dd.shown)]
    refine iteF ?_
    refine ⟨.ref t, rfl, t, d, rfl, dpd _ pG, w1, w2, w3', w4', _, rfl, rfl, _, rfl, ?_⟩
    rw [decide_eq_true (rfl : V.str d.shown = V.str d.shown)]
    refine iteF ?_
    have a4 := hAt2 _ (List.mem_of_getElem? g4)
    refine ⟨.ref Z, rfl, Z, _, 3, .ref u4, rfl, rfl, SqL.of hZ, at3, ?_⟩
    refine ⟨u4, v4, y4, b, ks, _, rfl, a4.fat, isf.oth, fun G5 u5 v5 y5 p5 n5 => ?_⟩
    have e5 : otherS (tot (ks.map (·.2))) (otherS (tot (ks.map (·.2))) os) = os := isf.twice
    have n5' : NewF K HG G5 u5 v5 y5 b ks os := by
      have z : NewF K HG G5 u5 v5 y5 b ks (otherS (tot (ks.map (·.2))) (otherS (tot (ks.map (·.2))) os)) := n5
      rw [e5] at z
      exact z
    refine ⟨u5, d, rfl, by rw [hd]; exact n5'.fat.dp, w1, w2, w3', w4', _, rfl, rfl, _, rfl, ?_⟩
    rw [decide_eq_true (rfl : V.str d.shown = V.str d.shown)]
    refine iteF ?_
    -- kind
    refine ⟨by show 3 ≤ sizeLine; decide, fun B nB => ?_⟩
    have s5 : Same HF (upd G5 B (.lst [.str "point", .str "stretch", .str "field"])) := (pG.trans p5).trans (same_new nB)
    have hB : (upd G5 B (.lst [.str "point", .str "stretch", .str "field"])) B = some (.lst [.str "point", .str "stretch", .str "field"]) := upd_same
    have hZ5 := (p5.trans (same_new (o := .lst [.str "point", .str "stretch", .str "field"]) nB)) _ _ hZ
    have hAt5 : ∀ x ∈ tl, x.At K (upd G5 B (.lst [.str "point", .str "stretch", .str "field"])) := fun x hx => (hAt2 x hx).same (p5.trans (same_new nB))
    generalize upd G5 B (.lst [.str "point", .str "stretch", .str "field"]) = G6 at s5 hB hZ5 hAt5 ⊢
    refine ⟨.ref c, rfl, c, _, rfl, .inl (s5.seq fF.cor), _, _, rfl, _, _, rfl, rfl, ?_⟩
    have kAt := kind_at l1
    rw [refs_len]
    refine ⟨B, _, _, .str (kindS (ks.map (·.2))), rfl, rfl, SqL.of hB, ?_, ?_⟩
    · rw [kAt]
      unfold kindS
      rw [List.length_map]
    have rka := ka_rp isf
    have dka : ∀ {H' : Hp} {l x : Addr}, H' x = some (.tup [.int (areaT (ks.map (·.2)) / areaG b (ks.map (·.2))), .int (2 * b * b / areaG b (ks.map (·.2)))]) → H' l = some (.lst [.str (kindS (ks.map (·.2))), .ref x]) → Dp K H' (.ref l) (kaD b (ks.map (·.2))) := fun {H' l x} z1 z2 =>
      .lst (SqL.of z2) (.cons (.str _) (.cons (.tup (SqT.of z1) (.cons (.int _) (.cons (.int _) .nil))) .nil))
    refine ⟨.ref t, rfl, t, c, o, b, ks, os, rfl, fF.same s5, isf, fun G7 s7 => ⟨.ref t, rfl, t, c, o, b, ks, os, rfl, (fF.same s5).same s7, isf, fun G8 x8 s8 h8 => ⟨by show 2 ≤ sizeLine; decide, fun L1 nL1 => ?_⟩⟩⟩
    have s9 := (s7.trans s8).trans (same_new (o := .lst [.str (kindS (ks.map (·.2))), .ref x8]) nL1)
    have dk1 := dka ((same_new (o := .lst [.str (kindS (ks.map (·.2))), .ref x8]) nL1) _ _ h8) upd_same
    generalize upd G8 L1 (.lst [.str (kindS (ks.map (·.2))), .ref x8]) = G9 at s9 dk1 ⊢
    refine ⟨L1, _, rfl, dk1, rka.sh, rka.nd, rka.len, rka.dep, ?_⟩
    refine ⟨_, rfl, .ref t, rfl, t, c, o, b, ks, os, rfl, (fF.same s5).same s9, isf, fun G10 x10 s10 h10 => ⟨by show 2 ≤ sizeLine; decide, fun L2 nL2 => ?_⟩⟩
    have s11 := (s9.trans s10).trans (same_new (o := .lst [.str (kindS (ks.map (·.2))), .ref x10]) nL2)
    have dk2 := dka ((same_new (o := .lst [.str (kindS (ks.map (·.2))), .ref x10]) nL2) _ _ h10) upd_same
    generalize upd G10 L2 (.lst [.str (kindS (ks.map (·.2))), .ref x10]) = GA at s11 dk2 ⊢
    refine ⟨L2, _, rfl, dk2, rka.sh, rka.nd, rka.len, rka.dep, rfl, _, rfl, ?_⟩
    rw [decide_eq_true (rfl : V.str (kaD b (ks.map (·.2))).shown = V.str (kaD b (ks.map (·.2))).shown)]
    refine iteF ?_
    -- alone
    have sGA := s5.trans s11
    have hZA := s11 _ _ hZ5
    have hAtA : ∀ x ∈ tl, x.At K GA := fun x hx => (hAt5 x hx).same s11
    refine ⟨.ref Z, rfl, Z, rfl, ⟨_, SqL.of hZA⟩, fun D2 nD2 => ?_⟩
    have sN2 := same_new (o := .lst []) nD2
    refine lc_list (K := K) (a := Z) (xs := tl.map fun x => V.ref x.t) (fun j H' => Same HF H' ∧ H' D2 = some (.lst []) ∧ H' Z = some (.lst (tl.map fun x => V.ref x.t)) ∧ ∀ i x, j ≤ i → tl[i]? = some x → x.At K H') ⟨sGA.trans sN2, upd_same, sN2 _ _ hZA, fun i x _ hx => (hAtA x (List.mem_of_getElem? hx)).same sN2⟩ (fun j H' _ z => SqL.of z.2.2.1) ?_ ?_
    · rintro j v H2 hv ⟨z1, z2, z3, z4⟩
      rw [List.getElem?_map] at hv
      obtain ⟨x, hx, rfl⟩ := Option.map_eq_some_iff.mp hv
      have mx := List.mem_of_getElem? hx
      obtain ⟨ix, apx⟩ := hIs x mx
      obtain ⟨nwt, nwc, nwo⟩ := hNew x mx
      have ax := z4 j x (Nat.le_refl _) hx
      have lx := ix.l2
      have lo := ix.few
      rw [List.length_map] at lx
      have hcF := sF _ _ fp.cor
      have hoF := sF _ _ fp.sid
      refine ⟨rfl, _, rfl, _, rfl, x.t, x.c, x.o, x.b, refs x.ks, x.os.map V.int, t, c, o, b, ks, os, rfl, ax.tup, ax.cor, ax.sid, by rw [refs_len]; omega, by rw [List.length_map]; omega, apx, fF.same z1, isf, ne_of_none hcF nwc, ne_of_none hcF nwo, ne_of_none hoF nwc, ne_of_none hoF nwo, fun H3 l1' l2' z5 z6 z7 => ?_⟩
      have d2 : x.c ≠ D2 := ne_of_none (hAtA x mx).cor nD2
      have d3 : x.o ≠ D2 := ne_of_none (hAtA x mx).sid nD2
      obtain ⟨zn1, zn2⟩ := hZn x mx
      refine ⟨true, rfl, iteF ⟨fun a u e => z5 a u (fun z => by rw [z, nwc] at e; cases e) (fun z => by rw [z, nwo] at e; cases e) (z1 a u e), z5 _ _ (Ne.symm d2) (Ne.symm d3) z2, z5 _ _ (Ne.symm zn1) (Ne.symm zn2) z3, fun i y hi hy => ?_⟩⟩
      refine (z4 i y (by omega) hy).two ax z5 ?_
      obtain ⟨lj, ej⟩ := List.getElem?_eq_some_iff.mp hx
      obtain ⟨li, ei⟩ := List.getElem?_eq_some_iff.mp hy
      have := List.pairwise_iff_getElem.mp hAp j i lj li (by omega)
      rw [ej, ei] at this
      exact this
    · rintro H2 ⟨z1, z2, _, _⟩
      refine ⟨by show 0 ≤ sizeLine; decide, fun Y nY => ⟨.list [], .list [], .lst (SqL.of ((same_new nY) _ _ z2)) .nil, .lst (SqL.of upd_same) .nil, shaped_pts [], shaped_pts [], _, rfl, ?_⟩⟩
      rw [show PyData.eqv (.list []) (.list []) = true from eqv_self (shaped_pts [])]
      refine iteF ?_
      have sY := z1.trans (same_new (o := .lst []) nY)
      generalize upd H2 Y (.lst []) = GB at sY ⊢
      refine ⟨.ref t, rfl, t, c, o, b, ks, os, rfl, fF.same sY, isf, fun G1 u1 v1 y1 kk1 p1 n1 m1 => ?_⟩
      refine ⟨.ref t, rfl, t, c, o, b, ks, os, rfl, (fF.same sY).same p1, isf, fun G2 u2 v2 y2 p2 n2 => ?_⟩
      refine ⟨.ref t, rfl, t, c, o, b, ks, os, rfl, ((fF.same sY).same p1).same p2, isf, fun G3 u3 v3 y3 p3 n3 => ?_⟩
      refine ⟨.ref t, rfl, t, c, o, b, ks, os, rfl, (((fF.same sY).same p1).same p2).same p3, isf, fun G4 u4 v4 y4 p4 n4 => ?_⟩
      refine ⟨by show 4 ≤ sizeLine; decide, fun Z2 nZ2 => ?_⟩
      have pZ2 := same_new (o := .lst [.ref u1, .ref u2, .ref u3, .ref u4]) nZ2
      have dpA : ∀ H', Same (upd G4 Z2 (.lst [.ref u1, .ref u2, .ref u3, .ref u4])) H' → Dp K H' (.ref Z2) dd := fun H' zz => by
        have y1 := (((((n1.same p2).same p3).same p4).same pZ2).same zz).fat.dp
        rw [m1] at y1
        rw [hdd]
        exact .lst (SqL.of (zz _ _ upd_same)) (.cons y1 (.cons ((((n2.same p3).same p4).same pZ2).same zz).fat.dp (.cons (((n3.same p4).same pZ2).same zz).fat.dp (.cons ((n4.same pZ2).same zz).fat.dp .nil))))
      have sZ2 := (sY.trans (((p1.trans p2).trans p3).trans p4)).trans pZ2
      generalize upd G4 Z2 (.lst [.ref u1, .ref u2, .ref u3, .ref u4]) = GC at dpA sZ2 ⊢
      refine ⟨.ref t, rfl, t, c, o, b, ks, os, rfl, fF.same sZ2, isf, fun G7 s7 => ⟨.ref t, rfl, t, c, o, b, ks, os, rfl, (fF.same sZ2).same s7, isf, fun G8 x8 s8 h8 => ⟨by show 2 ≤ sizeLine; decide, fun L1 nL1 => ?_⟩⟩⟩
      have s9 := (s7.trans s8).trans (same_new (o := .lst [.str (kindS (ks.map (·.2))), .ref x8]) nL1)
      have dk1 := dka ((same_new (o := .lst [.str (kindS (ks.map (·.2))), .ref x8]) nL1) _ _ h8) upd_same
      generalize upd G8 L1 (.lst [.str (kindS (ks.map (·.2))), .ref x8]) = G9 at s9 dk1 ⊢
      refine ⟨L1, _, rfl, dk1, rka.sh, rka.nd, rka.len, rka.dep, ?_⟩
      refine ⟨_, rfl, .ref t, rfl, t, c, o, b, ks, os, rfl, (fF.same sZ2).same s9, isf, fun G10 x10 s10 h10 => ⟨by show 2 ≤ sizeLine; decide, fun L2 nL2 => ?_⟩⟩
      have s11 := (s9.trans s10).trans (same_new (o := .lst [.str (kindS (ks.map (·.2))), .ref x10]) nL2)
      have dk2 := dka ((same_new (o := .lst [.str (kindS (ks.map (·.2))), .ref x10]) nL2) _ _ h10) upd_same
      generalize upd G10 L2 (.lst [.str (kindS (ks.map (·.2))), .ref x10]) = GD at s11 dk2 ⊢
      refine ⟨L2, _, rfl, dk2, rka.sh, rka.nd, rka.len, rka.dep, rfl, _, rfl, ?_⟩
      rw [decide_eq_true (rfl : V.str (kaD b (ks.map (·.2))).shown = V.str (kaD b (ks.map (·.2))).shown)]
      refine iteF ?_
      have sE := sZ2.trans s11
      refine ⟨.ref Z2, rfl, Z2, dd, rfl, dpA _ s11, rdd.sh, rdd.nd, rdd.len, rdd.dep, .ref W, rfl, W, dd, rfl, dpW _ sE, rdd.sh, rdd.nd, rdd.len, rdd.dep, rfl, ?_⟩
      rw [decide_eq_true (rfl : V.str dd.shown = V.str dd.shown)]
      exact q _ (sF.trans sE)
end
end K3
set_option Elab.async false
set_option linter.all false
set_option maxRecDepth 100000
set_option maxHeartbeats 1000000
set_option exponentiation.threshold 20000
namespace Fen
open PySem PySem.Spec PyProof.Rows L2
theorem bools_rp (x y : Bool) : RpX (.list [.bool x, .bool y, .bool true]) := by
  refine ⟨?_, rfl, ?_, by cases x <;> cases y <;> decide⟩
  · cases x <;> cases y <;> rfl
  · refine Nat.le_trans (show _ ≤ 100 from ?_) (by decide)
    cases x <;> cases y <;> decide
end Fen
namespace K3
open PySem PySem.Spec PyProof.Rows L2 Fen
abbrev sSR : Stmt := topS 48
abbrev nSR : List Str := ["_law_shape", "_law_other", "_law_due", "_law_kept", "_law_told"]
theorem scSR : FnScope nSR ["_law_shape", "_law_other"] (defScope sSR) := ⟨rfl, rfl, rfl, by decide +kernel, rfl, by decide +kernel, by decide +kernel⟩
section
variable {P : Program} {w : World} {K : PySem.W.Frag} {mg : Str → Option Value} {base : Heap}
def spSR (K : PySem.W.Frag) : Sp := fun vs H Q _ => ∃ (t c o : Addr) (b : Int) (ks : Pts) (os : List Int) (t2 c2 o2 : Addr) (b2 : Int) (ks2 : Pts) (os2 : List Int), vs = [.ref t, .ref t2] ∧ FPl K H t c o b ks os ∧ IsF b (ks.map (·.2)) os ∧ FPl K H t2 c2 o2 b2 ks2 os2 ∧ IsF b2 (ks2.map (·.2)) os2 ∧
  ∀ H', Same H H' → Q (.bl true) H'
theorem ok_sr {f fL fS : Addr} {fd dL dS : FuncData} {k : Nat} (F : Fun K "_law_same_right" "_law_same_right" sSR f fd) (T : Nms mg) (T2 : Nm2 mg)
    (CL : Cal P w K mg base (k + 1) "_law_lowest" fL dL ["_law_shape"] (spLL K)) (CS : Cal P w K mg base (k + 1) "are_same" fS dS ["fence", "other"] (spSam K)) :
    FnG P w K mg base CX0 (k + 1 + 1) f fd ["_law_shape", "_law_other"] (spSR K) := by
  refine F.okG scSR (fun vs H Q E h => ?_) (fun cdv A outer s H vs Q E hgd hr h => ?_)
  · obtain ⟨t, c, o, b, ks, os, t2, c2, o2, b2, ks2, os2, rfl, _⟩ := h
    rfl
  · obtain ⟨t, c, o, b, ks, os, t2, c2, o2, b2, ks2, os2, rfl, fp, isf, fp2, isf2, q⟩ := h
    refine ⟨_, pss_cons (ps_set (i := 2) scSR.nd rfl (.inl rfl) (pe_cmpR (op_eqD (hu_of64 hr)) (pe_cal CL hr (pa_cons (pv 0) pa_nil)) (pe_cal CL hr (pa_cons (pv 1) pa_nil)) (nomark _)))
      (pss_cons (ps_set (i := 3) scSR.nd rfl (.inl rfl) (pe_callB (call_reprD hgd hr) (by rfl) T2.mrepr (by decide +kernel) (pa_cons (pe_lst (pa_cons (pv 0) (pa_cons (pv 1) pa_nil))) pa_nil)))
      (pss_cons (ps_set (i := 4) scSR.nd rfl (.inl rfl) (pe_lst (pa_cons (pe_cal CS hr (pa_cons (pv 0) (pa_cons (pv 1) pa_nil))) (pa_cons (pe_cal CS hr (pa_cons (pv 1) (pa_cons (pv 0) pa_nil))) (pa_cons (pe_cal CS hr (pa_cons (pv 0) (pa_cons (pv 0) pa_nil))) pa_nil)))))
      (pss_one (ps_ret (pe_and (pe_cmpR op_eq (pe_callB (call_reprD hgd hr) (by rfl) T2.mrepr (by decide +kernel) (pa_cons (pv 4) pa_nil)) (pe_callB (call_reprD hgd hr) (by rfl) T2.mrepr (by decide +kernel) (pa_cons (pe_lst (pa_cons (pv 2) (pa_cons (pv 2) (pa_cons pe_bl pa_nil)))) pa_nil)) (nomark _))
          (pe_and1 (pe_cmpR op_eq (pe_callB (call_reprD hgd hr) (by rfl) T2.mrepr (by decide +kernel) (pa_cons (pe_lst (pa_cons (pv 0) (pa_cons (pv 1) pa_nil))) pa_nil)) (pv 3) (nomark _)))))))), ?_⟩
    refine ⟨.ref t, rfl, t, c, o, b, ks, os, rfl, fp, isf, fun H1 u1 v1 ks1 s1 nt1 nc1 f1 e1 => ?_⟩
    refine ⟨.ref t2, rfl, t2, c2, o2, b2, ks2, os2, rfl, fp2.same s1, isf2, fun H2 u2 v2 ks2' s2 nt2 nc2 f2 e2 => ?_⟩
    have d1 := (f1.same s2).fat.dp
    have d2 := f2.fat.dp
    rw [e1] at d1
    rw [e2] at d2
    refine ⟨_, _, d1, d2, shaped_f _ _ _, shaped_f _ _ _, ?_⟩
    obtain ⟨A1, hA1⟩ : ∃ A1 : PyData, A1 = fD (lowB b (ks.map (·.2))) (lowC b (ks.map (·.2))) os := ⟨_, rfl⟩
    obtain ⟨A2, hA2⟩ : ∃ A2 : PyData, A2 = fD (lowB b2 (ks2.map (·.2))) (lowC b2 (ks2.map (·.2))) os2 := ⟨_, rfl⟩
    have eC : PyData.eqv A2 A1 = PyData.eqv A1 A2 := PySem.W.eqv_comm _ _
    have eR : PyData.eqv A1 A1 = true := by rw [hA1]; exact eqv_self (shaped_f _ _ _)
    rw [← hA1, ← hA2]
    have rS : RpX (.list [fD b (ks.map (·.2)) os, fD b2 (ks2.map (·.2)) os2]) := rp_list (n := 1500) (fun x hx => by
      rcases List.mem_cons.mp hx with rfl | hx
      · exact rp_fen isf
      rcases List.mem_cons.mp hx with rfl | hx
      · exact rp_fen isf2
      exact nomatch hx) (show (1500 + 2) * 2 ≤ 10000 by decide)
    obtain ⟨dd, hdd⟩ : ∃ dd : PyData, dd = .list [fD b (ks.map (·.2)) os, fD b2 (ks2.map (·.2)) os2] := ⟨_, rfl⟩
    rw [← hdd] at rS
    have sA := s1.trans s2
    have dpL : ∀ {H' : Hp} {l : Addr}, Same H H' → H' l = some (.lst [.ref t, .ref t2]) → Dp K H' (.ref l) dd := fun {H' l} z1 z2 => by
      rw [hdd]
      exact .lst (SqL.of z2) (.cons (fp.same z1).fat.dp (.cons (fp2.same z1).fat.dp .nil))
    refine ⟨.ref t, rfl, .ref t2, rfl, by show 2 ≤ sizeLine; decide, fun L1 nL1 => ?_⟩
    have sB := sA.trans (same_new (o := .lst [.ref t, .ref t2]) nL1)
    refine ⟨L1, dd, rfl, dpL sB upd_same, rS.sh, rS.nd, rS.len, rS.dep, ?_⟩
    generalize upd H2 L1 (.lst [.ref t, .ref t2]) = H3 at sB ⊢
    have fa := (fp.same sB).fat
    have fb := (fp2.same sB).fat
    refine ⟨.ref t, rfl, .ref t2, rfl, t, c, o, b, ks, os, t2, c2, o2, b2, ks2, os2, rfl, fa, isf, fb, isf2, fun H4 s4 => ?_⟩
    rw [← hA1, ← hA2]
    refine ⟨.ref t2, rfl, .ref t, rfl, t2, c2, o2, b2, ks2, os2, t, c, o, b, ks, os, rfl, fb.same s4, isf2, fa.same s4, isf, fun H5 s5 => ?_⟩
    rw [← hA1, ← hA2, eC]
    refine ⟨.ref t, rfl, .ref t, rfl, t, c, o, b, ks, os, t, c, o, b, ks, os, rfl, (fa.same s4).same s5, isf, (fa.same s4).same s5, isf, fun H6 s6 => ?_⟩
    rw [← hA1, eR]
    generalize PyData.eqv A1 A2 = bb
    have rB := bools_rp bb bb
    refine ⟨by show 3 ≤ sizeLine; decide, fun L2 nL2 => ?_⟩
    have dB : ∀ {H' : Hp} {l : Addr}, H' l = some (.lst [.bl bb, .bl bb, .bl true]) → Dp K H' (.ref l) (.list [.bool bb, .bool bb, .bool true]) := fun z => .lst (SqL.of z) (.cons (.bl _) (.cons (.bl _) (.cons (.bl _) .nil)))
    refine ⟨.ref L2, rfl, L2, _, rfl, dB upd_same, rB.sh, rB.nd, rB.len, rB.dep, ?_⟩
    refine ⟨.bl bb, rfl, .bl bb, rfl, by show 3 ≤ sizeLine; decide, fun L3 nL3 => ⟨L3, _, rfl, dB upd_same, rB.sh, rB.nd, rB.len, rB.dep, rfl, true, ?_, ?_⟩⟩
    · rw [decide_eq_true rfl]
    refine iteT ?_
    have sD := (((((sB.trans s4).trans s5).trans s6).trans (same_new (o := .lst [.bl bb, .bl bb, .bl true]) nL2)).trans (same_new (o := .lst [.bl bb, .bl bb, .bl true]) nL3))
    refine ⟨.ref t, rfl, .ref t2, rfl, by show 2 ≤ sizeLine; decide, fun L4 nL4 => ?_⟩
    have sE := sD.trans (same_new (o := .lst [.ref t, .ref t2]) nL4)
    refine ⟨L4, dd, rfl, dpL sE upd_same, rS.sh, rS.nd, rS.len, rS.dep, _, rfl, rfl, ?_⟩
    rw [decide_eq_true (rfl : V.str dd.shown = V.str dd.shown)]
    exact q _ sE
end
end K3
set_option Elab.async false
set_option linter.all false
set_option maxRecDepth 100000
set_option maxHeartbeats 1000000
set_option exponentiation.threshold 20000
namespace Fen
open PySem PySem.Spec PyProof.Rows L2
theorem eqv_pt_eq {p q : Hull.P} (h : PyData.eqv (ptD p) (ptD q) = true) : p = q := by
  obtain ⟨a, b⟩ := p
  obtain ⟨c, d⟩ := q
  simp [ptD, PyData.eqv, PyData.eqvAll] at h
  rw [h.1, h.2]
theorem eqv_ptsAll : ∀ {ps qs : List Hull.P}, PyData.eqvAll (ps.map ptD) (qs.map ptD) = true → ps = qs
  | [], [], _ => rfl
  | [], _ :: _, h => by simp [PyData.eqvAll] at h
  | _ :: _, [], h => by simp [PyData.eqvAll] at h
  | p :: ps, q :: qs, h => by
    rw [List.map_cons, List.map_cons] at h
    simp only [PyData.eqvAll, Bool.and_eq_true] at h
    rw [eqv_pt_eq h.1, eqv_ptsAll h.2]
theorem eqv_pts_eq {ps qs : List Hull.P} (h : PyData.eqv (ptsD ps) (ptsD qs) = true) : ps = qs := by
  refine eqv_ptsAll ?_
  simpa [ptsD, PyData.eqv] using h
theorem IsF.btm {b b' : Int} {cs : List Hull.P} {os : List Int} (f : IsF b cs os) (h1 : 1 ≤ b') (h2 : b' ≤ 30) : IsF b' cs os := ⟨h1, h2, f.l1, f.l2, f.co, f.sh, f.up, f.inn⟩
theorem IsF.pt {b : Int} {p : Hull.P} (h1 : 1 ≤ b) (h2 : b ≤ 30) (h : Cor p) : IsF b [p] [] := ⟨h1, h2, by simp, by simp, fun q hq => by rw [List.mem_singleton.mp hq]; exact h, .inl rfl, List.Pairwise.nil, fun o ho => nomatch ho⟩
/-- the hull of what is drawn, closed -/
theorem IsF.hul {b : Int} {s : List Hull.P} {D : List Hull.P} (h1 : 1 ≤ b) (h2 : b ≤ 30) (asc : s.Pairwise Hull.Lt) (ls : 1 ≤ s.length) (mem : ∀ x ∈ s, x ∈ D) (lD : D.length ≤ 10) (co : ∀ x ∈ D, Cor x) : IsF b (Fen.hul s) [] := by
  obtain ⟨shp, lh, sub⟩ := shape_hul asc ls
  refine ⟨h1, h2, lh, Nat.le_trans (hul_len asc ls mem) lD, fun x hx => co x (mem x (sub x hx)), shp, List.Pairwise.nil, fun o ho => nomatch ho⟩
theorem FPl.upd {K : PySem.W.Frag} {H H' : Hp} {t c o w : Addr} {b : Int} {ks : Pts} {os : List Int} {l : List V} (f : FPl K H t c o b ks os) (hw : H w = some (.lst l)) (s : SameX w H H') (cw : c ≠ w) (ow : o ≠ w) : FPl K H' t c o b ks os :=
  ⟨s _ _ (fun z => by have e := f.tup; rw [z, hw] at e; cases e) f.tup, s _ _ cw f.cor, K3.At.put f.pts hw s, s _ _ ow f.sid⟩
theorem FPl.drew {K : PySem.W.Frag} {H H' : Hp} {t c o p : Addr} {b : Int} {ks : Pts} {os : List Int} {n m : Nat} (f : FPl K H t c o b ks os) (hb : K3.BagAt H p n) (d : K3.Drew p H H' m) (cp : c ≠ p) (op : o ≠ p) : FPl K H' t c o b ks os := by
  obtain ⟨_, _, _, e, _⟩ := hb
  exact f.upd e d.x cp op
end Fen
namespace K3
open PySem PySem.Spec PyProof.Rows L2 Fen
/-- fences told in a list at f; the bag at p -/
structure Got (K : PySem.W.Frag) (H : Hp) (p f : Addr) (xs : List Tf) : Prop where
  hf : H f = some (.lst (xs.map fun x => V.ref x.t))
  fp : f ≠ p
  at' : ∀ x ∈ xs, x.At K H
  isf : ∀ x ∈ xs, IsF x.b (x.ks.map (·.2)) x.os
  cp : ∀ x ∈ xs, x.c ≠ p ∧ x.o ≠ p
  cf : ∀ x ∈ xs, x.c ≠ f ∧ x.o ≠ f
theorem Got.same {K : PySem.W.Frag} {H H' : Hp} {p f : Addr} {xs : List Tf} (g : Got K H p f xs) (s : Same H H') : Got K H' p f xs := ⟨s _ _ g.hf, g.fp, fun x hx => FPl.same (g.at' x hx) s, g.isf, g.cp, g.cf⟩
theorem Got.drew {K : PySem.W.Frag} {H H' : Hp} {p f : Addr} {xs : List Tf} {n m : Nat} (g : Got K H p f xs) (hb : BagAt H p n) (d : Drew p H H' m) : Got K H' p f xs :=
  ⟨d.x _ _ g.fp g.hf, g.fp, fun x hx => FPl.drew (g.at' x hx) hb d (g.cp x hx).1 (g.cp x hx).2, g.isf, g.cp, g.cf⟩
theorem Got.add {K : PySem.W.Frag} {H : Hp} {p f : Addr} {xs : List Tf} {x : Tf} (g : Got K H p f xs) (h : x.At K H) (i : IsF x.b (x.ks.map (·.2)) x.os) (cp : x.c ≠ p ∧ x.o ≠ p) (cf : x.c ≠ f ∧ x.o ≠ f) :
    Got K (upd H f (.lst ((xs.map fun x => V.ref x.t) ++ [V.ref x.t]))) p f (xs ++ [x]) := by
  have up : ∀ y : Tf, y.At K H → y.c ≠ f ∧ y.o ≠ f → y.At K (upd H f (.lst ((xs.map fun x => V.ref x.t) ++ [V.ref x.t]))) := fun y hy a => FPl.upd hy g.hf SameX.put a.1 a.2
  refine ⟨by rw [upd_same, List.map_append]; rfl, g.fp, fun y hy => ?_, fun y hy => ?_, fun y hy => ?_, fun y hy => ?_⟩
  all_goals rcases List.mem_append.mp hy with z | z
  · exact up y (g.at' y z) (g.cf y z)
  · rw [List.mem_singleton.mp z]; exact up x h cf
  · exact g.isf y z
  · rw [List.mem_singleton.mp z]; exact i
  · exact g.cp y z
  · rw [List.mem_singleton.mp z]; exact cp
  · exact g.cf y z
  · rw [List.mem_singleton.mp z]; exact cf
end K3
namespace K3
open PySem PySem.Spec PyProof.Rows L2 Fen
/-- the list at f, and nothing else but the bag, was changed since H0 -/
structure Inv (K : PySem.W.Frag) (H0 H : Hp) (p f : Addr) (xs : List Tf) (n : Nat) : Prop where
  dr : Drew p H0 H n
  nf : H0 f = none
  got : Got K H p f xs
theorem Inv.new {K : PySem.W.Frag} {H0 H H' : Hp} {p f : Addr} {xs : List Tf} {n : Nat} (i : Inv K H0 H p f xs n) (s : Same H H') : Inv K H0 H' p f xs n := ⟨i.dr.new s, i.nf, i.got.same s⟩
theorem Inv.drew {K : PySem.W.Frag} {H0 H H' : Hp} {p f : Addr} {xs : List Tf} {n m : Nat} (i : Inv K H0 H p f xs n) (d : Drew p H H' m) : Inv K H0 H' p f xs m := ⟨i.dr.then d, i.nf, i.got.drew i.dr.bag d⟩
theorem Inv.add {K : PySem.W.Frag} {H0 H : Hp} {p f : Addr} {xs : List Tf} {n : Nat} {x : Tf} (i : Inv K H0 H p f xs n) (h : x.At K H) (s : IsF x.b (x.ks.map (·.2)) x.os) (cp : x.c ≠ p ∧ x.o ≠ p) (cf : x.c ≠ f ∧ x.o ≠ f) :
    Inv K H0 (upd H f (.lst ((xs.map fun x => V.ref x.t) ++ [V.ref x.t]))) p f (xs ++ [x]) n := ⟨i.dr.put i.nf i.got.fp, i.nf, i.got.add h s cp cf⟩
theorem Inv.more {K : PySem.W.Frag} {H0 H : Hp} {p f : Addr} {xs : List Tf} {n m : Nat} (i : Inv K H0 H p f xs n) (h : n ≤ m) : Inv K H0 H p f xs m := ⟨⟨i.dr.x, i.dr.bag.more h⟩, i.nf, i.got⟩
theorem Inv.nef {K : PySem.W.Frag} {H0 H : Hp} {p f : Addr} {xs : List Tf} {n : Nat} (i : Inv K H0 H p f xs n) {d : Addr} (h : H d = none) : d ≠ f := fun z => by
  have e := i.got.hf
  rw [← z, h] at e
  cases e
theorem Inv.low {K : PySem.W.Frag} {H0 H : Hp} {p f : Addr} {xs : List Tf} {n n0 : Nat} {t c o : Addr} {b : Int} {ks : Pts} {os : List Int} (i : Inv K H0 H p f xs n) (h : FPl K H0 t c o b ks os) (hb : BagAt H0 p n0) (cp : c ≠ p) (op : o ≠ p) : FPl K H t c o b ks os := FPl.drew h hb i.dr cp op
abbrev sOt : Stmt := topS 49
abbrev nOt : List Str := ["_law_bag_here", "_law_low", "_law_bottom", "_law_corners", "_law_sides", "_law_many", "_law_side", "_law_found", "_law_more", "_law_at", "_law_near", "_law_mirrored", "_law_some", "_law_one", "_law_place", "_law_x", "_law_y"]
theorem scOt : FnScope nOt ["_law_bag_here", "_law_low"] (defScope sOt) := ⟨rfl, rfl, rfl, by decide +kernel, rfl, by decide +kernel, by decide +kernel⟩
def So (p t c o : Addr) (b : Int) (many : Nat) (s6 : Option V) (f : Addr) (s8 s9 s10 s11 s12 : Option V) : L2.St := [some (.ref p), some (.ref t), some (.int b), some (.ref c), some (.ref o), some (.int many), s6, some (.ref f), s8, s9, s10, s11, s12, none, none, none, none]
section
variable (K : PySem.W.Frag) (H0 : Hp) (p t c o : Addr) (b : Int) (ks : Pts)
/-- one side otherwise -/
def TA : TS := fun D σ H => ∃ (f : Addr) (xs : List Tf) (n : Nat), σ = So p t c o b (tot (ks.map (·.2))) none f none none none none none ∧ Inv K H0 H p f xs n ∧ n ≤ 900000 ∧ xs.length ≤ 20 ∧
  ∀ H' s6 s8 xs', Inv K H0 H' p f xs' (n + 1) → xs'.length ≤ xs.length + 1 → D.nx (So p t c o b (tot (ks.map (·.2))) s6 f s8 none none none none) H'
/-- one corner moved -/
def TB : TS := fun D σ H => ∃ (f : Addr) (xs : List Tf) (n : Nat) (s6 s8 s9 : Option V) (na : Addr) (near : Pts) (s11 s12 : Option V), σ = So p t c o b (tot (ks.map (·.2))) s6 f s8 s9 (some (.ref na)) s11 s12 ∧ Inv K H0 H p f xs n ∧ xs.length ≤ 20 ∧
  H na = some (.lst (refs near)) ∧ At K H near ∧ near.length = ks.length ∧ (∀ q ∈ near, Cor q.2) ∧ na ≠ p ∧ na ≠ f ∧
  ∀ H' xs', Inv K H0 H' p f xs' n → xs'.length ≤ xs.length + 1 → D.nx (So p t c o b (tot (ks.map (·.2))) s6 f s8 s9 (some (.ref na)) s11 s12) H'
/-- one corner less -/
def TC : TS := fun D σ H => ∃ (f : Addr) (xs : List Tf) (n : Nat) (s6 s8 s9 s10 s11 : Option V) (sa : Addr) (sm : Pts), σ = So p t c o b (tot (ks.map (·.2))) s6 f s8 s9 s10 s11 (some (.ref sa)) ∧ Inv K H0 H p f xs n ∧ xs.length ≤ 20 ∧
  H sa = some (.lst (refs sm)) ∧ At K H sm ∧ (sm ≠ [] → IsF b (sm.map (·.2)) []) ∧ sa ≠ p ∧ sa ≠ f ∧
  ∀ H' xs', Inv K H0 H' p f xs' n → xs'.length ≤ xs.length + 1 → D.nx (So p t c o b (tot (ks.map (·.2))) s6 f s8 s9 s10 s11 (some (.ref sa))) H'
end
end K3
set_option Elab.async false
set_option linter.all false
set_option maxRecDepth 100000
set_option maxHeartbeats 1000000
set_option exponentiation.threshold 20000
namespace K3
open PySem PySem.Spec PyProof.Rows L2 Fen
theorem toggle_ok {os : List Int} {n : Nat} {r : Int} {ns' : List Int} (up : os.Pairwise (· < ·)) (inn : ∀ o ∈ os, 0 ≤ o ∧ o < n) (r0 : 0 ≤ r) (r1 : r < n) (pm : ns'.Perm (os.filter (fun x => decide (x ≠ r)) ++ (List.replicate (if (!os.contains r) = true then (1 : Int) else 0).toNat [r]).flatten)) (pw : ns'.Pairwise (· ≤ ·)) :
    ns'.Pairwise (· < ·) ∧ ∀ o ∈ ns', 0 ≤ o ∧ o < n := by
  have ez : (List.replicate (if (!os.contains r) = true then (1 : Int) else 0).toNat [r]).flatten = if os.contains r then [] else [r] := by
    cases os.contains r <;> rfl
  rw [ez] at pm
  have nd0 : os.Nodup := up.imp fun h => Int.ne_of_lt h
  have nd : ns'.Nodup := by
    refine pm.nodup_iff.mpr (List.nodup_append.mpr ⟨nd0.filter _, by split <;> simp, fun x hx y hy => ?_⟩)
    have h1 := (List.mem_filter.mp hx).2
    split at hy
    · exact nomatch hy
    · rw [List.mem_singleton.mp hy]
      simpa using h1
  refine ⟨(List.pairwise_and_iff.mpr ⟨pw, nd⟩).imp fun h => by omega, fun x hx => ?_⟩
  have := pm.mem_iff.mp hx
  rcases List.mem_append.mp this with z | z
  · exact inn x (List.mem_filter.mp z).1
  · split at z
    · exact nomatch z
    · rw [List.mem_singleton.mp z]
      exact ⟨r0, r1⟩
theorem pts_push {K : PySem.W.Frag} {H0 H : Hp} {N u : Addr} {near : Pts} {q : Hull.P} (s : Same H0 H) (nN : H0 N = none) (hN : H N = some (.lst (refs near))) (T : At K H near) (nu : H u = none) :
    (upd H u (.tup [.int q.1, .int q.2])) N = some (.lst (refs near)) ∧ Same H0 (upd (upd H u (.tup [.int q.1, .int q.2])) N (.lst (refs near ++ [.ref u]))) ∧ (upd (upd H u (.tup [.int q.1, .int q.2])) N (.lst (refs near ++ [.ref u]))) N = some (.lst (refs (near ++ [(u, q)]))) ∧ At K (upd (upd H u (.tup [.int q.1, .int q.2])) N (.lst (refs near ++ [.ref u]))) (near ++ [(u, q)]) := by
  have s3 := same_new (o := .tup [.int q.1, .int q.2]) nu
  have hN3 := s3 _ _ hN
  have uN : u ≠ N := fun z => by
    rw [z, hN] at nu
    cases nu
  refine ⟨hN3, fun a r e => ?_, ?_, fun r hr => ?_⟩
  · have nb : a ≠ N := fun y => by rw [y, nN] at e; cases e
    rw [upd_ne nb]
    exact (s.trans s3) a r e
  · rw [upd_same]
    simp [refs]
  · rcases List.mem_append.mp hr with z | z
    · exact L2.SqT.put ((T.same s3) r z) hN3 SameX.put
    · rw [List.mem_singleton.mp z]
      refine SqT.of ?_
      rw [upd_ne uN]
      exact upd_same
theorem sz_push {near : Pts} {n : Nat} (h : near.length = n) (l : n ≤ 60) : (refs near).length < sizeLine := by
  rw [refs_len, h]
  exact Nat.lt_of_le_of_lt l (by decide)
theorem cq_cor {p : Hull.P} {u v : Int} (h : Cq p) (h1 : -1 ≤ u ∧ u ≤ 1) (h2 : -1 ≤ v ∧ v ≤ 1) : Cor (p.1 + u, p.2 + v) ∧ Cor (0 - p.1, p.2) ∧ Cor (p.1, 0 - p.2) := by
  unfold Cq at h
  have e : (10 : Int) ^ 30 = 1000000000000000000000000000000 := by decide
  unfold Cor
  rw [e]
  dsimp only
  omega
theorem co_push {near : Pts} {u : Addr} {q : Hull.P} (h : ∀ q ∈ near, Cor q.2) (c : Cor q) : ∀ r ∈ near ++ [(u, q)], Cor r.2 := fun r hr => by
  rcases List.mem_append.mp hr with z | z
  · exact h r z
  · rw [List.mem_singleton.mp z]; exact c
theorem Inv.move {K : PySem.W.Frag} {H0 H : Hp} {p f W : Addr} {xs ys : List Tf} {n : Nat} (i : Inv K H0 H p f xs n) (nW : H W = none) (h : ∀ x ∈ ys, x.At K H ∧ IsF x.b (x.ks.map (·.2)) x.os ∧ x.c ≠ p ∧ x.o ≠ p) :
    Inv K H0 (upd H W (.lst ((xs ++ ys).map fun x => V.ref x.t))) p W (xs ++ ys) n := by
  have s := same_new (o := .lst ((xs ++ ys).map fun x => V.ref x.t)) nW
  have at' : ∀ x ∈ xs ++ ys, x.At K H := fun x hx => by
    rcases List.mem_append.mp hx with z | z
    · exact i.got.at' x z
    · exact (h x z).1
  refine ⟨i.dr.new s, i.dr.free nW, upd_same, i.dr.list_ne nW, fun x hx => FPl.same (at' x hx) s, fun x hx => ?_, fun x hx => ?_, fun x hx => ⟨ne_of_none (at' x hx).cor nW, ne_of_none (at' x hx).sid nW⟩⟩
  · rcases List.mem_append.mp hx with z | z
    · exact i.got.isf x z
    · exact (h x z).2.1
  · rcases List.mem_append.mp hx with z | z
    · exact i.got.cp x z
    · exact (h x z).2.2
/-- the hull of points as a fence -/
theorem hul_isf {b : Int} {ms hs : Pts} {s : List Hull.P} (b1 : 1 ≤ b) (b2 : b ≤ 30) (co : ∀ q ∈ ms, Cor q.2) (l : ms.length ≤ 10) (l1 : 1 ≤ ms.length) (asc : s.Pairwise Hull.Lt) (mem : ∀ x, x ∈ s ↔ x ∈ ms.map (·.2)) (e : hs.map (·.2) = hul s) : IsF b (hs.map (·.2)) [] := by
  rw [e]
  refine IsF.hul (D := ms.map (·.2)) b1 b2 asc ?_ (fun x hx => (mem x).mp hx) (by rw [List.length_map]; exact l) fun x hx => ?_
  · obtain ⟨x, hx⟩ : ∃ x, x ∈ ms := List.exists_mem_of_length_pos (by omega)
    exact List.length_pos_of_mem ((mem x.2).mpr (List.mem_map.mpr ⟨x, hx, rfl⟩))
  · obtain ⟨y, hy, rfl⟩ := List.mem_map.mp hx
    exact co y hy
section
variable {P : Program} {w : World} {K : PySem.W.Frag} {mg : Str → Option Value} {base : Heap}
def spOt (K : PySem.W.Frag) : Sp := fun vs H Q _ => ∃ (p t c o : Addr) (b : Int) (ks : Pts) (os : List Int) (n : Nat), vs = [.ref p, .ref t] ∧ BagAt H p n ∧ n + 200 ≤ 900000 ∧ FPl K H t c o b ks os ∧ IsF b (ks.map (·.2)) os ∧ c ≠ p ∧ o ≠ p ∧ (∀ q ∈ ks, Cq q.2) ∧ ks.length ≤ 9 ∧
  ∀ H' (a : Addr) (xs : List Tf), Drew p H H' (n + 10) → H a = none → H' a = some (.lst (xs.map fun x => V.ref x.t)) → (∀ x ∈ xs, x.At K H') → (∀ x ∈ xs, IsF x.b (x.ks.map (·.2)) x.os) → (∀ x ∈ xs, x.c ≠ p ∧ x.o ≠ p) → xs.length ≤ 30 → Q (.ref a) H'
theorem ok_ot {f fP fH : Addr} {fd fdP fdH : FuncData} {k : Nat} (F : Fun K "_law_others" "_law_others" sOt f fd) (T : Nms mg) (T2 : Nm2 mg)
    (CP : Cal P w K mg base (k + 1) "_law_pick" fP fdP ["_law_bag_here", "_law_many"] spPick) (CH : Cal P w K mg base (k + 1) "_law_hull" fH fdH ["_law_points_here"] (spHul K)) :
    FnOk P w K mg base CX0 (k + 1 + 1) f fd ["_law_bag_here", "_law_low"] (spOt K) := by
  refine F.ok scOt (fun vs H Q E h => ?_) (fun cdv A outer s H vs Q E hr h => ?_)
  · obtain ⟨p, t, c, o, b, ks, os, n, rfl, _⟩ := h
    rfl
  · obtain ⟨p, t, c, o, b, ks, os, n, rfl, hb, hn, fp, isf, cp, op, cq, l9, q⟩ := h
    refine ⟨_, pss_cons (ps_asg (pv 1) (pg_tup rfl (pgs_cons (pg_name (i := 2) scOt.nd rfl (.inl rfl)) (pgs_cons (pg_name (i := 3) scOt.nd rfl (.inl rfl)) (pgs_cons (pg_name (i := 4) scOt.nd rfl (.inr rfl)) pgs_nil)))))
      (pss_cons (ps_set (i := 5) scOt.nd rfl (.inl rfl) (PE.of (tTotE K 3) (pe_ifExp (pt_cmpR op_gt (pe_callB call_len_seq (by rfl) T.mlen PySem.boot_len (pa_cons (pv 3) pa_nil)) pe_int (nomark _)) (pe_callB call_len_seq (by rfl) T.mlen PySem.boot_len (pa_cons (pv 3) pa_nil)) pe_int) ?tt))
      (pss_cons (ps_set (i := 7) scOt.nd rfl (.inl rfl) (pe_lst (pa_cons (pe_tup (pa_cons (pv 2) (pa_cons (pv 3) (pa_cons (pe_lc (own := [("_law_side", 6)]) (g := gName 6) (tt := tTest (tOp (rIn K true) (tVar 6) (tVar 4))) rfl scOt.nd (pi_range1 rfl T2.mrange (pa_cons (pv 5) pa_nil)) (blkOk_by (N := nOt) (sc := defScope sOt) (by decide +kernel)) (fun _ _ _ _ _ => pg_name (i := 6) scOt.nd rfl (Or.inl rfl))
          (fun _ _ _ _ _ => pts_one (pt_cmpR (or_K (r := fun K => rIn K true) op_notIn_seq K rfl) (pv 6) (pv 4) (by rfl))) (fun _ _ _ _ _ => pv 6)) pa_nil))))
          (pa_cons (pe_tup (pa_cons (pv 2) (pa_cons (pv 3) (pa_cons (pe_lst pa_nil) pa_nil)))) pa_nil))))
      (pss_cons (PS.of (TA K H p t c o b ks) (ps_if (pt_cmpR op_gt (pv 5) pe_int (nomark _))
          (pss_cons (ps_set (i := 6) scOt.nd rfl (.inr rfl) (pe_cal CP hr (pa_cons (pv 0) (pa_cons (pv 5) pa_nil))))
          (pss_cons (ps_setLc (i := 8) (own := [("_law_one", 13)]) (g := gName 13) (tt := tTest (tOp rNe (tVar 13) (tVar 6))) rfl scOt.nd rfl rfl (sw_true rfl rfl rfl (by decide +kernel)) (pi_list (pv 4)) (blkOk_by (N := nOt) (sc := defScope sOt) (by decide +kernel)) (fun _ _ _ _ _ => pg_name (i := 13) scOt.nd rfl (Or.inl rfl))
              (fun _ _ _ _ _ => pts_one (pt_cmpR op_ne (pv 13) (pv 6) (nomark _))) (fun _ _ _ _ _ => pv 13))
          (pss_one (ps_expr (pe_bm PySem.F.plainAttrs_list PySem.F.slot_list_append PySem.F.type_list_append mt_append (pv 7) (pa_cons (pe_tup (pa_cons (pv 2) (pa_cons (pv 3) (pa_cons
              (pe_callB cr_sortedI (by rfl) T2.msorted (by decide +kernel) (pa_cons (pe_op op_cat (pv 8) (pe_op op_rep (pe_lst (pa_cons (pv 6) pa_nil)) (pe_callTy call_int1 (by rfl) T.mint (by decide +kernel) (pa_cons (pe_cmpR op_notIn_seq (pv 6) (pv 4) (by rfl)) pa_nil)))) pa_nil)) pa_nil)))) pa_nil))))))
          pss_nil) ?ta)
      (pss_cons (ps_set (i := 9) scOt.nd rfl (.inr rfl) (pe_cal CP hr (pa_cons (pv 0) (pa_cons (pe_callB call_len_seq (by rfl) T.mlen PySem.boot_len (pa_cons (pv 3) pa_nil)) pa_nil))))
      (pss_cons (ps_setLc (i := 10) (own := [("_law_place", 14), ("_law_x", 15), ("_law_y", 16)]) (g := gTup K 2 (gCons (gName 14) (gCons (gTup K 2 (gCons (gName 15) (gCons (gName 16) gNil))) gNil))) (tt := tYes) rfl scOt.nd rfl rfl (sw_true rfl rfl rfl (by decide +kernel))
          (pi_enum (by rfl) T.menum (pa_cons (pv 3) pa_nil)) (blkOk_by (N := nOt) (sc := defScope sOt) (by decide +kernel)) (fun _ _ _ _ _ => pg_tup rfl (pgs_cons (pg_name (i := 14) scOt.nd rfl (Or.inl rfl)) (pgs_cons (pg_tup rfl (pgs_cons (pg_name (i := 15) scOt.nd rfl (Or.inl rfl)) (pgs_cons (pg_name (i := 16) scOt.nd rfl (Or.inl rfl)) pgs_nil))) pgs_nil))) (fun _ _ _ _ _ => pts_nil)
          (fun _ _ _ _ _ => pe_tup (pa_cons (pe_op op_add (pv 15) (pe_callTy call_int1 (by rfl) T.mint (by decide +kernel) (pa_cons (pe_cmpR op_eq (pv 14) (pv 9) (nomark _)) pa_nil))) (pa_cons (pv 16) pa_nil))))
      (pss_cons (PS.of (TB K H p t c o b ks) (ps_if (pt_cmpR (op_eqD (hu_of64 hr)) (pe_cal CH hr (pa_cons (pv 10) pa_nil)) (pv 10) (nomark _)) (pss_one (ps_expr (pe_bm PySem.F.plainAttrs_list PySem.F.slot_list_append PySem.F.type_list_append mt_append (pv 7) (pa_cons (pe_tup (pa_cons (pv 2) (pa_cons (pv 10) (pa_cons (pv 4) pa_nil)))) pa_nil)))) pss_nil) ?tb)
      (pss_cons (ps_setLc (i := 10) (own := [("_law_place", 14), ("_law_x", 15), ("_law_y", 16)]) (g := gTup K 2 (gCons (gName 14) (gCons (gTup K 2 (gCons (gName 15) (gCons (gName 16) gNil))) gNil))) (tt := tYes) rfl scOt.nd rfl rfl (sw_true rfl rfl rfl (by decide +kernel))
          (pi_enum (by rfl) T.menum (pa_cons (pv 3) pa_nil)) (blkOk_by (N := nOt) (sc := defScope sOt) (by decide +kernel)) (fun _ _ _ _ _ => pg_tup rfl (pgs_cons (pg_name (i := 14) scOt.nd rfl (Or.inl rfl)) (pgs_cons (pg_tup rfl (pgs_cons (pg_name (i := 15) scOt.nd rfl (Or.inl rfl)) (pgs_cons (pg_name (i := 16) scOt.nd rfl (Or.inl rfl)) pgs_nil))) pgs_nil))) (fun _ _ _ _ _ => pts_nil)
          (fun _ _ _ _ _ => pe_tup (pa_cons (pv 15) (pa_cons (pe_op op_add (pv 16) (pe_callTy call_int1 (by rfl) T.mint (by decide +kernel) (pa_cons (pe_cmpR op_eq (pv 14) (pv 9) (nomark _)) pa_nil))) pa_nil))))
      (pss_cons (PS.of (TB K H p t c o b ks) (ps_if (pt_cmpR (op_eqD (hu_of64 hr)) (pe_cal CH hr (pa_cons (pv 10) pa_nil)) (pv 10) (nomark _)) (pss_one (ps_expr (pe_bm PySem.F.plainAttrs_list PySem.F.slot_list_append PySem.F.type_list_append mt_append (pv 7) (pa_cons (pe_tup (pa_cons (pv 2) (pa_cons (pv 10) (pa_cons (pv 4) pa_nil)))) pa_nil)))) pss_nil) ?tb)
      (pss_cons (ps_setLc (i := 11) (own := [("_law_x", 15), ("_law_y", 16)]) (g := gTup K 2 (gCons (gName 15) (gCons (gName 16) gNil))) (tt := tYes) rfl scOt.nd rfl rfl (sw_true rfl rfl rfl (by decide +kernel))
          (pi_list (pv 3)) (blkOk_by (N := nOt) (sc := defScope sOt) (by decide +kernel)) (fun _ _ _ _ _ => pg_tup rfl (pgs_cons (pg_name (i := 15) scOt.nd rfl (Or.inl rfl)) (pgs_cons (pg_name (i := 16) scOt.nd rfl (Or.inl rfl)) pgs_nil))) (fun _ _ _ _ _ => pts_nil)
          (fun _ _ _ _ _ => pe_tup (pa_cons (pv 15) (pa_cons (pe_op op_sub pe_int (pv 16)) pa_nil))))
      (pss_cons (ps_set (i := 7) scOt.nd rfl (.inl rfl) (pe_op op_cat (pv 7) (pe_lst (pa_cons (pe_tup (pa_cons (pv 2) (pa_cons (pe_cal CH hr (pa_cons (pv 11) pa_nil)) (pa_cons (pe_lst pa_nil) pa_nil))))
          (pa_cons (pe_tup (pa_cons (pv 2) (pa_cons (pe_cal CH hr (pa_cons (pe_lc (own := [("_law_x", 15), ("_law_y", 16)]) (g := gTup K 2 (gCons (gName 15) (gCons (gName 16) gNil))) (tt := tYes) rfl scOt.nd
              (pi_list (pv 3)) (blkOk_by (N := nOt) (sc := defScope sOt) (by decide +kernel)) (fun _ _ _ _ _ => pg_tup rfl (pgs_cons (pg_name (i := 15) scOt.nd rfl (Or.inl rfl)) (pgs_cons (pg_name (i := 16) scOt.nd rfl (Or.inl rfl)) pgs_nil))) (fun _ _ _ _ _ => pts_nil)
              (fun _ _ _ _ _ => pe_tup (pa_cons (pe_op op_sub pe_int (pv 15)) (pa_cons (pv 16) pa_nil)))) pa_nil)) (pa_cons (pe_lst pa_nil) pa_nil)))) pa_nil)))))
      (pss_cons (ps_set (i := 12) scOt.nd rfl (.inl rfl) (pe_cal CH hr (pa_cons (pe_op op_cat (pe_slice sl_list (pv 3) po_none (po_some (pv 9))) (pe_slice sl_list (pv 3) (po_some (pe_op op_add (pv 9) pe_int)) po_none)) pa_nil)))
      (pss_cons (PS.of (TC K H p t c o b ks) (ps_if (pt_cmpR (op_neD (hu_of64 hr)) (pv 12) (pe_lst pa_nil) (nomark _)) (pss_one (ps_expr (pe_bm PySem.F.plainAttrs_list PySem.F.slot_list_append PySem.F.type_list_append mt_append (pv 7) (pa_cons (pe_tup (pa_cons (pv 2) (pa_cons (pv 12) (pa_cons (pe_lst pa_nil) pa_nil)))) pa_nil)))) pss_nil) ?tc)
      (pss_one (ps_ret (pe_op op_cat (pv 7) (pe_lst (pa_cons (pe_tup (pa_cons (pe_op op_add pe_int (pe_op op_mod (pe_callTy call_int1 (by rfl) T.mint (by decide +kernel) (pa_cons (pv 2) pa_nil)) pe_int)) (pa_cons (pv 3) (pa_cons (pv 4) pa_nil))))
          (pa_cons (pe_tup (pa_cons (pv 2) (pa_cons (pe_lst (pa_cons (pe_ix ix_list (pv 3) pe_int (fun _ _ => rfl)) pa_nil)) (pa_cons (pe_lst pa_nil) pa_nil)))) (pa_cons (pv 1) pa_nil))))))))))))))))))), ?_⟩
    case tt =>
      rintro σ H Q ⟨c, hs, ec, hS, l1, q⟩
      refine ⟨.ref c, ec, c, _, rfl, .inl hS, _, _, rfl, rfl, _, rfl, ite2 (fun d => ?_) (fun d => ?_)⟩
      · refine ⟨.ref c, ec, c, _, rfl, .inl hS, ?_⟩
        rw [refs_len] at d ⊢
        have d1 : 1 < (hs.length : Int) := of_decide_eq_true d
        unfold tot at q
        rw [List.length_map, if_neg (by omega)] at q
        exact q
      · rw [refs_len] at d
        have d1 : ¬ 1 < (hs.length : Int) := fun z => d (decide_eq_true z)
        unfold tot at q
        rw [List.length_map, if_pos (by omega)] at q
        exact q
    case tb =>
      rintro D σ H1 ⟨f, xs, n1, s6, s8, s9, na, near, s11, s12, rfl, iv, lx, hna, Tn, ln, co, nap, naf, k⟩
      have hn1 := isf.l1
      rw [List.length_map] at hn1
      refine ⟨.ref na, rfl, na, near, rfl, SqL.of hna, Tn, fun x hx => (co x hx).sm, by omega, fun H2 w hs s s2 nw hw sub asc mem e => ?_⟩
      have dp1 : Dp K H2 (.ref w) (ptsD (hs.map (·.2))) := dp_pts (SqL.of hw) ((Tn.same s2).sub sub)
      have dp2 : Dp K H2 (.ref na) (ptsD (near.map (·.2))) := dp_pts (SqL.of (s2 _ _ hna)) (Tn.same s2)
      refine ⟨.ref na, rfl, _, _, dp1, dp2, shaped_pts _, shaped_pts _, _, rfl, ite2 (fun d => ?_) (fun d => ?_)⟩
      · have eq := eqv_pts_eq d
        have iv2 := iv.new s2
        have low := iv2.low fp hb cp op
        refine ⟨.ref f, rfl, .inl ⟨rfl, _, SqL.of iv2.got.hf⟩, .int b, rfl, .ref na, rfl, .ref o, rfl, by show 3 ≤ sizeLine; decide, fun t2 nt2 => ?_⟩
        have s3 := same_new (o := .tup [.int b, .ref na, .ref o]) nt2
        have iv3 := iv2.new s3
        refine ⟨f, _, .ref t2, rfl, rfl, iv3.got.hf, by rw [List.length_map]; exact Nat.lt_of_le_of_lt lx (by decide), ?_⟩
        have ls : 1 ≤ s.length := by
          obtain ⟨x, hx⟩ : ∃ x, x ∈ near := List.exists_mem_of_length_pos (by omega)
          exact List.length_pos_of_mem ((mem x.2).mpr (List.mem_map.mpr ⟨x, hx, rfl⟩))
        obtain ⟨shp, lh1, hsub⟩ := shape_hul asc ls
        rw [← e, eq] at shp
        have et : tot (near.map (·.2)) = tot (ks.map (·.2)) := by
          unfold tot
          rw [List.length_map, List.length_map, ln]
        refine k _ _ (iv3.add (x := ⟨t2, na, o, b, near, os⟩) ⟨upd_same, s3 _ _ (s2 _ _ hna), (Tn.same s2).same s3, s3 _ _ low.sid⟩ ⟨isf.b1, isf.b2, (show 1 ≤ (near.map (·.2)).length by rw [List.length_map]; omega), (show (near.map (·.2)).length ≤ 10 by rw [List.length_map]; omega), fun x hx => ?_, shp, isf.up, by rw [et]; exact isf.inn⟩ ⟨nap, op⟩ ⟨naf, ne_of_none fp.sid iv.nf⟩) (by rw [List.length_append]; exact Nat.le_refl _)
        obtain ⟨y, hy, rfl⟩ := List.mem_map.mp hx
        exact co y hy
      · exact k _ _ (iv.new s2) (Nat.le_succ _)
    case tc =>
      rintro D σ H1 ⟨f, xs, n1, s6, s8, s9, s10, s11, sa, sm, rfl, iv, lx, hsa, Ts, hi, sap, saf, k⟩
      refine ⟨.ref sa, rfl, by show 0 ≤ sizeLine; decide, fun l1 nl1 => ?_⟩
      have s2 := same_new (o := .lst []) nl1
      have dp1 : Dp K (upd H1 l1 (.lst [])) (.ref sa) (ptsD (sm.map (·.2))) := dp_pts (SqL.of (s2 _ _ hsa)) (Ts.same s2)
      refine ⟨_, .list [], dp1, .lst (SqL.of upd_same) .nil, shaped_pts _, shaped_pts [], _, rfl, ?_⟩
      rw [eqv_nil]
      refine ite2 (fun d => ?_) (fun d => ?_)
      · have ne : sm ≠ [] := by
          rintro rfl
          simp at d
        have iv2 := iv.new s2
        refine ⟨.ref f, rfl, .inl ⟨rfl, _, SqL.of iv2.got.hf⟩, .int b, rfl, .ref sa, rfl, by show 0 ≤ sizeLine; decide, fun o2 no2 => ⟨by show 3 ≤ sizeLine; decide, fun t2 nt2 => ?_⟩⟩
        have s3 := (same_new (o := .lst []) no2).trans (same_new (o := .tup [.int b, .ref sa, .ref o2]) nt2)
        have iv3 := iv2.new s3
        refine ⟨f, _, .ref t2, rfl, rfl, iv3.got.hf, by rw [List.length_map]; exact Nat.lt_of_le_of_lt lx (by decide), ?_⟩
        exact k _ _ (iv3.add (x := ⟨t2, sa, o2, b, sm, []⟩) ⟨upd_same, s3 _ _ (s2 _ _ hsa), (Ts.same s2).same s3, (same_new nt2) _ _ upd_same⟩ (hi ne) ⟨sap, iv2.dr.list_ne no2⟩ ⟨saf, iv2.nef no2⟩) (by rw [List.length_append]; exact Nat.le_refl _)
      · exact k _ _ (iv.new s2) (Nat.le_succ _)
    case ta =>
      rintro D σ H1 ⟨f, xs, n1, rfl, iv, ln1, lx, k⟩
      have t10 := isf.t10
      refine ⟨_, rfl, _, _, rfl, rfl, _, rfl, ite2 (fun d => ?_) (fun d => ?_)⟩
      · have d1 : 0 < ((tot (ks.map (·.2)) : Nat) : Int) := of_decide_eq_true d
        refine ⟨_, rfl, _, rfl, p, ((tot (ks.map (·.2)) : Nat) : Int), n1, rfl, d1, Int.lt_of_le_of_lt (show ((tot (ks.map (·.2)) : Nat) : Int) ≤ 10 by omega) (by decide), iv.dr.bag, by omega, fun r H2 a0 a1 d2 o2 => ?_⟩
        have iv2 := iv.drew d2
        have low2 := iv2.low fp hb cp op
        refine ⟨.ref o, rfl, o, rfl, ⟨_, SqL.of low2.sid⟩, fun W nW => ?_⟩
        refine lc_list (K := K) (a := o) (xs := os.map V.int) (fun j H' => Same H2 H' ∧ H' W = some (.lst (((os.take j).filter (fun x => decide (x ≠ r))).map V.int))) ⟨same_new nW, upd_same⟩ (fun j H' _ z => SqL.of (z.1 _ _ low2.sid)) (fun j v H3 hv z => ?_) fun H3 z => ?_
        · obtain ⟨x, hx, rfl⟩ : ∃ x, os[j]? = some x ∧ v = V.int x := by
            rw [List.getElem?_map] at hv
            obtain ⟨x, h1, h2⟩ := Option.map_eq_some_iff.mp hv
            exact ⟨x, h1, h2.symm⟩
          have lo := isf.few
          refine ⟨rfl, _, rfl, _, rfl, rfl, _, rfl, ite2 (fun e => ?_) (fun e => ?_)⟩
          · have e1 : x ≠ r := by simpa using e
            refine ⟨_, rfl, _, z.2, ?_, fun b' o' e' => ?_, ?_⟩
            · rw [List.length_map]
              have h1 := List.length_filter_le (fun x : Int => decide (x ≠ r)) (os.take j)
              have h2 : (os.take j).length ≤ os.length := by rw [List.length_take]; omega
              exact Nat.lt_of_lt_of_le (show _ < 11 by omega) (by decide)
            · have nb : b' ≠ W := fun y => by rw [y, nW] at e'; cases e'
              rw [upd_ne nb]
              exact z.1 b' o' e'
            · rw [upd_same, take_succ_at hx, List.filter_append, List.map_append]
              simp [e1]
          · have e1 : x = r := by simpa using e
            refine ⟨z.1, ?_⟩
            rw [z.2, take_succ_at hx, List.filter_append]
            simp [e1]
        · obtain ⟨s3, hW⟩ := z
          rw [List.length_map, List.take_length] at hW
          have iv3 := iv2.new s3
          have low3 := low2.same s3
          refine ⟨.ref f, rfl, .inl ⟨rfl, _, SqL.of iv3.got.hf⟩, .int b, rfl, .ref c, rfl, ?_⟩
          refine ⟨.ref W, rfl, .int r, rfl, by show 1 ≤ sizeLine; decide, fun l1 nl1 => ?_⟩
          have s4 := same_new (o := .lst [.int r]) nl1
          refine ⟨.int r, rfl, .ref o, rfl, o, os.map V.int, rfl, .inl (SqL.of (s4 _ _ low3.sid)), rfl, by simp [flatV], .inr ⟨_, rfl, ?_⟩⟩
          have ei : inV (.int r) (os.map V.int) = os.contains r := by
            unfold inV
            rw [List.any_map, List.contains_eq_any_beq]
            congr 1
            funext x
            show (x == r) = (r == x)
            exact Bool.beq_comm
          rw [ei]
          obtain ⟨bb, hbb⟩ : ∃ bb, bb = (if true = true then !os.contains r else os.contains r) := ⟨_, rfl⟩
          rw [← hbb]
          have lo := isf.few
          have lf := List.length_filter_le (fun x : Int => decide (x ≠ r)) os
          refine ⟨l1, (if bb = true then 1 else 0), [.int r], rfl, rfl, upd_same, ?_, ?_, ?_, fun l3 nl3 => ?_⟩
          · split <;> decide
          · split <;> decide
          · split <;> (show 1 * _ ≤ sizeLine; decide)
          have s5 := s4.trans (same_new (o := .lst (List.replicate (if bb = true then (1 : Int) else 0).toNat [V.int r]).flatten) nl3)
          have ez : (List.replicate (if bb = true then (1 : Int) else 0).toNat [V.int r]).flatten = ((List.replicate (if bb = true then (1 : Int) else 0).toNat [r]).flatten).map V.int := by cases bb <;> rfl
          have lz : (List.replicate (if bb = true then (1 : Int) else 0).toNat [r]).flatten.length ≤ 1 := by cases bb <;> simp
          refine ⟨W, l3, _, _, rfl, rfl, s5 _ _ hW, upd_same, ?_, fun c0 nc0 => ?_⟩
          · rw [ez, List.length_map, List.length_map]
            exact Nat.le_trans (show _ ≤ 20 by omega) (by decide)
          have s6 := s5.trans (same_new (o := .lst ((os.filter (fun x => decide (x ≠ r))).map V.int ++ (List.replicate (if bb = true then (1 : Int) else 0).toNat [V.int r]).flatten)) nc0)
          refine ⟨c0, os.filter (fun x => decide (x ≠ r)) ++ (List.replicate (if bb = true then (1 : Int) else 0).toNat [r]).flatten, rfl, SqL.of (by rw [upd_same, List.map_append, ez]), fun ns' o2 pm pw no2 => ?_⟩
          have s7 := s6.trans (same_new (o := .lst (ns'.map V.int)) no2)
          refine ⟨by show 3 ≤ sizeLine; decide, fun t2 nt2 => ?_⟩
          have s8 := s7.trans (same_new (o := .tup [.int b, .ref c, .ref o2]) nt2)
          have iv4 := iv3.new s8
          have low4 := low3.same s8
          obtain ⟨u1, u2⟩ := toggle_ok isf.up isf.inn a0 a1 (by rw [hbb] at pm; exact pm) pw
          refine ⟨f, _, .ref t2, rfl, rfl, iv4.got.hf, by rw [List.length_map]; exact Nat.lt_of_le_of_lt lx (by decide), ?_⟩
          exact k _ _ _ _ (iv4.add (x := ⟨t2, c, o2, b, ks, ns'⟩) ⟨upd_same, low4.cor, low4.pts, (same_new nt2) _ _ upd_same⟩ (isf.with u1 u2) ⟨cp, (iv3.new s6).dr.list_ne no2⟩ ⟨ne_of_none fp.cor iv.nf, (iv3.new s6).nef no2⟩) (by rw [List.length_append]; exact Nat.le_refl _)
      · exact k _ _ _ _ (iv.more (Nat.le_succ _)) (Nat.le_succ _)
    have fa := fp.fat
    have l1 := isf.l1
    rw [List.length_map] at l1
    have t10 := isf.t10
    refine ⟨.ref t, rfl, t, _, rfl, fa.tup, rfl, .int b, [.ref c, .ref o], rfl, .ref c, [.ref o], rfl, .ref o, [], rfl, rfl, ?_⟩
    refine ⟨c, ks, rfl, fa.cor, l1, ?_⟩
    refine ⟨.int b, rfl, .ref c, rfl, _, rfl, _, rfl, by omega, by omega, fun D nD => ?_⟩
    refine lc_range (lo := 0) (n := ((tot (ks.map (·.2)) : Nat) : Int).toNat) (fun j H' => Same H H' ∧ H' D = some (.lst ((otherS j os).map V.int))) ⟨same_new nD, upd_same⟩ ?_ ?_
    · rintro j H' hj ⟨sz, hD⟩
      have hj2 : j < 10 := by omega
      have st : otherS (j + 1) os = otherS j os ++ (if os.contains (j : Int) then [] else [(j : Int)]) := by
        unfold otherS Fen.rI
        rw [List.range_succ, List.map_append, List.filter_append]
        congr 1
        rw [show List.map (fun (i : Nat) => (i : Int)) [j] = [(j : Int)] from rfl, List.filter_cons, List.filter_nil]
        cases os.contains (j : Int) <;> rfl
      refine ⟨rfl, _, rfl, _, rfl, o, os.map V.int, rfl, .inl (sz.seq fa.sid), rfl, by simp [flatV], _, rfl, ?_⟩
      have ei : inV (.int (0 + (j : Int))) (os.map V.int) = os.contains (j : Int) := by
        unfold inV
        rw [List.any_map, Int.zero_add, List.contains_eq_any_beq]
        congr 1
        funext x
        show (x == (j : Int)) = ((j : Int) == x)
        exact Bool.beq_comm
      rw [ei]
      cases hc : os.contains (j : Int) with
      | true =>
        refine iteF ⟨sz, ?_⟩
        rw [hD, st, hc]
        simp
      | false =>
        refine iteT ⟨_, rfl, _, hD, ?_, fun p q e => ?_, ?_⟩
        · rw [List.length_map]
          have : (otherS j os).length ≤ j := by
            unfold otherS Fen.rI
            refine Nat.le_trans (List.length_filter_le _ _) ?_
            rw [List.length_map, List.length_range]
            exact Nat.le_refl _
          exact Nat.lt_of_lt_of_le (show _ < 11 by omega) (by decide)
        · have nb : p ≠ D := fun y => by rw [y, nD] at e; cases e
          rw [upd_ne nb]
          exact sz p q e
        · rw [upd_same, st, hc, List.map_append, Int.zero_add]
          rfl
    rintro HD ⟨sz, hD⟩
    rw [show ((tot (ks.map (·.2)) : Nat) : Int).toNat = tot (ks.map (·.2)) from Int.toNat_natCast _] at hD
    refine ⟨by show 3 ≤ sizeLine; decide, fun d3 nd3 => ?_⟩
    have sA := sz.trans (same_new (o := .tup [.int b, .ref c, .ref D]) nd3)
    have hd3 : (upd HD d3 (.tup [.int b, .ref c, .ref D])) d3 = some (.tup [.int b, .ref c, .ref D]) := upd_same
    have hD2 := (same_new (o := .tup [.int b, .ref c, .ref D]) nd3) _ _ hD
    generalize upd HD d3 (.tup [.int b, .ref c, .ref D]) = HE at sA hd3 hD2 ⊢
    refine ⟨.int b, rfl, .ref c, rfl, by show 0 ≤ sizeLine; decide, fun e1 ne1 => ⟨by show 3 ≤ sizeLine; decide, fun d1 nd1 => ⟨by show 2 ≤ sizeLine; decide, fun W nW => ?_⟩⟩⟩
    have sB := (same_new (o := .lst []) ne1).trans (same_new (o := .tup [.int b, .ref c, .ref e1]) nd1)
    have sC := sA.trans sB
    have sD := sC.trans (same_new (o := .lst [.ref d3, .ref d1]) nW)
    have nW0 : H W = none := sC.free nW
    have pos : ∀ {a : Addr} {H' : Hp}, Same H H' → H' a = none → a ≠ p := fun {a H'} s z => hb.ne (s.free z)
    have dW := Drew.of hb sD
    have gW : Got K (upd (upd (upd HE e1 (.lst [])) d1 (.tup [.int b, .ref c, .ref e1])) W (.lst [.ref d3, .ref d1])) p W [⟨d3, c, D, b, ks, otherS (tot (ks.map (·.2))) os⟩, ⟨d1, c, e1, b, ks, []⟩] := by
      have sE := same_new (o := .lst [.ref d3, .ref d1]) nW
      refine ⟨upd_same, pos sC nW, fun x hx => ?_, fun x hx => ?_, fun x hx => ?_, fun x hx => ?_⟩
      all_goals rcases List.mem_cons.mp hx with rfl | hx
      · exact ⟨sE _ _ (sB _ _ hd3), sD _ _ fp.cor, fp.pts.same sD, sE _ _ (sB _ _ hD2)⟩
      · rcases List.mem_cons.mp hx with rfl | hx
        · exact ⟨sE _ _ upd_same, sD _ _ fp.cor, fp.pts.same sD, sE _ _ ((same_new nd1) _ _ upd_same)⟩
        · exact nomatch hx
      · exact isf.oth
      · rcases List.mem_cons.mp hx with rfl | hx
        · exact isf.non
        · exact nomatch hx
      · exact ⟨cp, pos (Same.refl _) nD⟩
      · rcases List.mem_cons.mp hx with rfl | hx
        · exact ⟨cp, pos sA ne1⟩
        · exact nomatch hx
      · exact ⟨ne_of_none (sC _ _ fp.cor) nW, ne_of_none (sB _ _ hD2) nW⟩
      · rcases List.mem_cons.mp hx with rfl | hx
        · exact ⟨ne_of_none (sC _ _ fp.cor) nW, ne_of_none ((same_new nd1) _ _ upd_same) nW⟩
        · exact nomatch hx
    generalize upd (upd (upd HE e1 (.lst [])) d1 (.tup [.int b, .ref c, .ref e1])) W (.lst [.ref d3, .ref d1]) = H1 at gW dW ⊢
    refine ⟨W, _, n, rfl, ⟨dW, nW0, gW⟩, by omega, (show 2 ≤ 20 by decide), fun H2 s6 s8 xs iv lx => ?_⟩
    have lx : xs.length ≤ 3 := lx
    have low2 := iv.low fp hb cp op
    refine ⟨_, rfl, .ref c, rfl, c, _, rfl, .inl (SqL.of low2.cor), p, ((refs ks).length : Int), _, rfl, by rw [refs_len]; omega, Int.lt_of_le_of_lt (show ((refs ks).length : Int) ≤ 9 by rw [refs_len]; omega) (by decide), iv.dr.bag, by omega, fun at' H3 a0 a1 d3' _ => ?_⟩
    have iv3 := iv.drew d3'
    have low3 := iv3.low fp hb cp op
    rw [refs_len] at a1

    refine ⟨.ref c, rfl, c, _, rfl, SqL.of low3.cor, fun N1 nN1 => ?_⟩
    refine lc_it (walk_enum (K := K) (a := c) (xs := refs ks)) (fun j H' => ∃ near : Pts, Same H3 H' ∧ H' N1 = some (.lst (refs near)) ∧ At K H' near ∧ near.length = j ∧ ∀ q ∈ near, Cor q.2) ⟨[], same_new nN1, upd_same, fun q hq => (nomatch hq), rfl, fun q hq => (nomatch hq)⟩ (fun j H' _ z => ?_) ?_ ?_
    · obtain ⟨_, z, _⟩ := z
      exact SqL.of (z _ _ low3.cor)
    · rintro j v H7 H8 hj ⟨near, s7, hN, T7, l7, c7⟩ ⟨U, x1, x2, rfl, nU, rfl, e1, e2⟩
      have ex1 : x1 = .int (j : Nat) := (Option.some.inj e1).symm
      subst ex1
      obtain ⟨x, hx, rfl⟩ := refs_get e2
      have mx := List.mem_of_getElem? hx
      have jl : j < ks.length := (List.getElem?_eq_some_iff.mp hx).1
      have s8 := same_new (o := .tup [.int (j : Nat), .ref x.1]) nU
      refine ⟨U, _, rfl, SqT.of upd_same, rfl, .int (j : Nat), [.ref x.1], rfl, .ref x.1, [], rfl, x.1, _, rfl, ((low3.pts.same s7).same s8) x mx, rfl, .int x.2.1, [.int x.2.2], rfl, .int x.2.2, [], rfl, rfl, rfl, rfl, yesT ?_⟩
      refine ⟨_, rfl, _, rfl, _, rfl, rfl, .inr ⟨_, rfl, _, _, rfl, rfl, _, rfl, by show 2 ≤ sizeLine; decide, fun u nu => ?_⟩⟩
      have q1 : -1 ≤ (if decide (V.int (j : Nat) = V.int at') = true then (1 : Int) else 0) ∧ (if decide (V.int (j : Nat) = V.int at') = true then (1 : Int) else 0) ≤ 1 := by split <;> decide
      obtain ⟨z1, z2, z3, z4⟩ := pts_push (q := (x.2.1 + (if decide (V.int (j : Nat) = V.int at') = true then (1 : Int) else 0), x.2.2)) (s7.trans s8) nN1 (s8 _ _ hN) (T7.same s8) nu
      refine ⟨refs near, z1, sz_push l7 (by omega), near ++ [(u, (x.2.1 + (if decide (V.int (j : Nat) = V.int at') = true then (1 : Int) else 0), x.2.2))], z2, z3, z4, by rw [List.length_append, l7]; rfl, co_push c7 (by have z := (cq_cor (cq x mx) q1 (v := 0) ⟨by decide, by decide⟩).1; rw [Int.add_zero] at z; exact z)⟩

    rintro H4 ⟨near, s4, hN, T4, l4, c4⟩
    rw [refs_len] at l4
    have iv4 := iv3.new s4
    refine ⟨W, xs, _, s6, s8, _, N1, near, none, none, rfl, iv4, by omega, hN, T4, l4, c4, iv3.dr.list_ne nN1, iv3.nef nN1, fun H5 xs5 iv5 lx5 => ?_⟩
    have low5 := iv5.low fp hb cp op
    refine ⟨.ref c, rfl, c, _, rfl, SqL.of low5.cor, fun N2 nN2 => ?_⟩
    refine lc_it (walk_enum (K := K) (a := c) (xs := refs ks)) (fun j H' => ∃ near : Pts, Same H5 H' ∧ H' N2 = some (.lst (refs near)) ∧ At K H' near ∧ near.length = j ∧ ∀ q ∈ near, Cor q.2) ⟨[], same_new nN2, upd_same, fun q hq => (nomatch hq), rfl, fun q hq => (nomatch hq)⟩ (fun j H' _ z => ?_) ?_ ?_
    · obtain ⟨_, z, _⟩ := z
      exact SqL.of (z _ _ low5.cor)
    · rintro j v H7 H8 hj ⟨near, s7, hN, T7, l7, c7⟩ ⟨U, x1, x2, rfl, nU, rfl, e1, e2⟩
      have ex1 : x1 = .int (j : Nat) := (Option.some.inj e1).symm
      subst ex1
      obtain ⟨x, hx, rfl⟩ := refs_get e2
      have mx := List.mem_of_getElem? hx
      have jl : j < ks.length := (List.getElem?_eq_some_iff.mp hx).1
      have s8 := same_new (o := .tup [.int (j : Nat), .ref x.1]) nU
      refine ⟨U, _, rfl, SqT.of upd_same, rfl, .int (j : Nat), [.ref x.1], rfl, .ref x.1, [], rfl, x.1, _, rfl, ((low5.pts.same s7).same s8) x mx, rfl, .int x.2.1, [.int x.2.2], rfl, .int x.2.2, [], rfl, rfl, rfl, rfl, yesT ?_⟩
      refine ⟨_, rfl, _, rfl, _, rfl, _, rfl, rfl, .inr ⟨_, rfl, _, _, rfl, rfl, by show 2 ≤ sizeLine; decide, fun u nu => ?_⟩⟩
      have q1 : -1 ≤ (if decide (V.int (j : Nat) = V.int at') = true then (1 : Int) else 0) ∧ (if decide (V.int (j : Nat) = V.int at') = true then (1 : Int) else 0) ≤ 1 := by split <;> decide
      obtain ⟨z1, z2, z3, z4⟩ := pts_push (q := (x.2.1, x.2.2 + (if decide (V.int (j : Nat) = V.int at') = true then (1 : Int) else 0))) (s7.trans s8) nN2 (s8 _ _ hN) (T7.same s8) nu
      refine ⟨refs near, z1, sz_push l7 (by omega), near ++ [(u, (x.2.1, x.2.2 + (if decide (V.int (j : Nat) = V.int at') = true then (1 : Int) else 0)))], z2, z3, z4, by rw [List.length_append, l7]; rfl, co_push c7 (by have z := (cq_cor (cq x mx) (u := 0) ⟨by decide, by decide⟩ q1).1; rw [Int.add_zero] at z; exact z)⟩

    rintro H6 ⟨near, s6', hN, T6, l6, c6⟩
    rw [refs_len] at l6
    have iv6 := iv5.new s6'
    refine ⟨W, xs5, _, s6, s8, _, N2, near, none, none, rfl, iv6, by omega, hN, T6, l6, c6, iv5.dr.list_ne nN2, iv5.nef nN2, fun H7 xs7 iv7 lx7 => ?_⟩
    have low7 := iv7.low fp hb cp op
    refine ⟨.ref c, rfl, c, rfl, ⟨_, SqL.of low7.cor⟩, fun M nM => ?_⟩
    refine lc_list (K := K) (a := c) (xs := refs ks) (fun j H' => ∃ near : Pts, Same H7 H' ∧ H' M = some (.lst (refs near)) ∧ At K H' near ∧ near.length = j ∧ ∀ q ∈ near, Cor q.2) ⟨[], same_new nM, upd_same, fun q hq => (nomatch hq), rfl, fun q hq => (nomatch hq)⟩ (fun j H' _ z => ?_) (fun j v H8 hv z => ?_) fun H8 z => ?_
    · obtain ⟨_, z, _⟩ := z
      exact SqL.of (z _ _ low7.cor)
    · obtain ⟨x, hx, rfl⟩ := refs_get hv
      obtain ⟨near, s7, hN, T7, l7, c7⟩ := z
      have mx := List.mem_of_getElem? hx
      have jl : j < ks.length := (List.getElem?_eq_some_iff.mp hx).1
      refine ⟨x.1, _, rfl, (low7.pts.same s7) x mx, rfl, .int x.2.1, [.int x.2.2], rfl, .int x.2.2, [], rfl, rfl, rfl, yesT ?_⟩
      refine ⟨_, rfl, _, rfl, _, _, rfl, rfl, by show 2 ≤ sizeLine; decide, fun u nu => ?_⟩
      obtain ⟨z1, z2, z3, z4⟩ := pts_push (q := (x.2.1, 0 - x.2.2)) s7 nM hN T7 nu
      exact ⟨refs near, z1, sz_push l7 (by omega), near ++ [(u, (x.2.1, 0 - x.2.2))], z2, z3, z4, by rw [List.length_append, l7]; rfl, co_push c7 (cq_cor (u := 0) (v := 0) (cq x mx) ⟨by decide, by decide⟩ ⟨by decide, by decide⟩).2.2⟩
    obtain ⟨m1, s8, hM, T8, l8, c8⟩ := z
    rw [refs_len] at l8
    have iv8 := iv7.new s8
    refine ⟨.ref W, rfl, .int b, rfl, .ref M, rfl, M, m1, rfl, SqL.of hM, T8, fun x hx => (c8 x hx).sm, by omega, fun H9 w1 h1 ss1 s9 nw1 hw1 sub1 asc1 mem1 e1 => ?_⟩
    have iv9 := iv8.new s9
    refine ⟨by show 0 ≤ sizeLine; decide, fun o1 no1 => ⟨by show 3 ≤ sizeLine; decide, fun t1 nt1 => ?_⟩⟩
    have sA := (same_new (o := .lst []) no1).trans (same_new (o := .tup [.int b, .ref w1, .ref o1]) nt1)
    have ivA := iv9.new sA
    have f1 : Tf.At K _ ⟨t1, w1, o1, b, h1, []⟩ := ⟨upd_same, sA _ _ hw1, (((T8.same s9).sub sub1).same sA), (same_new nt1) _ _ upd_same⟩
    have i1 : IsF b (h1.map (·.2)) [] := hul_isf isf.b1 isf.b2 c8 (by omega) (by omega) asc1 mem1 e1
    have w1p := iv8.dr.list_ne nw1
    have o1p := iv9.dr.list_ne no1
    clear mem1 sub1
    generalize upd (upd H9 o1 (.lst [])) t1 (.tup [.int b, .ref w1, .ref o1]) = HA at sA ivA f1 ⊢
    have lowA := ivA.low fp hb cp op
    refine ⟨.int b, rfl, .ref c, rfl, c, rfl, ⟨_, SqL.of lowA.cor⟩, fun M2 nM2 => ?_⟩
    refine lc_list (K := K) (a := c) (xs := refs ks) (fun j H' => ∃ near : Pts, Same HA H' ∧ H' M2 = some (.lst (refs near)) ∧ At K H' near ∧ near.length = j ∧ ∀ q ∈ near, Cor q.2) ⟨[], same_new nM2, upd_same, fun q hq => (nomatch hq), rfl, fun q hq => (nomatch hq)⟩ (fun j H' _ z => ?_) (fun j v H8 hv z => ?_) fun HB z => ?_
    · obtain ⟨_, z, _⟩ := z
      exact SqL.of (z _ _ lowA.cor)
    · obtain ⟨x, hx, rfl⟩ := refs_get hv
      obtain ⟨near, s7, hN, T7, l7, c7⟩ := z
      have mx := List.mem_of_getElem? hx
      have jl : j < ks.length := (List.getElem?_eq_some_iff.mp hx).1
      refine ⟨x.1, _, rfl, (lowA.pts.same s7) x mx, rfl, .int x.2.1, [.int x.2.2], rfl, .int x.2.2, [], rfl, rfl, rfl, yesT ?_⟩
      refine ⟨_, rfl, _, _, rfl, rfl, _, rfl, by show 2 ≤ sizeLine; decide, fun u nu => ?_⟩
      obtain ⟨z1, z2, z3, z4⟩ := pts_push (q := (0 - x.2.1, x.2.2)) s7 nM2 hN T7 nu
      exact ⟨refs near, z1, sz_push l7 (by omega), near ++ [(u, (0 - x.2.1, x.2.2))], z2, z3, z4, by rw [List.length_append, l7]; rfl, co_push c7 (cq_cor (u := 0) (v := 0) (cq x mx) ⟨by decide, by decide⟩ ⟨by decide, by decide⟩).2.1⟩
    obtain ⟨m2, sB, hM2, TB2, lB, cB⟩ := z
    rw [refs_len] at lB
    have ivB := ivA.new sB
    refine ⟨M2, m2, rfl, SqL.of hM2, TB2, fun x hx => (cB x hx).sm, by omega, fun HC w2 h2 ss2 sC' nw2 hw2 sub2 asc2 mem2 e2 => ?_⟩
    have ivC := ivB.new sC'
    refine ⟨by show 0 ≤ sizeLine; decide, fun o2 no2 => ⟨by show 3 ≤ sizeLine; decide, fun t2 nt2 => ⟨by show 2 ≤ sizeLine; decide, fun L nL => ?_⟩⟩⟩
    have sD' := (same_new (o := .lst []) no2).trans (same_new (o := .tup [.int b, .ref w2, .ref o2]) nt2)
    have sE := same_new (o := .lst [.ref t1, .ref t2]) nL
    have f2 : Tf.At K _ ⟨t2, w2, o2, b, h2, []⟩ := FPl.same ⟨upd_same, sD' _ _ hw2, (((TB2.same sC').sub sub2).same sD'), (same_new nt2) _ _ upd_same⟩ sE
    have i2 : IsF b (h2.map (·.2)) [] := hul_isf isf.b1 isf.b2 cB (by omega) (by omega) asc2 mem2 e2
    have ivE := ivC.new (sD'.trans sE)
    have f1' : Tf.At K _ ⟨t1, w1, o1, b, h1, []⟩ := FPl.same f1 ((sB.trans sC').trans (sD'.trans sE))
    refine ⟨W, L, _, _, rfl, rfl, ivE.got.hf, upd_same, by rw [List.length_map]; exact Nat.le_trans (show xs7.length + 2 ≤ 20 by omega) (by decide), fun W2 nW2 => ?_⟩
    have ivF := ivE.move (ys := [⟨t1, w1, o1, b, h1, []⟩, ⟨t2, w2, o2, b, h2, []⟩]) nW2 fun x hx => by
      rcases List.mem_cons.mp hx with rfl | hx
      · exact ⟨f1', i1, w1p, o1p⟩
      rcases List.mem_cons.mp hx with rfl | hx
      · exact ⟨f2, i2, ivB.dr.list_ne nw2, ivC.dr.list_ne no2⟩
      exact nomatch hx
    rw [List.map_append] at ivF
    have lF : (xs7 ++ [(⟨t1, w1, o1, b, h1, []⟩ : Tf), ⟨t2, w2, o2, b, h2, []⟩]).length ≤ 7 := by rw [List.length_append]; show xs7.length + 2 ≤ 7; omega
    generalize xs7 ++ [(⟨t1, w1, o1, b, h1, []⟩ : Tf), ⟨t2, w2, o2, b, h2, []⟩] = xsF at ivF lF
    change Inv K H (upd (upd (upd (upd HC o2 (.lst [])) t2 (.tup [.int b, .ref w2, .ref o2])) L (.lst [.ref t1, .ref t2])) W2 (.lst (xs7.map (fun x => V.ref x.t) ++ [.ref t1, .ref t2]))) p W2 xsF _ at ivF
    generalize upd (upd (upd (upd HC o2 (.lst [])) t2 (.tup [.int b, .ref w2, .ref o2])) L (.lst [.ref t1, .ref t2])) W2 (.lst (xs7.map (fun x => V.ref x.t) ++ [.ref t1, .ref t2])) = HF at ivF ⊢
    have lowF := ivF.low fp hb cp op
    obtain ⟨a, rfl⟩ : ∃ a : Nat, at' = (a : Int) := ⟨at'.toNat, by omega⟩
    refine ⟨.ref c, rfl, _, rfl, (a : Int), rfl, c, _, rfl, SqL.of lowF.cor, fun y1 ny1 => ?_⟩
    rw [cut_to, refs_take_n]
    refine ⟨.ref c, rfl, _, rfl, _, _, rfl, rfl, ((a + 1 : Nat) : Int), rfl, c, _, rfl, (same_new ny1).seq (SqL.of lowF.cor), fun y2 ny2 => ?_⟩
    rw [cut_from, refs_drop_n]
    have sG := (same_new (o := .lst (refs (ks.take a))) ny1).trans (same_new (o := .lst (refs (ks.drop (a + 1)))) ny2)
    refine ⟨y1, y2, _, _, rfl, rfl, (same_new ny2) _ _ upd_same, upd_same, ?_, fun y3 ny3 => ?_⟩
    · rw [refs_len, refs_len, List.length_drop, List.length_take]
      exact sz20 (by omega)
    rw [refs_app]
    have lG : (ks.take a ++ ks.drop (a + 1)).length ≤ 9 := by rw [List.length_append, List.length_drop, List.length_take]; omega
    have subG : ∀ x ∈ ks.take a ++ ks.drop (a + 1), x ∈ ks := fun x hx => by
      rcases List.mem_append.mp hx with z | z
      · exact List.mem_of_mem_take z
      · exact List.mem_of_mem_drop z
    have sH := sG.trans (same_new (o := .lst (refs (ks.take a ++ ks.drop (a + 1)))) ny3)
    generalize ks.take a ++ ks.drop (a + 1) = km at lG subG sH ⊢
    have coK : ∀ x ∈ km, Cor x.2 := fun x hx => (cq x (subG x hx)).co
    have ivH := ivF.new sH
    refine ⟨y3, km, rfl, SqL.of upd_same, (lowF.pts.same sH).sub subG, fun x hx => (coK x hx).sm, by omega, fun HI sa hs ss sI nsa hsa subI ascI memI eI => ?_⟩
    have ivI := ivH.new sI
    refine ⟨W2, xsF, _, s6, _, _, _, _, sa, hs, rfl, ivI, by omega, hsa, ((lowF.pts.same sH).sub subG |>.same sI).sub subI, fun ne => ?_, ivH.dr.list_ne nsa, ivH.nef nsa, fun HJ xsJ ivJ lJ => ?_⟩
    · have l1' : 1 ≤ km.length := by
        obtain ⟨x, hx⟩ := List.exists_mem_of_ne_nil _ ne
        exact List.length_pos_of_mem (subI x hx)
      exact hul_isf isf.b1 isf.b2 coK (by omega) l1' ascI memI eI
    have lowJ := ivJ.low fp hb cp op
    obtain ⟨k0, hk0⟩ : ∃ k0, ks[0]? = some k0 := ⟨_, List.getElem?_eq_getElem l1⟩
    have mk0 := List.mem_of_getElem? hk0
    have b1 := isf.b1
    have b2 := isf.b2
    refine ⟨.ref W2, rfl, _, rfl, .inl ⟨_, rfl, _, _, rfl, rfl, (show (0 : Int) < 30 by decide), _, _, rfl, rfl, .ref c, rfl, .ref o, rfl, by show 3 ≤ sizeLine; decide, fun t3 nt3 => ?_⟩⟩
    have s1 := same_new (o := .tup [.int (1 + b % 30), .ref c, .ref o]) nt3
    have g1 : Tf.At K _ ⟨t3, c, o, 1 + b % 30, ks, os⟩ := ⟨upd_same, s1 _ _ lowJ.cor, lowJ.pts.same s1, s1 _ _ lowJ.sid⟩
    have low1 := FPl.same lowJ s1
    have iv1 := ivJ.new s1
    generalize upd HJ t3 (.tup [.int (1 + b % 30), .ref c, .ref o]) = HK at s1 g1 low1 iv1 ⊢
    refine ⟨.int b, rfl, .ref c, rfl, c, _, 0, .ref k0.1, rfl, rfl, SqL.of low1.cor, atI_nat (j := 0) (refs_at hk0), by show 1 ≤ sizeLine; decide, fun c4 nc4 => ⟨by show 0 ≤ sizeLine; decide, fun o4 no4 => ⟨by show 3 ≤ sizeLine; decide, fun t4 nt4 => ?_⟩⟩⟩
    have s2 := ((same_new (o := .lst [.ref k0.1]) nc4).trans (same_new (o := .lst []) no4)).trans (same_new (o := .tup [.int b, .ref c4, .ref o4]) nt4)
    have g2 : Tf.At K _ ⟨t4, c4, o4, b, [k0], []⟩ := ⟨upd_same, (same_new nt4) _ _ ((same_new no4) _ _ upd_same), fun x hx => (by rw [List.mem_singleton.mp hx]; exact s2.seqT (low1.pts k0 mk0)), (same_new nt4) _ _ upd_same⟩
    have low2' := FPl.same low1 s2
    have iv2 := iv1.new s2
    have g1' := FPl.same g1 s2
    have c4p := iv1.dr.list_ne nc4
    have o4p := (iv1.new (same_new nc4)).dr.list_ne no4
    generalize upd (upd (upd HK c4 (.lst [.ref k0.1])) o4 (.lst [])) t4 (.tup [.int b, .ref c4, .ref o4]) = HL at g2 low2' iv2 g1' ⊢
    refine ⟨.ref t, rfl, by show 3 ≤ sizeLine; decide, fun L2 nL2 => ?_⟩
    have s3' := same_new (o := .lst [.ref t3, .ref t4, .ref t]) nL2
    have iv3' := iv2.new s3'
    refine ⟨W2, L2, _, _, rfl, rfl, iv3'.got.hf, upd_same, by rw [List.length_map]; exact Nat.le_trans (show xsJ.length + 3 ≤ 20 by omega) (by decide), fun R nR => ?_⟩
    have iv4' := iv3'.move (ys := [⟨t3, c, o, 1 + b % 30, ks, os⟩, ⟨t4, c4, o4, b, [k0], []⟩, ⟨t, c, o, b, ks, os⟩]) nR fun x hx => by
      rcases List.mem_cons.mp hx with rfl | hx
      · exact ⟨FPl.same g1' s3', isf.btm (show 1 ≤ 1 + b % 30 by omega) (show 1 + b % 30 ≤ 30 by omega), cp, op⟩
      rcases List.mem_cons.mp hx with rfl | hx
      · exact ⟨FPl.same g2 s3', IsF.pt b1 b2 (cq k0 mk0).co, c4p, o4p⟩
      rcases List.mem_cons.mp hx with rfl | hx
      · exact ⟨FPl.same low2' s3', isf, cp, op⟩
      exact nomatch hx
    refine q _ R (xsJ ++ [⟨t3, c, o, 1 + b % 30, ks, os⟩, ⟨t4, c4, o4, b, [k0], []⟩, ⟨t, c, o, b, ks, os⟩]) ?_ ?_ ?_ ?_ iv4'.got.isf iv4'.got.cp (by rw [List.length_append]; show xsJ.length + 3 ≤ 30; omega)
    · have z := (iv3'.dr.new (same_new (o := .lst (xsJ.map (fun x => V.ref x.t) ++ [.ref t3, .ref t4, .ref t])) nR))
      exact ⟨z.x, z.bag.more (by omega)⟩
    · exact iv3'.dr.free nR
    · rw [upd_same, List.map_append]
      rfl
    · have z := iv4'.got.at'
      rw [List.map_append] at z
      exact z
end
end K3
set_option Elab.async false
set_option linter.all false
set_option maxRecDepth 100000
set_option maxHeartbeats 1000000
set_option exponentiation.threshold 20000
namespace Fen
open PySem PySem.Spec PyProof.Rows L2
/-! written points, lists of them, fences -/
def tPtA (K : PySem.W.Frag) (ps : List Hull.P) : TA := fun σ H Q => ∀ H' ks, Same H H' → At K H' ks → ks.map (·.2) = ps → Q (refs ks) H'
def tPtL (K : PySem.W.Frag) (ps : List Hull.P) : TE := fun σ H Q => ∀ H' f ks, Same H H' → H f = none → H' f = some (.lst (refs ks)) → At K H' ks → ks.map (·.2) = ps → Q (.ref f) H'
theorem PA.of {X : Cx} {es : List Expr} {t : TA} (t' : TA) (h : PA X es t) (hi : ∀ σ H Q, t' σ H Q → t σ H Q) : PA X es t' := ⟨fun pos pins s σ H Q I q => h.run pos pins s σ H Q I (hi σ H Q q)⟩
section
variable {X : Cx} {K : PySem.W.Frag}
theorem pa_ptnil : PA X [] (tPtA K []) := PA.of _ pa_nil fun σ H Q h => h H [] (Same.refl _) (fun p hp => nomatch hp) rfl
theorem pa_pt {e1 e2 : Expr} {es : List Expr} {i j : Int} {ps : List Hull.P} {kk : Nat} {pos : Pos} (h1 : PE X e1 (tC (.int i))) (h2 : PE X e2 (tC (.int j))) (hr : PA X es (tPtA K ps)) (hK : X.K = K := by rfl)
    (n1 : starEach (e1 :: [e2]) X.env = (false, eval e1 X.env) :: starEach [e2] X.env := by rfl) (n2 : starEach (e2 :: []) X.env = (false, eval e2 X.env) :: starEach [] X.env := by rfl)
    (hs : starEach (.Tuple [e1, e2] kk pos :: es) X.env = (false, eval (.Tuple [e1, e2] kk pos) X.env) :: starEach es X.env := by rfl) : PA X (.Tuple [e1, e2] kk pos :: es) (tPtA K ((i, j) :: ps)) := by
  subst hK
  refine PA.of _ (pa_cons (pe_tup (pa_cons h1 (pa_cons h2 pa_nil n2) n1)) hr hs) fun σ H Q h => ?_
  refine ⟨by show 2 ≤ sizeLine; decide, fun t nt => fun H' ks s T e => ?_⟩
  refine h H' ((t, (i, j)) :: ks) ((same_new nt).trans s) (fun p hp => ?_) (by rw [List.map_cons, e])
  rcases List.mem_cons.mp hp with rfl | z
  · exact SqT.of (s _ _ upd_same)
  · exact T p z
theorem pe_ptl {es : List Expr} {ps : List Hull.P} {pos : Pos} (h : PA X es (tPtA K ps)) (hl : ps.length ≤ 4000) : PE X (.List es pos) (tPtL K ps) := by
  refine PE.of _ (pe_lst h) fun σ H Q q => fun H' ks s T e => ⟨?_, fun f nf => ?_⟩
  · have := congrArg List.length e
    rw [List.length_map] at this
    rw [refs_len]
    exact sz20 (by omega)
  · exact q _ f ks (s.trans (same_new nf)) (s.free nf) upd_same (T.same (same_new nf)) e
end
end Fen
namespace K3
open PySem PySem.Spec PyProof.Rows L2 Fen
/-- a fence is there -/
def TFs (K : PySem.W.Frag) (H : Hp) (b : Int) (ps : List Hull.P) (os : List Int) (t : Addr) : Prop := ∃ c o ks, FPl K H t c o b ks os ∧ ks.map (·.2) = ps
theorem TFs.same {K : PySem.W.Frag} {H H' : Hp} {b : Int} {ps : List Hull.P} {os : List Int} {t : Addr} (h : TFs K H b ps os t) (s : Same H H') : TFs K H' b ps os t := by
  obtain ⟨c, o, ks, f, r⟩ := h
  exact ⟨c, o, ks, f.same s, r⟩
theorem TFs.dp {K : PySem.W.Frag} {H : Hp} {b : Int} {ps : List Hull.P} {os : List Int} {t : Addr} (h : TFs K H b ps os t) : Dp K H (.ref t) (fD b ps os) := by
  obtain ⟨c, o, ks, f, rfl⟩ := h
  exact f.fat.dp
def tFenS (K : PySem.W.Frag) (b : Int) (ps : List Hull.P) (os : List Int) : TE := fun σ H Q => ∀ H' t, Same H H' → TFs K H' b ps os t → Q (.ref t) H'
section
variable {X : Cx} {K : PySem.W.Frag}
theorem pe_fenS {e1 e2 : Expr} {es : List Expr} {b : Int} {ps : List Hull.P} {os : List Int} {kk : Nat} {pos lp : Pos} {t3 : L2.TA} (h1 : PE X e1 (tC (.int b))) (h2 : PE X e2 (tPtL K ps)) (h3 : PA X es t3) (hi : ∀ σ H Q, Q (os.map V.int) H → t3 σ H Q) (lo : os.length ≤ 10)
    (n1 : starEach [e1, e2, .List es lp] X.env = (false, eval e1 X.env) :: starEach [e2, .List es lp] X.env := by rfl) (n2 : starEach [e2, .List es lp] X.env = (false, eval e2 X.env) :: starEach [.List es lp] X.env := by rfl)
    (n3 : starEach [.List es lp] X.env = (false, eval (.List es lp) X.env) :: starEach [] X.env := by rfl) : PE X (.Tuple [e1, e2, .List es lp] kk pos) (tFenS K b ps os) := by
  refine PE.of _ (pe_tup (pa_cons h1 (pa_cons h2 (pa_cons (pe_lst h3) pa_nil n3) n2) n1)) fun σ H Q h => ?_
  refine fun H1 f ks s1 nf hf T e => hi _ _ _ ⟨by rw [List.length_map]; exact Nat.le_trans lo (by decide), fun x nx => ⟨by show 3 ≤ sizeLine; decide, fun t nt => ?_⟩⟩
  have s2 := (same_new (o := .lst (os.map V.int)) nx).trans (same_new (o := .tup [.int b, .ref f, .ref x]) nt)
  exact h _ t (s1.trans s2) ⟨f, x, ks, ⟨upd_same, s2 _ _ hf, T.same s2, (same_new nt) _ _ upd_same⟩, e⟩
end
abbrev sLw : Stmt := topS 50
abbrev nLw : List Str := ["_law_script", "_law_cell", "_law_bag_here", "_law_turn_here", "_law_wide", "_law_low", "_law_farthest", "_law_times_here", "_law_shape", "_law_other", "_law_bottom", "_law_point", "_law_line", "_law_some", "_law_one", "_law_two", "_law_told", "_law_x", "_law_y"]
theorem scLw : FnScope nLw ["_law_script"] (defScope sLw) := ⟨rfl, rfl, rfl, by decide +kernel, rfl, by decide +kernel, by decide +kernel⟩
theorem shaped_ints (ns : List Int) : SeqAt.shaped (.list (ns.map PyData.int)) = true := by
  have h : ∀ l : List Int, PyData.canLayAll0 (l.map PyData.int) = true ∧ PyData.depthAll (l.map PyData.int) ≤ 1 := by
    intro l
    induction l with
    | nil => exact ⟨rfl, by decide⟩
    | cons b r ih => exact ⟨by simp [PyData.canLayAll0, PyData.canLay0, ih.1], by simp only [List.map_cons, PyData.depthAll, PyData.depth]; omega⟩
  unfold SeqAt.shaped
  simp only [PyData.canLay0, PyData.depth, (h ns).1, Bool.true_and]
  exact decide_eq_true (by have := (h ns).2; omega)
theorem cq_dv {p : Hull.P} {g : Int} (h : Cq p) (hg : 0 < g) : Cq (dv g p) := by
  have h1 := natAbs_div_le (x := p.1) hg
  have h2 := natAbs_div_le (x := p.2) hg
  unfold Cq at *
  show -400000000000000000000000000000 ≤ p.1 / g ∧ p.1 / g ≤ 400000000000000000000000000000 ∧ -400000000000000000000000000000 ≤ p.2 / g ∧ p.2 / g ≤ 400000000000000000000000000000
  omega
def far (p : Hull.P) : Int := (if (if p.2 < 0 then -p.2 else p.2) > (if p.1 < 0 then -p.1 else p.1) then (if p.2 < 0 then -p.2 else p.2) else (if p.1 < 0 then -p.1 else p.1))
theorem far_le {p : Hull.P} {m : Int} (h : far p ≤ m) : -m ≤ p.1 ∧ p.1 ≤ m ∧ -m ≤ p.2 ∧ p.2 ≤ m := by
  unfold far at h
  split at h <;> split at h <;> split at h <;> omega
theorem far_cq {p : Hull.P} (h : Cq p) : 0 ≤ far p ∧ far p ≤ 400000000000000000000000000000 := by
  unfold Cq at h
  unfold far
  split <;> split <;> split <;> omega
/-- the fence over another bottom is a fence -/
theorem isf_times {b m fr : Int} {cs : List Hull.P} {os : List Int} (f : IsF b cs os) (m0 : 0 < m) (h1 : m = 1 ∨ (b * m ≤ 30 ∧ fr * m ≤ 10 ^ 30)) (hf : ∀ p ∈ cs, far p ≤ fr) : IsF (b * m) (cs.map (sc m)) os := by
  have b1 := f.b1
  have b2 := f.b2
  refine ⟨?_, ?_, by rw [List.length_map]; exact f.l1, by rw [List.length_map]; exact f.l2, fun p hp => ?_, (shape_sc m0).mpr f.sh, f.up, by rw [tot_map]; exact f.inn⟩
  · exact Int.mul_pos (by omega) m0
  · rcases h1 with rfl | h1
    · omega
    · exact h1.1
  · obtain ⟨q, hq, rfl⟩ := List.mem_map.mp hp
    rcases h1 with rfl | h1
    · have c := f.co q hq
      unfold Cor at *
      show -(10 : Int) ^ 30 ≤ q.1 * 1 ∧ q.1 * 1 ≤ 10 ^ 30 ∧ -(10 : Int) ^ 30 ≤ q.2 * 1 ∧ q.2 * 1 ≤ 10 ^ 30
      rw [Int.mul_one, Int.mul_one]
      exact c
    · obtain ⟨z1, z2, z3, z4⟩ := far_le (hf q hq)
      have m1 : 0 ≤ m := by omega
      have y1 := Int.mul_le_mul_of_nonneg_right z1 m1
      have y2 := Int.mul_le_mul_of_nonneg_right z2 m1
      have y3 := Int.mul_le_mul_of_nonneg_right z3 m1
      have y4 := Int.mul_le_mul_of_nonneg_right z4 m1
      rw [Int.neg_mul] at y1 y3
      unfold Cor
      show -(10 : Int) ^ 30 ≤ q.1 * m ∧ q.1 * m ≤ 10 ^ 30 ∧ -(10 : Int) ^ 30 ≤ q.2 * m ∧ q.2 * m ≤ 10 ^ 30
      have := h1.2
      generalize (10 : Int) ^ 30 = M at *
      omega
theorem times_ok {b fr m : Int} (b1 : 1 ≤ b) (f1 : 1 ≤ fr) (m0 : 0 ≤ m) (h : m < (if (if 10 ^ (30 : Int).toNat / fr < 30 / b then 10 ^ (30 : Int).toNat / fr else 30 / b) > 1 then (if 10 ^ (30 : Int).toNat / fr < 30 / b then 10 ^ (30 : Int).toNat / fr else 30 / b) else 1)) :
    1 + m ≤ 30 ∧ (1 + m = 1 ∨ (b * (1 + m) ≤ 30 ∧ fr * (1 + m) ≤ 10 ^ 30)) := by
  have e : (10 : Int) ^ (30 : Int).toNat = 10 ^ 30 := by decide
  rw [e] at h
  have h30 : 30 / b ≤ 30 := Int.ediv_le_self _ (by decide)
  by_cases c : m = 0
  · exact ⟨by omega, .inl (by omega)⟩
  have l1 : 1 + m ≤ 30 / b := by
    split at h
    · split at h <;> omega
    · omega
  have l2 : 1 + m ≤ 10 ^ 30 / fr := by
    split at h
    · split at h <;> omega
    · omega
  refine ⟨by omega, .inr ⟨?_, ?_⟩⟩
  · have := (Int.le_ediv_iff_mul_le (show 0 < b by omega)).mp l1
    rw [Int.mul_comm] at this
    exact this
  · have := (Int.le_ediv_iff_mul_le (show 0 < fr by omega)).mp l2
    rw [Int.mul_comm] at this
    exact this
theorem isf_str {b : Int} {p q : Hull.P} {os : List Int} (b1 : 1 ≤ b) (b2 : b ≤ 30) (hp : Cor p) (hq : Cor q) (l : Hull.Lt p q) (up : os.Pairwise (· < ·)) (inn : ∀ o ∈ os, 0 ≤ o ∧ o < 2) : IsF b [p, q] os :=
  ⟨b1, b2, by simp, by simp, (fun x hx => by
    rcases List.mem_cons.mp hx with rfl | hx
    · exact hp
    rcases List.mem_cons.mp hx with rfl | hx
    · exact hq
    exact nomatch hx), Or.inr (Or.inl ⟨p, q, rfl, l⟩), up, fun o ho => inn o ho⟩
theorem gF_one (cs : List Hull.P) : gF 1 cs = 1 := by
  have h1 := gF_pos cs (b := 1) (by decide)
  have h2 := gF_le (cs := cs) (b := 1) (by decide)
  omega
theorem low_pt {b : Int} (h : 0 < b) : lowB b [(b, 0 - b)] = 1 ∧ lowC b [(b, 0 - b)] = [(1, -1)] := by
  have z := low_mul (b := 1) (t := b) (cs := [(1, -1)]) (gF_one _) h
  have e : [((1 : Int), (-1 : Int))].map (sc b) = [(b, 0 - b)] := by simp [sc]
  rw [e, Int.one_mul] at z
  exact z
theorem low_ln {b : Int} (h : 0 < b) : lowB b [(0, 0), (b, 2 * b)] = 1 ∧ lowC b [(0, 0), (b, 2 * b)] = [(0, 0), (1, 2)] := by
  have z := low_mul (b := 1) (t := b) (cs := [(0, 0), (1, 2)]) (gF_one _) h
  have e : [((0 : Int), (0 : Int)), (1, 2)].map (sc b) = [(0, 0), (b, 2 * b)] := by simp [sc]
  rw [e, Int.one_mul] at z
  exact z
theorem cor_small {x y : Int} (h1 : x.natAbs ≤ 1000) (h2 : y.natAbs ≤ 1000) : Cor (x, y) := by
  have e : (10 : Int) ^ 30 = 1000000000000000000000000000000 := by decide
  unfold Cor
  rw [e]
  dsimp only
  omega
def smallC (ps : List Hull.P) : Bool := ps.all fun x => decide (x.1.natAbs ≤ 1000) && decide (x.2.natAbs ≤ 1000)
theorem isf_tri : IsF 2 [(0, 0), (2, 0), (0, 1)] [2] := by
  have z := shape_hul (s := [(0, 0), (0, 1), (2, 0)]) (by decide) (by decide)
  have e : Fen.hul [((0 : Int), (0 : Int)), (0, 1), (2, 0)] = [(0, 0), (2, 0), (0, 1)] := by decide +kernel
  rw [e] at z
  refine ⟨by decide, by decide, by decide, by decide, fun p hp => ?_, z.1, by decide, by decide⟩
  simp only [List.mem_cons, List.not_mem_nil, or_false] at hp
  rcases hp with rfl | rfl | rfl <;> exact cor_small (by decide) (by decide)
theorem low_some : lowB 4 [(2, 0), (6, 0)] = 2 ∧ lowC 4 [(2, 0), (6, 0)] = [(1, 0), (3, 0)] ∧ lowB 2 [(1, 0), (3, 0)] = 2 ∧ lowC 2 [(1, 0), (3, 0)] = [(1, 0), (3, 0)] := by decide +kernel
theorem area_tri : areaT [(0, 0), (2, 0), (0, 1)] / areaG 2 [(0, 0), (2, 0), (0, 1)] = 1 ∧ 2 * 2 * 2 / areaG 2 [(0, 0), (2, 0), (0, 1)] = 4 := by decide +kernel
theorem eqv_some : PyData.eqv (fD 2 [(1, 0), (3, 0)] [1]) (fD 2 [(1, 0), (3, 0)] [1]) = true ∧ PyData.eqv (fD 2 [(1, 0), (3, 0)] [1]) (fD 2 [(1, 0), (3, 0)] [0]) = false := by decide +kernel
section
variable {P : Program} {w : World} {K : PySem.W.Frag} {mg : Str → Option Value} {base : Heap}
def spLw (K : PySem.W.Frag) : Sp := fun vs H Q _ => ∃ (a : Addr) (ns : List Int), vs = [.ref a] ∧ SqL K H a (ns.map V.int) ∧ ns.length ≤ 63 ∧ ∀ H', Q (.bl true) H'
theorem ok_lw {f fB fP fF fL fI fR fO fS fW fA fE : Addr} {fd dB dP dF dL dI dR dO dS dW dA dE : FuncData} {k : Nat} (F : Fun K "law" "law" sLw f fd) (T : Nms mg) (T2 : Nm2 mg)
    (CB : Cal P w K mg base (k + 1) "_law_bag" fB dB ["_law_cell"] spBag)
    (CP : Cal P w K mg base (k + 1) "_law_pick" fP dP ["_law_bag_here", "_law_many"] spPick)
    (CF : Cal P w K mg base (k + 1) "_law_fence" fF dF ["_law_bag_here", "_law_bottom", "_law_many", "_law_wide"] (spFe K))
    (CL : Cal P w K mg base (k + 1) "_law_lowest" fL dL ["_law_shape"] (spLL K))
    (CI : Cal P w K mg base (k + 1) "_law_times" fI dI ["_law_shape", "_law_times_here"] (spTim K))
    (CR : CalG P w K mg base (k + 1) "_law_right" fR dR ["_law_shape", "_law_low"] (spRt K))
    (CO : Cal P w K mg base (k + 1) "_law_others" fO dO ["_law_bag_here", "_law_low"] (spOt K))
    (CS : CalG P w K mg base (k + 1) "_law_same_right" fS dS ["_law_shape", "_law_other"] (spSR K))
    (CW : Cal P w K mg base (k + 1) "lowest_fence" fW dW ["fence"] (spLow K))
    (CA : Cal P w K mg base (k + 1) "are_same" fA dA ["fence", "other"] (spSam K))
    (CE : Cal P w K mg base (k + 1) "fence_area" fE dE ["fence"] (spAre K)) :
    FnG P w K mg base CX0 (k + 1 + 1) f fd ["_law_script"] (spLw K) := by
  refine F.okG scLw (fun vs H Q E h => ?_) (fun cdv A outer s H vs Q E hgd hr h => ?_)
  · obtain ⟨a, ns, rfl, _⟩ := h
    rfl
  · obtain ⟨a, ns, rfl, hS, hl, q⟩ := h
    refine ⟨_, pss_cons (ps_for PassesOwn.never rfl (pi_list (pe_op op_cat (pe_slice sl_list (pv 0) po_none (po_some pe_int)) (pe_op op_rep (pe_lst (pa_cons pe_int pa_nil)) (pe_callTy call_int1 (by rfl) T.mint (by decide +kernel) (pa_cons (pe_cmpR (op_eqD (hu_of64 hr)) (pv 0) (pe_lst pa_nil) (nomark _)) pa_nil))))) (pg_name (i := 1) scLw.nd rfl (.inl rfl))
        (pss_cons (ps_set (i := 2) scLw.nd rfl (.inl rfl) (pe_cal CB hr (pa_cons (pv 1) pa_nil)))
        (pss_one (ps_for PassesOwn.never rfl (pi_range1 (by rfl) T2.mrange (pa_cons pe_int pa_nil)) (pg_name (i := 3) scLw.nd rfl (.inl rfl))
          (pss_cons (ps_set (i := 4) scLw.nd rfl (.inl rfl) (pe_ix ix_list (pe_lst (pa_cons pe_int (pa_cons pe_int (pa_cons pe_int (pa_cons (pe_op op_pow pe_int pe_int) pa_nil))))) (pe_cal CP hr (pa_cons (pv 2) (pa_cons pe_int pa_nil))) (fun _ _ => rfl)))
          (pss_cons (ps_set (i := 5) scLw.nd rfl (.inl rfl) (pe_cal CL hr (pa_cons (pe_cal CF hr (pa_cons (pv 2) (pa_cons (pe_op op_add pe_int (pe_cal CP hr (pa_cons (pv 2) (pa_cons (pe_ix ix_list (pe_lst (pa_cons pe_int (pa_cons pe_int pa_nil))) (pe_cal CP hr (pa_cons (pv 2) (pa_cons pe_int pa_nil))) (fun _ _ => rfl)) pa_nil)))) (pa_cons pe_int (pa_cons (pv 4) pa_nil))))) pa_nil)))
          (pss_cons (ps_set (i := 6) scLw.nd rfl (.inl rfl) (pe_callB (cr_max rfl) (by rfl) T2.mmax (by decide +kernel) (pa_cons (pe_op op_cat (pe_lst (pa_cons pe_int pa_nil)) (pe_lc (own := [("_law_x", 17), ("_law_y", 18)]) (g := gTup K 2 (gCons (gName 17) (gCons (gName 18) gNil))) (tt := tYes) rfl scLw.nd
              (pi_list (pe_ix ix_tup (pv 5) pe_int (fun _ _ => rfl))) (blkOk_by (N := nLw) (sc := defScope sLw) (by decide +kernel)) (fun _ _ _ _ _ => pg_tup rfl (pgs_cons (pg_name (i := 17) scLw.nd rfl (Or.inl rfl)) (pgs_cons (pg_name (i := 18) scLw.nd rfl (Or.inl rfl)) pgs_nil))) (fun _ _ _ _ _ => pts_nil)
              (fun _ _ _ _ _ => pe_callB (call_max2 rfl) (by rfl) T2.mmax (by decide +kernel) (pa_cons (pe_callB call_abs (by rfl) T2.mabs (by decide +kernel) (pa_cons (pv 17) pa_nil)) (pa_cons (pe_callB call_abs (by rfl) T2.mabs (by decide +kernel) (pa_cons (pv 18) pa_nil)) pa_nil))))) pa_nil)))
          (pss_cons (ps_set (i := 7) scLw.nd rfl (.inl rfl) (pe_op op_add pe_int (pe_cal CP hr (pa_cons (pv 2) (pa_cons (pe_callB (call_max2 rfl) (by rfl) T2.mmax (by decide +kernel) (pa_cons pe_int (pa_cons (pe_callB (call_min2 rfl) (by rfl) T2.mmin (by decide +kernel) (pa_cons (pe_op op_fdivW pe_int (pe_ix ix_tup (pv 5) pe_int (fun _ _ => rfl))) (pa_cons (pe_op op_fdivW (pe_op op_pow pe_int pe_int) (pv 6)) pa_nil))) pa_nil))) pa_nil)))))
          (pss_cons (ps_set (i := 8) scLw.nd rfl (.inl rfl) (pe_cal CI hr (pa_cons (pv 5) (pa_cons (pv 7) pa_nil))))
          (pss_cons (ps_if (PW.pt (pw_or (pt_not (pt_val (pe_calG CR hgd hr (pa_cons (pv 5) (pa_cons (pv 5) pa_nil))))) (pw_or1 (pt_not (pt_val (pe_calG CR hgd hr (pa_cons (pv 8) (pa_cons (pv 5) pa_nil)))))))) (pss_one (ps_ret pe_bl)) pss_nil)
          (pss_one (ps_for PassesOwn.never rfl (pi_list (pe_cal CO hr (pa_cons (pv 2) (pa_cons (pv 5) pa_nil)))) (pg_name (i := 9) scLw.nd rfl (.inl rfl))
            (pss_one (ps_if (pt_not (pt_val (pe_calG CS hgd hr (pa_cons (pv 8) (pa_cons (pv 9) pa_nil))))) (pss_one (ps_ret pe_bl)) pss_nil))))))))))))))
      (pss_cons (ps_for PassesOwn.never rfl (pi_range2 (by rfl) T2.mrange (pa_cons pe_int (pa_cons pe_int pa_nil))) (pg_name (i := 10) scLw.nd rfl (.inl rfl))
        (pss_cons (ps_par (i := 11) (j := 12) rfl scLw.nd rfl rfl (by decide) rfl rfl (pa_cons (pe_tup (pa_cons (pv 10) (pa_cons (pe_lst (pa_cons (pe_tup (pa_cons (pv 10) (pa_cons (pe_op op_sub pe_int (pv 10)) pa_nil))) pa_nil)) (pa_cons (pe_lst pa_nil) pa_nil))))
            (pa_cons (pe_tup (pa_cons (pv 10) (pa_cons (pe_lst (pa_cons (pe_tup (pa_cons pe_int (pa_cons pe_int pa_nil))) (pa_cons (pe_tup (pa_cons (pv 10) (pa_cons (pe_op op_mul pe_int (pv 10)) pa_nil))) pa_nil))) (pa_cons (pe_lst (pa_cons pe_int pa_nil)) pa_nil)))) pa_nil)) (by rfl))
        (pss_cons (ps_if (pt_cmpR op_ne (pe_callB (call_reprD hgd hr) (by rfl) T2.mrepr (by decide +kernel) (pa_cons (pe_lst (pa_cons (pe_cal CW hr (pa_cons (pv 11) pa_nil)) (pa_cons (pe_cal CW hr (pa_cons (pv 12) pa_nil)) pa_nil))) pa_nil))
            (pe_callB (call_reprD hgd hr) (by rfl) T2.mrepr (by decide +kernel) (pa_cons (pe_lst (pa_cons (pe_fenS (K := K) (os := []) pe_int (pe_ptl (pa_pt pe_int (PE.of (tC (.int (-1))) (pe_un un_neg pe_int) fun _ _ _ q => ⟨1, rfl, q⟩) pa_ptnil) (by decide)) pa_nil (fun _ _ _ q => q) (by decide)) (pa_cons (pe_fenS (K := K) (os := [1]) pe_int (pe_ptl (pa_pt pe_int pe_int (pa_pt pe_int pe_int pa_ptnil)) (by decide)) (pa_cons pe_int pa_nil) (fun _ _ _ q => q) (by decide)) pa_nil))) pa_nil)) (nomark _)) (pss_one (ps_ret pe_bl)) pss_nil)
        (pss_one (ps_if (PW.pt (pw_or (pt_not (pt_val (pe_cal CA hr (pa_cons (pv 11) (pa_cons (pe_fenS (K := K) (os := []) pe_int (pe_ptl (pa_pt pe_int (PE.of (tC (.int (-1))) (pe_un un_neg pe_int) fun _ _ _ q => ⟨1, rfl, q⟩) pa_ptnil) (by decide)) pa_nil (fun _ _ _ q => q) (by decide)) pa_nil)))))
            (pw_or1 (pt_not (pt_val (pe_cal CA hr (pa_cons (pe_fenS (K := K) (os := [1]) pe_int (pe_ptl (pa_pt pe_int pe_int (pa_pt pe_int pe_int pa_ptnil)) (by decide)) (pa_cons pe_int pa_nil) (fun _ _ _ q => q) (by decide)) (pa_cons (pv 12) pa_nil)))))))) (pss_one (ps_ret pe_bl)) pss_nil)))))
      (pss_cons (ps_set (i := 13) scLw.nd rfl (.inl rfl) (pe_fenS (K := K) (os := [1]) pe_int (pe_ptl (pa_pt pe_int pe_int (pa_pt pe_int pe_int pa_ptnil)) (by decide)) (pa_cons pe_int pa_nil) (fun _ _ _ q => q) (by decide)))
      (pss_cons (ps_par (i := 14) (j := 15) rfl scLw.nd rfl rfl (by decide) rfl rfl (pa_cons (pe_fenS (K := K) (os := [1]) pe_int (pe_ptl (pa_pt pe_int pe_int (pa_pt pe_int pe_int pa_ptnil)) (by decide)) (pa_cons pe_int pa_nil) (fun _ _ _ q => q) (by decide)) (pa_cons (pe_fenS (K := K) (os := [0]) pe_int (pe_ptl (pa_pt pe_int pe_int (pa_pt pe_int pe_int pa_ptnil)) (by decide)) (pa_cons pe_int pa_nil) (fun _ _ _ q => q) (by decide)) pa_nil)) (by rfl))
      (pss_cons (ps_set (i := 16) scLw.nd rfl (.inl rfl) (pe_lst (pa_cons (pe_cal CW hr (pa_cons (pv 13) pa_nil)) (pa_cons (pe_cal CA hr (pa_cons (pv 13) (pa_cons (pv 14) pa_nil))) (pa_cons (pe_cal CA hr (pa_cons (pv 13) (pa_cons (pv 15) pa_nil))) pa_nil)))))
      (pss_one (ps_ret (pe_cmpR (op_eqD (hu_of64 hr)) (pe_op op_cat (pv 16) (pe_lst (pa_cons (pe_cal CE hr (pa_cons (pe_fenS (K := K) (os := [2]) pe_int (pe_ptl (pa_pt pe_int pe_int (pa_pt pe_int pe_int (pa_pt pe_int pe_int pa_ptnil))) (by decide)) (pa_cons pe_int pa_nil) (fun _ _ _ q => q) (by decide)) pa_nil)) pa_nil))) (pe_lst (pa_cons (pv 14) (pa_cons pe_bl (pa_cons pe_bl (pa_cons (pe_tup (pa_cons pe_int (pa_cons pe_int pa_nil))) pa_nil))))) (nomark _)))))))), ?_⟩
    refine ⟨.ref a, rfl, 5, rfl, a, _, rfl, hS, fun c1 nc1 => ?_⟩
    rw [show (5 : Int) = ((5 : Nat) : Int) from rfl, cut_to]
    have s1 : Same H (upd H c1 (.lst ((ns.map V.int).take 5))) := same_new nc1
    refine ⟨by show 1 ≤ sizeLine; decide, fun l1 nl1 => ?_⟩
    have s2 := s1.trans (same_new (o := .lst [.int 0]) nl1)
    refine ⟨.ref a, rfl, by show 0 ≤ sizeLine; decide, fun l2 nl2 => ?_⟩
    have s3 := s2.trans (same_new (o := .lst []) nl2)
    refine ⟨_, .list [], .lst (s3.seq hS) (dp_intl ns), .lst (SqL.of upd_same) .nil, (shaped_ints ns), shaped_pts [], .inr ⟨_, rfl, ?_⟩⟩
    generalize PyData.eqv (.list (ns.map PyData.int)) (.list []) = bb
    refine ⟨l1, (if bb = true then 1 else 0), [.int 0], rfl, rfl, (same_new nl2) _ _ upd_same, ?_, ?_, ?_, fun l3 nl3 => ?_⟩
    · split <;> decide
    · split <;> decide
    · split <;> decide
    have s4 := s3.trans (same_new (o := .lst (List.replicate (if bb = true then (1 : Int) else 0).toNat [V.int 0]).flatten) nl3)
    have lc : (List.replicate (if bb = true then (1 : Int) else 0).toNat [V.int 0]).flatten.length ≤ 1 := by cases bb <;> simp
    have ic : ∀ v ∈ (List.replicate (if bb = true then (1 : Int) else 0).toNat [V.int 0]).flatten, ∃ i, v = V.int i := by
      cases bb
      · intro v hv
        simp at hv
      · intro v hv
        simp at hv
        exact ⟨0, hv⟩
    generalize (List.replicate (if bb = true then (1 : Int) else 0).toNat [V.int 0]).flatten = zs at s4 lc ic ⊢
    refine ⟨c1, l3, _, zs, rfl, rfl, (((same_new nl1).trans (same_new nl2)).trans (same_new nl3)) _ _ upd_same, upd_same, ?_, fun c0 nc0 => ?_⟩
    · rw [List.length_take]
      exact sz20 (by omega)
    have intC : ∀ v ∈ (ns.map V.int).take 5 ++ zs, ∃ i, v = V.int i := fun v hv => by
      rcases List.mem_append.mp hv with z | z
      · obtain ⟨i, _, e⟩ := List.mem_map.mp (List.mem_of_mem_take z)
        exact ⟨i, e.symm⟩
      · exact ic v z
    have hc0 : (upd (upd (upd (upd (upd H c1 (.lst ((ns.map V.int).take 5))) l1 (.lst [.int 0])) l2 (.lst [])) l3 (.lst zs)) c0 (.lst ((ns.map V.int).take 5 ++ zs))) c0 = some (.lst ((ns.map V.int).take 5 ++ zs)) := upd_same
    generalize (ns.map V.int).take 5 ++ zs = C at hc0 intC ⊢
    generalize upd (upd (upd (upd (upd H c1 (.lst ((ns.map V.int).take 5))) l1 (.lst [.int 0])) l2 (.lst [])) l3 (.lst zs)) c0 (.lst C) = H1 at hc0 ⊢
    refine ⟨c0, rfl, ⟨_, SqL.of hc0⟩, ?_⟩
    refine for_list (K := K) (a := c0) (xs := C) (fun i σ H' => ∃ y1 y2 y3 y4 y5 y6 y7 y8 y9 y10 y11 y12 y13 y14 y15 y16 y17 y18, σ = [some (.ref a), y1, y2, y3, y4, y5, y6, y7, y8, y9, y10, y11, y12, y13, y14, y15, y16, y17, y18] ∧ Same H1 H') ⟨_, _, _, _, _, _, _, _, _, _, _, _, _, _, _, _, _, _, rfl, Same.refl _⟩ ?_ ?_ ?_
    · rintro i σ H' _ ⟨_, _, _, _, _, _, _, _, _, _, _, _, _, _, _, _, _, _, _, z⟩
      exact SqL.of (z _ _ hc0)
    · rintro i v σ H2 hv ⟨y1, y2, y3, y4, y5, y6, y7, y8, y9, y10, y11, y12, y13, y14, y15, y16, y17, y18, rfl, sO⟩
      obtain ⟨cell, rfl⟩ := intC v (List.mem_of_getElem? hv)
      refine ⟨_, rfl, cell, rfl, fun H3 p s3 np hb => ?_⟩
      refine ⟨2, rfl, by decide, by decide, ?_⟩
      refine for_range (lo := 0) (fun j σ H' => ∃ y3 y4 y5 y6 y7 y8 y9 y10 y11 y12 y13 y14 y15 y16 y17 y18, σ = [some (.ref a), some (.int cell), some (.ref p), y3, y4, y5, y6, y7, y8, y9, y10, y11, y12, y13, y14, y15, y16, y17, y18] ∧ Drew p H3 H' (100 * j)) ⟨_, _, _, _, _, _, _, _, _, _, _, _, _, _, _, _, rfl, Drew.of hb (Same.refl _)⟩ ?_ ?_
      · rintro j σ H4 hj ⟨y3, y4, y5, y6, y7, y8, y9, y10, y11, y12, y13, y14, y15, y16, y17, y18, rfl, d4⟩
        have hj3 : j < 2 := hj
        refine ⟨10, 28, rfl, rfl, ⟨by decide, by decide, by decide⟩, by show 4 ≤ sizeLine; decide, fun l9 nl9 => ?_⟩
        have d9 := d4.new (same_new (o := .lst [.int 3, .int 7, .int 60, .int ((10 : Int) ^ (28 : Int).toNat)]) nl9)
        have l9p := d4.list_ne nl9
        refine ⟨_, rfl, p, 4, _, rfl, by decide, by decide, d9.bag, by omega, fun r4 HA e0 e1 dA oA => ?_⟩
        obtain ⟨wd, hw, w1, w2⟩ : ∃ wd : Int, atI [V.int 3, V.int 7, V.int 60, V.int ((10 : Int) ^ (28 : Int).toNat)] r4 = some (.int wd) ∧ 0 < wd ∧ wd ≤ N29 := by
          rcases (show r4 = 0 ∨ r4 = 1 ∨ r4 = 2 ∨ r4 = 3 by omega) with rfl | rfl | rfl | rfl
          · exact ⟨3, rfl, by decide, by decide⟩
          · exact ⟨7, rfl, by decide, by decide⟩
          · exact ⟨60, rfl, by decide, by decide⟩
          · exact ⟨(10 : Int) ^ (28 : Int).toNat, rfl, by decide, by decide⟩
        refine ⟨l9, _, r4, .int wd, rfl, rfl, SqL.of (by rw [oA l9 l9p, upd_same]), hw, ?_⟩
        have dB := d9.then dA
        refine ⟨_, rfl, _, rfl, by show 2 ≤ sizeLine; decide, fun l5 nl5 => ?_⟩
        have d6 := dB.new (same_new (o := .lst [.int 3, .int 30]) nl5)
        have l5p := dB.list_ne nl5
        refine ⟨_, rfl, p, 2, _, rfl, by decide, by decide, d6.bag, by omega, fun r2 H7 b0 b1 d7 o7 => ?_⟩
        obtain ⟨v, hv, v1, v2⟩ : ∃ v : Int, atI [V.int 3, V.int 30] r2 = some (.int v) ∧ 1 ≤ v ∧ v ≤ 30 := by
          rcases (show r2 = 0 ∨ r2 = 1 by omega) with rfl | rfl
          · exact ⟨3, rfl, by decide, by decide⟩
          · exact ⟨30, rfl, by decide, by decide⟩
        have d8' := d6.then d7
        refine ⟨l5, _, r2, .int v, rfl, rfl, SqL.of (by rw [o7 l5 l5p, upd_same]), hv, p, v, _, rfl, by omega, Int.lt_of_le_of_lt v2 (by decide), d8'.bag, by omega, fun r3 H8 c0 c1 d8 _ => ⟨_, _, rfl, rfl, ?_⟩⟩
        have dC := d8'.then d8
        refine ⟨_, rfl, p, 1 + r3, 9, wd, _, rfl, dC.bag, by omega, by omega, by omega, by decide, by decide, w1, w2, fun H9 t c o ks os dD nt cp op fp isf cq lk => ?_⟩
        have dE := dC.then dD
        refine ⟨t, c, o, 1 + r3, ks, os, rfl, fp, isf, fun HE u v ks1 sE nu nv f1 e1 => ?_⟩
        have dF := dE.new sE
        have isL : IsF (lowB (1 + r3) (ks.map (·.2))) (ks1.map (·.2)) os := by
          rw [e1]
          exact isf.low
        have gL : gF (lowB (1 + r3) (ks.map (·.2))) (ks1.map (·.2)) = 1 := by
          rw [e1]
          exact gF_low (show 0 < 1 + r3 by omega) _
        have cqL : ∀ x ∈ ks1, Cq x.2 := fun x hx => by
          have z : x.2 ∈ lowC (1 + r3) (ks.map (·.2)) := by
            rw [← e1]
            exact List.mem_map.mpr ⟨x, hx, rfl⟩
          obtain ⟨y, hy, ey⟩ := List.mem_map.mp z
          obtain ⟨y', hy', rfl⟩ := List.mem_map.mp hy
          rw [← ey]
          exact cq_dv (cq y' hy') (gF_pos _ (show 0 < 1 + r3 by omega))
        have lkL : ks1.length ≤ 9 := by
          have z := congrArg List.length e1
          unfold lowC at z
          rw [List.length_map, List.length_map, List.length_map] at z
          omega
        have vp : v ≠ p := dE.list_ne nv
        clear e1
        generalize lowB (1 + r3) (ks.map (·.2)) = bl at f1 isL gL
        obtain ⟨lo1, lo2⟩ := low_one gL
        have bl1 := isL.b1
        have bl2 := isL.b2
        refine ⟨by show 1 ≤ sizeLine; decide, fun l1 nl1 => ?_⟩
        have sA := same_new (o := .lst [.int 1]) nl1
        have fA := f1.same sA
        refine ⟨.ref u, rfl, u, _, 1, .ref v, rfl, rfl, SqT.of fA.tup, rfl, v, rfl, ⟨_, SqL.of fA.cor⟩, fun M nM => ?_⟩
        refine lc_list (K := K) (a := v) (xs := refs ks1) (fun j H' => Same (upd HE l1 (.lst [.int 1])) H' ∧ H' M = some (.lst (((ks1.take j).map fun x => far x.2).map V.int))) ⟨same_new nM, upd_same⟩ (fun j H' _ z => SqL.of (z.1 _ _ fA.cor)) (fun j v' H5 hv' z => ?_) fun H5 z => ?_
        · obtain ⟨x, hx, rfl⟩ := refs_get hv'
          have mx := List.mem_of_getElem? hx
          have jl : j < ks1.length := (List.getElem?_eq_some_iff.mp hx).1
          refine ⟨x.1, _, rfl, (fA.pts.same z.1) x mx, rfl, .int x.2.1, [.int x.2.2], rfl, .int x.2.2, [], rfl, rfl, rfl, yesT ?_⟩
          refine ⟨_, rfl, _, rfl, _, rfl, _, rfl, _, _, rfl, ?_⟩
          refine ⟨_, z.2, ?_, fun b' o' e' => ?_, ?_⟩
          · rw [List.length_map, List.length_map, List.length_take]
            exact Nat.lt_of_le_of_lt (show _ ≤ 10 by omega) (by decide)
          · have nb : b' ≠ M := fun y => by rw [y, nM] at e'; cases e'
            rw [upd_ne nb]
            exact z.1 b' o' e'
          · rw [upd_same, take_succ_at hx, List.map_append, List.map_append]
            rfl
        obtain ⟨s5, hM⟩ := z
        rw [refs_len, List.take_length] at hM
        have hl1 := s5 _ _ (show (upd HE l1 (.lst [.int 1])) l1 = some (.lst [.int 1]) from upd_same)
        refine ⟨l1, M, _, _, rfl, rfl, hl1, hM, ?_, fun cc ncc => ?_⟩
        · rw [List.length_map, List.length_map]
          exact Nat.le_trans (show 1 + ks1.length ≤ 20 by omega) (by decide)
        have sB := (sA.trans s5).trans (same_new (o := .lst ([.int 1] ++ ((ks1.map fun x => far x.2).map V.int))) ncc)
        refine ⟨cc, 1 :: ks1.map (fun x => far x.2), rfl, SqL.of (by rw [upd_same]; rfl), by simp, fun fr hfm hfx => ?_⟩
        have fr1 : 1 ≤ fr := hfx 1 List.mem_cons_self
        have frx : ∀ x ∈ ks1.map (·.2), far x ≤ fr := fun x hx => by
          obtain ⟨y, hy, rfl⟩ := List.mem_map.mp hx
          exact hfx _ (List.mem_cons_of_mem _ (List.mem_map.mpr ⟨y, hy, rfl⟩))
        have fr2 : fr.natAbs < 2 ^ 100 := by
          have z : fr ≤ 400000000000000000000000000000 := by
            rcases List.mem_cons.mp hfm with rfl | z
            · decide
            · obtain ⟨y, hy, rfl⟩ := List.mem_map.mp z
              exact (far_cq (cqL y hy)).2
          have e : (2 : Nat) ^ 100 = 1267650600228229401496703205376 := by decide
          rw [e]
          omega
        have dG := dF.new sB
        have fB := f1.same sB
        generalize upd H5 cc (.lst ([.int 1] ++ ((ks1.map fun x => far x.2).map V.int))) = HG at sB dG fB ⊢
        refine ⟨_, rfl, .ref u, rfl, u, _, 0, .int bl, rfl, rfl, SqT.of fB.tup, rfl, _, _, rfl, rfl, wide_div (b := 30) (by omega) (by omega) (by decide) (by decide), 10, 30, rfl, rfl, ⟨by decide, by decide, by decide⟩, _, rfl, _, _, rfl, rfl, wide_div (by omega) fr2 (by decide) (by decide), _, _, rfl, _, _, rfl, ?_⟩
        have e10 : (10 : Int) ^ (30 : Int).toNat = 10 ^ 30 := by decide
        have d30 : 30 / bl ≤ 30 := Int.ediv_le_self _ (by decide)
        refine ⟨p, _, _, rfl, ?_, ?_, dG.bag, by omega, fun tm HI t0 t1 dH _ => ⟨_, _, rfl, rfl, ?_⟩⟩
        · split <;> omega
        · refine Int.lt_of_le_of_lt (b := 30) ?_ (by decide)
          split
          · split <;> omega
          · omega
        obtain ⟨tm1, tm2⟩ := times_ok bl1 fr1 t0 t1
        have fI := FPl.drew fB dG.bag dH vp op
        have dI := dG.then dH
        clear t1
        refine ⟨_, rfl, _, rfl, u, v, o, bl, ks1, os, 1 + tm, rfl, fI.fat, isL, by omega, tm1, fun HJ t2 c2 o2 ks2 sJ n2 e2 => ?_⟩
        have isS : IsF (bl * (1 + tm)) (ks2.map (·.2)) os := by
          rw [e2]
          exact isf_times isL (by omega) tm2 frx
        obtain ⟨lm1, lm2⟩ := low_mul gL (show 0 < 1 + tm by omega)
        rw [← e2] at lm1 lm2
        have dJ := dI.new sJ
        have fJ := FPl.same fI sJ
        refine ⟨_, rfl, _, rfl, u, v, o, bl, ks1, os, u, v, o, ks1, rfl, fJ, isL, by rw [lo1]; exact fJ, by rw [lo2], fun HK sK => ⟨true, rfl, iteF ?_⟩⟩
        have fK := FPl.same fJ sK
        have nK := n2.pl.same sK
        refine ⟨_, rfl, _, rfl, t2, c2, o2, bl * (1 + tm), ks2, os, u, v, o, ks1, rfl, nK, isS, by rw [lm1]; exact fK, by rw [lm2], fun HL sL => ⟨true, rfl, iteF ?_⟩⟩
        have dL := dJ.new (sK.trans sL)
        have fL := FPl.same fK sL
        have nL := FPl.same nK sL
        refine ⟨_, rfl, _, rfl, p, u, v, o, bl, ks1, os, _, rfl, dL.bag, by omega, fL, isL, vp, op, cqL, lkL, fun HM aa xs dM naa haa fxs ixs cxs lxs => ?_⟩
        have nM' := FPl.drew nL dL.bag dM (dI.list_ne n2.nc) (dI.list_ne n2.no)
        have dN := dL.then dM
        refine ⟨aa, rfl, ⟨_, SqL.of haa⟩, ?_⟩
        refine for_list (K := K) (a := aa) (xs := xs.map fun x => V.ref x.t) (fun i σ H' => ∃ z3 z4 z5 z6 z7 z9 z10 z11 z12 z13 z14 z15 z16 z17 z18, σ = [some (.ref a), some (.int cell), some (.ref p), z3, z4, z5, z6, z7, some (.ref t2), z9, z10, z11, z12, z13, z14, z15, z16, z17, z18] ∧ Same HM H') ⟨_, _, _, _, _, _, _, _, _, _, _, _, _, _, _, rfl, Same.refl _⟩ ?_ ?_ ?_
        · rintro i σ H' _ ⟨_, _, _, _, _, _, _, _, _, _, _, _, _, _, _, _, z⟩
          exact SqL.of (z _ _ haa)
        · rintro i v' σ H' hv' ⟨z3, z4, z5, z6, z7, z9, z10, z11, z12, z13, z14, z15, z16, z17, z18, rfl, sz⟩
          rw [List.getElem?_map] at hv'
          obtain ⟨x, hx, rfl⟩ := Option.map_eq_some_iff.mp hv'
          have mx := List.mem_of_getElem? hx
          refine ⟨_, rfl, _, rfl, t2, c2, o2, bl * (1 + tm), ks2, os, x.t, x.c, x.o, x.b, x.ks, x.os, rfl, FPl.same nM' sz, isS, FPl.same (fxs x mx) sz, ixs x mx, fun H'' s'' => ⟨true, rfl, iteF ?_⟩⟩
          exact ⟨_, _, _, _, _, _, _, _, _, _, _, _, _, _, _, rfl, sz.trans s''⟩
        · rintro σ H' ⟨z3, z4, z5, z6, z7, z9, z10, z11, z12, z13, z14, z15, z16, z17, z18, rfl, sz⟩
          have dO := dN.new sz
          exact ⟨_, _, _, _, _, _, _, _, _, _, _, _, _, _, _, _, rfl, ⟨dO.x, dO.bag.more (by omega)⟩⟩
      · rintro σ H4 ⟨y3, y4, y5, y6, y7, y8, y9, y10, y11, y12, y13, y14, y15, y16, y17, y18, rfl, d4⟩
        exact ⟨_, _, _, _, _, _, _, _, _, _, _, _, _, _, _, _, _, _, rfl, fun b o e => (s3.x.trans d4.x).same np b o (sO b o e)⟩
    · rintro σ H2 ⟨y1, y2, y3, y4, y5, y6, y7, y8, y9, y10, y11, y12, y13, y14, y15, y16, y17, y18, rfl, sO⟩
      clear sO hc0 intC s4 s3 s2 s1
      refine ⟨1, 31, rfl, ⟨by decide, by decide, by decide, by decide⟩, ?_⟩
      refine for_range (lo := 1) (fun j σ H' => ∃ y1 y2 y3 y4 y5 y6 y7 y8 y9 y10 y11 y12 y13 y14 y15 y16 y17 y18, σ = [some (.ref a), y1, y2, y3, y4, y5, y6, y7, y8, y9, y10, y11, y12, y13, y14, y15, y16, y17, y18]) ⟨_, _, _, _, _, _, _, _, _, _, _, _, _, _, _, _, _, _, rfl⟩ ?_ ?_
      · rintro j σ H4 hj ⟨y1, y2, y3, y4, y5, y6, y7, y8, y9, y10, y11, y12, y13, y14, y15, y16, y17, y18, rfl⟩
        have hj3 : j < 30 := hj
        obtain ⟨b, hb⟩ : ∃ b : Int, b = 1 + (j : Int) := ⟨_, rfl⟩
        rw [← hb]
        have b1 : 1 ≤ b := by omega
        have b2 : b ≤ 30 := by omega
        refine ⟨_, rfl, _, rfl, _, rfl, _, _, rfl, rfl, by show 2 ≤ sizeLine; decide, fun u nu => ⟨by show 1 ≤ sizeLine; decide, fun c nc => ⟨by show 0 ≤ sizeLine; decide, fun o no => ⟨by show 3 ≤ sizeLine; decide, fun t nt => ?_⟩⟩⟩⟩
        have s1 := (same_new (o := .lst [.ref u]) nc).trans ((same_new (o := .lst []) no).trans (same_new (o := .tup [.int b, .ref c, .ref o]) nt))
        have F1 : TFs K _ b [(b, 0 - b)] [] t := ⟨c, o, [(u, (b, 0 - b))], ⟨upd_same, ((same_new no).trans (same_new nt)) _ _ upd_same, fun x hx => (by rw [List.mem_singleton.mp hx]; exact s1.seqT (SqT.of upd_same)), (same_new nt) _ _ upd_same⟩, rfl⟩
        generalize upd (upd (upd (upd H4 u (.tup [.int b, .int (0 - b)])) c (.lst [.ref u])) o (.lst [])) t (.tup [.int b, .ref c, .ref o]) = H5 at F1 ⊢
        clear s1 nt no nc nu
        refine ⟨_, rfl, by show 2 ≤ sizeLine; decide, fun u1 nu1 => ⟨_, rfl, _, rfl, _, _, rfl, rfl, ?_, by show 2 ≤ sizeLine; decide, fun u2 nu2 => ⟨by show 2 ≤ sizeLine; decide, fun c' nc => ⟨by show 1 ≤ sizeLine; decide, fun o' no => ⟨by show 3 ≤ sizeLine; decide, fun t' nt => ?_⟩⟩⟩⟩⟩
        · exact .inr ⟨by omega, by omega⟩
        have s1 := same_new (o := .tup [.int 0, .int 0]) nu1
        have s2 := same_new (o := .tup [.int b, .int (2 * b)]) nu2
        have s3 := (same_new (o := .lst [.ref u1, .ref u2]) nc).trans ((same_new (o := .lst [.int 1]) no).trans (same_new (o := .tup [.int b, .ref c', .ref o']) nt))
        have F2 : TFs K _ b [(0, 0), (b, 2 * b)] [1] t' := ⟨c', o', [(u1, (0, 0)), (u2, (b, 2 * b))], ⟨upd_same, ((same_new no).trans (same_new nt)) _ _ upd_same, fun x hx => (by
          rcases List.mem_cons.mp hx with rfl | hx
          · exact (s2.trans s3).seqT (SqT.of upd_same)
          · rw [List.mem_singleton.mp hx]
            exact s3.seqT (SqT.of upd_same)), (same_new nt) _ _ upd_same⟩, rfl⟩
        have F1' := F1.same (s1.trans (s2.trans s3))
        generalize upd (upd (upd (upd (upd H5 u1 (.tup [.int 0, .int 0])) u2 (.tup [.int b, .int (2 * b)])) c' (.lst [.ref u1, .ref u2])) o' (.lst [.int 1])) t' (.tup [.int b, .ref c', .ref o']) = H6 at F1' F2 ⊢
        clear s1 s2 s3 nt no nc nu1 nu2 F1
        have I1 : IsF b [(b, 0 - b)] [] := IsF.pt b1 b2 (cor_small (by omega) (by omega))
        have I2 : IsF b [(0, 0), (b, 2 * b)] [1] := isf_str b1 b2 (cor_small (by decide) (by decide)) (cor_small (by omega) (by omega)) (by unfold Hull.Lt; dsimp only; omega) (by decide) (by decide)
        have J1 : IsF 1 [(1, -1)] [] := IsF.pt (by decide) (by decide) (cor_small (by decide) (by decide))
        have J2 : IsF 1 [(0, 0), (1, 2)] [1] := isf_str (by decide) (by decide) (cor_small (by decide) (by decide)) (cor_small (by decide) (by decide)) (by decide) (by decide) (by decide)
        obtain ⟨l1, l2⟩ := low_pt (b := b) (by omega)
        obtain ⟨l3, l4⟩ := low_ln (b := b) (by omega)
        obtain ⟨m1, m2⟩ := low_one (gF_one [(1, -1)])
        obtain ⟨m3, m4⟩ := low_one (gF_one [(0, 0), (1, 2)])
        obtain ⟨d, hd⟩ : ∃ d : PyData, d = .list [fD 1 [(1, -1)] [], fD 1 [(0, 0), (1, 2)] [1]] := ⟨_, rfl⟩
        have rS : RpX d := by
          rw [hd]
          exact rp_list (n := 1500) (fun x hx => by
            rcases List.mem_cons.mp hx with rfl | hx
            · exact rp_fen J1
            rcases List.mem_cons.mp hx with rfl | hx
            · exact rp_fen J2
            exact nomatch hx) (show (1500 + 2) * 2 ≤ 10000 by decide)
        obtain ⟨pc, po, pk, pf, pe⟩ := F1'
        obtain ⟨qc, qo, qk, qf, qe⟩ := F2
        refine ⟨_, _, rfl, .ref t, rfl, t, pc, po, b, pk, [], rfl, pf.fat, by rw [pe]; exact I1, fun H7 ua va wa ka sA nA eA => ?_⟩
        rw [pe, l2] at eA
        rw [pe, l1] at nA
        refine ⟨.ref t', rfl, t', qc, qo, b, qk, [1], rfl, (qf.same sA).fat, by rw [qe]; exact I2, fun H8 ub vb wb kb sB nB eB => ?_⟩
        rw [qe, l4] at eB
        rw [qe, l3] at nB
        refine ⟨by show 2 ≤ sizeLine; decide, fun L nL => ?_⟩
        have sL := same_new (o := .lst [.ref ua, .ref ub]) nL
        have dL : Dp K (upd H8 L (.lst [.ref ua, .ref ub])) (.ref L) d := by
          rw [hd]
          have z1 := ((nA.same sB).same sL).fat.dp
          have z2 := (nB.same sL).fat.dp
          rw [eA] at z1
          rw [eB] at z2
          exact .lst (SqL.of upd_same) (.cons z1 (.cons z2 .nil))
        refine ⟨L, d, rfl, dL, rS.sh, rS.nd, rS.len, rS.dep, ?_⟩
        have sT := sA.trans (sB.trans sL)
        have pf2 := pf.same sT
        have qf2 := qf.same sT
        generalize upd H8 L (.lst [.ref ua, .ref ub]) = H9 at pf2 qf2 ⊢
        clear sT sL dL nL nB nA sA sB eA eB pf qf
        refine fun HA w1 sA G1 => fun HB w2 sB G2 => ⟨by show 2 ≤ sizeLine; decide, fun L nL => ?_⟩
        have sL := same_new (o := .lst [.ref w1, .ref w2]) nL
        have dL : Dp K (upd HB L (.lst [.ref w1, .ref w2])) (.ref L) d := by
          rw [hd]
          exact .lst (SqL.of upd_same) (.cons ((G1.same sB).same sL).dp (.cons (G2.same sL).dp .nil))
        refine ⟨L, d, rfl, dL, rS.sh, rS.nd, rS.len, rS.dep, rfl, _, rfl, ?_⟩
        rw [decide_eq_true (rfl : V.str d.shown = V.str d.shown)]
        refine iteF ?_
        have pf3 := pf2.same (sA.trans (sB.trans sL))
        have qf3 := qf2.same (sA.trans (sB.trans sL))
        refine ⟨.ref t, rfl, fun HC w3 sC G3 => ?_⟩
        obtain ⟨c3, o3, k3, f3, e3⟩ := G3
        refine ⟨t, pc, po, b, pk, [], w3, c3, o3, 1, k3, [], rfl, (pf3.same sC).fat, by rw [pe]; exact I1, f3.fat, by rw [e3]; exact J1, fun HD sD => ⟨_, rfl, ?_⟩⟩
        rw [pe, e3, l1, l2, m1, m2, eqv_self (shaped_f _ _ _)]
        refine iteF ?_
        refine fun HE w4 sE G4 => ?_
        obtain ⟨c4, o4, k4, f4, e4⟩ := G4
        refine ⟨.ref t', rfl, w4, c4, o4, 1, k4, [1], t', qc, qo, b, qk, [1], rfl, f4.fat, by rw [e4]; exact J2, (qf3.same (sC.trans (sD.trans sE))).fat, by rw [qe]; exact I2, fun HF sF => ⟨_, rfl, ?_⟩⟩
        rw [qe, e4, l3, l4, m3, m4, eqv_self (shaped_f _ _ _)]
        refine iteF ?_
        exact ⟨_, _, _, _, _, _, _, _, _, _, _, _, _, _, _, _, _, _, rfl⟩
      · rintro σ H4 ⟨y1, y2, y3, y4, y5, y6, y7, y8, y9, y10, y11, y12, y13, y14, y15, y16, y17, y18, rfl⟩
        refine fun H5 t1 s1 F1 => fun H6 t2 s2 F2 => fun H7 t3 s3 F3 => ?_
        obtain ⟨ls1, ls2, ls3, ls4⟩ := low_some
        obtain ⟨ea, eb⟩ := eqv_some
        have I1 : IsF 4 [(2, 0), (6, 0)] [1] := isf_str (by decide) (by decide) (cor_small (by decide) (by decide)) (cor_small (by decide) (by decide)) (by decide) (by decide) (by decide)
        have I2 : IsF 2 [(1, 0), (3, 0)] [1] := isf_str (by decide) (by decide) (cor_small (by decide) (by decide)) (cor_small (by decide) (by decide)) (by decide) (by decide) (by decide)
        have I3 : IsF 2 [(1, 0), (3, 0)] [0] := isf_str (by decide) (by decide) (cor_small (by decide) (by decide)) (cor_small (by decide) (by decide)) (by decide) (by decide) (by decide)
        have F2' := F2.same s3
        obtain ⟨c1, o1, k1, f1, e1⟩ := F1.same (s2.trans s3)
        obtain ⟨c2, o2, k2, f2, e2⟩ := F2'
        obtain ⟨c3, o3, k3, f3, e3⟩ := F3
        clear F1 F2 s1 s2 s3
        refine ⟨_, _, rfl, .ref t1, rfl, t1, c1, o1, 4, k1, [1], rfl, f1.fat, by rw [e1]; exact I1, fun H8 ua va wa ka sA nA eA => ?_⟩
        rw [e1, ls2] at eA
        rw [e1, ls1] at nA
        refine ⟨.ref t1, rfl, .ref t2, rfl, t1, c1, o1, 4, k1, [1], t2, c2, o2, 2, k2, [1], rfl, (f1.same sA).fat, by rw [e1]; exact I1, (f2.same sA).fat, by rw [e2]; exact I2, fun H9 sB => ?_⟩
        rw [e1, e2, ls1, ls2, ls3, ls4, ea]
        refine ⟨.ref t1, rfl, .ref t3, rfl, t1, c1, o1, 4, k1, [1], t3, c3, o3, 2, k3, [0], rfl, ((f1.same sA).same sB).fat, by rw [e1]; exact I1, ((f3.same sA).same sB).fat, by rw [e3]; exact I3, fun HA sC => ?_⟩
        rw [e1, e3, ls1, ls2, ls3, ls4, eb]
        refine ⟨by show 3 ≤ sizeLine; decide, fun L nL => ?_⟩
        have sL := same_new (o := .lst [.ref ua, .bl true, .bl false]) nL
        have dA : Dp K (upd HA L (.lst [.ref ua, .bl true, .bl false])) (.ref ua) (fD 2 [(1, 0), (3, 0)] [1]) := by
          have z := ((nA.same (sB.trans sC)).same sL).fat.dp
          rw [eA] at z
          exact z
        have nA2 := (nA.same (sB.trans sC)).same sL
        have g2 := f2.same (sA.trans (sB.trans (sC.trans sL)))
        have hL : (upd HA L (.lst [.ref ua, .bl true, .bl false])) L = some (.lst [.ref ua, .bl true, .bl false]) := upd_same
        generalize upd HA L (.lst [.ref ua, .bl true, .bl false]) = HB at dA nA2 g2 hL ⊢
        clear sL sA sB sC
        refine ⟨.ref L, rfl, fun HC t4 sC F4 => ?_⟩
        obtain ⟨c4, o4, k4, f4, e4⟩ := F4
        refine ⟨t4, c4, o4, 2, k4, [2], rfl, f4.fat, by rw [e4]; exact isf_tri, fun HD x sD hx => ?_⟩
        rw [e4, area_tri.1, area_tri.2] at hx
        refine ⟨by show 1 ≤ sizeLine; decide, fun L2 nL2 => ?_⟩
        have s2 := same_new (o := .lst [.ref x]) nL2
        refine ⟨L, L2, _, _, rfl, rfl, (sC.trans (sD.trans s2)) _ _ hL, upd_same, by show 3 + 1 ≤ sizeLine; decide, fun L3 nL3 => ?_⟩
        have s3 := same_new (o := .lst ([.ref ua, .bl true, .bl false] ++ [.ref x])) nL3
        refine ⟨.ref t2, rfl, by show 2 ≤ sizeLine; decide, fun u nu => ⟨by show 4 ≤ sizeLine; decide, fun L4 nL4 => ?_⟩⟩
        have s4 := (same_new (o := .tup [.int 1, .int 4]) nu).trans (same_new (o := .lst [.ref t2, .bl true, .bl false, .ref u]) nL4)
        have sT := sC.trans (sD.trans (s2.trans (s3.trans s4)))
        have z1 := (nA2.same sT).fat.dp
        rw [eA] at z1
        have z2 := (g2.same sT).fat.dp
        rw [e2] at z2
        refine ⟨.list [fD 2 [(1, 0), (3, 0)] [1], .bool true, .bool false, .tuple [.int 1, .int 4]], .list [fD 2 [(1, 0), (3, 0)] [1], .bool true, .bool false, .tuple [.int 1, .int 4]],
          .lst (SqL.of (s4 _ _ upd_same)) (.cons z1 (.cons (.bl _) (.cons (.bl _) (.cons (.tup (SqT.of ((s2.trans (s3.trans s4)) _ _ hx)) (.cons (.int _) (.cons (.int _) .nil))) .nil)))),
          .lst (SqL.of upd_same) (.cons z2 (.cons (.bl _) (.cons (.bl _) (.cons (.tup (SqT.of ((same_new nL4) _ _ upd_same)) (.cons (.int _) (.cons (.int _) .nil))) .nil)))), by decide +kernel, by decide +kernel, ?_⟩
        rw [show PyData.eqv (.list [fD 2 [(1, 0), (3, 0)] [1], .bool true, .bool false, .tuple [.int 1, .int 4]]) (.list [fD 2 [(1, 0), (3, 0)] [1], .bool true, .bool false, .tuple [.int 1, .int 4]]) = true by decide +kernel]
        exact q _
end
end K3
set_option Elab.async false
set_option linter.all false
set_option maxRecDepth 100000
set_option maxHeartbeats 1000000
set_option exponentiation.threshold 20000
namespace K3
open PySem PySem.Spec PyProof.Rows L2 Fen
theorem kw_one {K : PySem.W.Frag} {x qual : Str} {st : Stmt} {f : Addr} {fd : FuncData} {nm : Str} (F : Fun K x qual st f fd)
    (h : ∀ (kV doc pm : Value) (an : Option Addr) (cdv ct u : Value), bindArgs (PySem.W.fnOf x qual (defArgs st) (defBody st) (defScope st) .none kV doc pm an cdv ct) ⟨[], [(nm, u)]⟩ = pure [(nm, u)]) : KwOne K fd nm := by
  obtain ⟨oc, od, kV, doc, pm, an, cdv, ct, osl, rfl, lk, hcd⟩ := F.ex
  exact fun s u _ => .of_eq (h kV doc pm an cdv ct u)
theorem top_mk {P : Program} {w : World} {K : PySem.W.Frag} {h : Heap} {mg : Str → Option Value} {fa  : Addr} {t1 t2 t3 : Tok} (X : K.In h) (G : h.Ns mainGlobals mg) (hfa : mg "law" = some (.ref fa))
    (v1 : PySem.W.nsIn K mainGlobals "LIMIT" = some (some (.int 1000000000000000000000000000000 t1)))
    (v2 : PySem.W.nsIn K mainGlobals "GREATEST_BOTTOM" = some (some (.int 30 t2)))
    (v3 : PySem.W.nsIn K mainGlobals "MOST_CORNERS" = some (some (.int 10 t3)))
    (v4 : PySem.W.nsIn K mainGlobals "gcd" = some (some (.builtin "math.gcd")))
    (b0 : PySem.W.nsIn K mainGlobals "isinstance" = some none)
    (b1 : PySem.W.nsIn K mainGlobals "int" = some none)
    (b2 : PySem.W.nsIn K mainGlobals "bool" = some none)
    (b3 : PySem.W.nsIn K mainGlobals "tuple" = some none)
    (b4 : PySem.W.nsIn K mainGlobals "list" = some none)
    (b5 : PySem.W.nsIn K mainGlobals "len" = some none)
    (b6 : PySem.W.nsIn K mainGlobals "enumerate" = some none)
    (b7 : PySem.W.nsIn K mainGlobals "min" = some none)
    (b8 : PySem.W.nsIn K mainGlobals "max" = some none)
    (b9 : PySem.W.nsIn K mainGlobals "zip" = some none)
    (b10 : PySem.W.nsIn K mainGlobals "all" = some none)
    (b11 : PySem.W.nsIn K mainGlobals "range" = some none)
    (b12 : PySem.W.nsIn K mainGlobals "abs" = some none)
    (b13 : PySem.W.nsIn K mainGlobals "sum" = some none)
    (b14 : PySem.W.nsIn K mainGlobals "repr" = some none)
    (b15 : PySem.W.nsIn K mainGlobals "sorted" = some none)
    (b16 : PySem.W.nsIn K mainGlobals "set" = some none)
    {fTurnP : Addr} {ocTurnP : Value} {odTurnP anTurnP : Option Addr} {slTurnP : Array (Option Value)} {kVTurnP dcTurnP pmTurnP cdTurnP ctTurnP : Value} (eTurnP : PySem.W.nsIn K mainGlobals "turn" = some (some (.ref fTurnP))) (lTurnP : K.lookup fTurnP = some ⟨ocTurnP, odTurnP, .func (PySem.W.fnOf "turn" "turn" (defArgs sTurnP) (defBody sTurnP) (defScope sTurnP) .none kVTurnP dcTurnP pmTurnP anTurnP cdTurnP ctTurnP), slTurnP⟩) (jTurnP : PySem.W.codeIn K cdTurnP "turn" = true) (kTurnP : PySem.W.keepIn K (.ref fTurnP) = true)
    {fNx : Addr} {ocNx : Value} {odNx anNx : Option Addr} {slNx : Array (Option Value)} {kVNx dcNx pmNx cdNx ctNx : Value} (eNx : PySem.W.nsIn K mainGlobals "next_corner" = some (some (.ref fNx))) (lNx : K.lookup fNx = some ⟨ocNx, odNx, .func (PySem.W.fnOf "next_corner" "next_corner" (defArgs sNx) (defBody sNx) (defScope sNx) .none kVNx dcNx pmNx anNx cdNx ctNx), slNx⟩) (jNx : PySem.W.codeIn K cdNx "next_corner" = true) (kNx : PySem.W.keepIn K (.ref fNx) = true)
    {fLs : Addr} {ocLs : Value} {odLs anLs : Option Addr} {slLs : Array (Option Value)} {kVLs dcLs pmLs cdLs ctLs : Value} (eLs : PySem.W.nsIn K mainGlobals "is_left_of_side" = some (some (.ref fLs))) (lLs : K.lookup fLs = some ⟨ocLs, odLs, .func (PySem.W.fnOf "is_left_of_side" "is_left_of_side" (defArgs sLs) (defBody sLs) (defScope sLs) .none kVLs dcLs pmLs anLs cdLs ctLs), slLs⟩) (jLs : PySem.W.codeIn K cdLs "is_left_of_side" = true) (kLs : PySem.W.keepIn K (.ref fLs) = true)
    {fOut : Addr} {ocOut : Value} {odOut anOut : Option Addr} {slOut : Array (Option Value)} {kVOut dcOut pmOut cdOut ctOut : Value} (eOut : PySem.W.nsIn K mainGlobals "is_outline" = some (some (.ref fOut))) (lOut : K.lookup fOut = some ⟨ocOut, odOut, .func (PySem.W.fnOf "is_outline" "is_outline" (defArgs sOut) (defBody sOut) (defScope sOut) .none kVOut dcOut pmOut anOut cdOut ctOut), slOut⟩) (jOut : PySem.W.codeIn K cdOut "is_outline" = true) (kOut : PySem.W.keepIn K (.ref fOut) = true)
    {fInt : Addr} {ocInt : Value} {odInt anInt : Option Addr} {slInt : Array (Option Value)} {kVInt dcInt pmInt cdInt ctInt : Value} (eInt : PySem.W.nsIn K mainGlobals "is_integer" = some (some (.ref fInt))) (lInt : K.lookup fInt = some ⟨ocInt, odInt, .func (PySem.W.fnOf "is_integer" "is_integer" (defArgs sInt) (defBody sInt) (defScope sInt) .none kVInt dcInt pmInt anInt cdInt ctInt), slInt⟩) (jInt : PySem.W.codeIn K cdInt "is_integer" = true) (kInt : PySem.W.keepIn K (.ref fInt) = true)
    {fBet : Addr} {ocBet : Value} {odBet anBet : Option Addr} {slBet : Array (Option Value)} {kVBet dcBet pmBet cdBet ctBet : Value} (eBet : PySem.W.nsIn K mainGlobals "is_between" = some (some (.ref fBet))) (lBet : K.lookup fBet = some ⟨ocBet, odBet, .func (PySem.W.fnOf "is_between" "is_between" (defArgs sBet) (defBody sBet) (defScope sBet) .none kVBet dcBet pmBet anBet cdBet ctBet), slBet⟩) (jBet : PySem.W.codeIn K cdBet "is_between" = true) (kBet : PySem.W.keepIn K (.ref fBet) = true)
    {fIsP : Addr} {ocIsP : Value} {odIsP anIsP : Option Addr} {slIsP : Array (Option Value)} {kVIsP dcIsP pmIsP cdIsP ctIsP : Value} (eIsP : PySem.W.nsIn K mainGlobals "is_point" = some (some (.ref fIsP))) (lIsP : K.lookup fIsP = some ⟨ocIsP, odIsP, .func (PySem.W.fnOf "is_point" "is_point" (defArgs sIsP) (defBody sIsP) (defScope sIsP) .none kVIsP dcIsP pmIsP anIsP cdIsP ctIsP), slIsP⟩) (jIsP : PySem.W.codeIn K cdIsP "is_point" = true) (kIsP : PySem.W.keepIn K (.ref fIsP) = true)
    {fIsC : Addr} {ocIsC : Value} {odIsC anIsC : Option Addr} {slIsC : Array (Option Value)} {kVIsC dcIsC pmIsC cdIsC ctIsC : Value} (eIsC : PySem.W.nsIn K mainGlobals "is_corner" = some (some (.ref fIsC))) (lIsC : K.lookup fIsC = some ⟨ocIsC, odIsC, .func (PySem.W.fnOf "is_corner" "is_corner" (defArgs sIsC) (defBody sIsC) (defScope sIsC) .none kVIsC dcIsC pmIsC anIsC cdIsC ctIsC), slIsC⟩) (jIsC : PySem.W.codeIn K cdIsC "is_corner" = true) (kIsC : PySem.W.keepIn K (.ref fIsC) = true)
    {fIsB : Addr} {ocIsB : Value} {odIsB anIsB : Option Addr} {slIsB : Array (Option Value)} {kVIsB dcIsB pmIsB cdIsB ctIsB : Value} (eIsB : PySem.W.nsIn K mainGlobals "is_bottom" = some (some (.ref fIsB))) (lIsB : K.lookup fIsB = some ⟨ocIsB, odIsB, .func (PySem.W.fnOf "is_bottom" "is_bottom" (defArgs sIsB) (defBody sIsB) (defScope sIsB) .none kVIsB dcIsB pmIsB anIsB cdIsB ctIsB), slIsB⟩) (jIsB : PySem.W.codeIn K cdIsB "is_bottom" = true) (kIsB : PySem.W.keepIn K (.ref fIsB) = true)
    {fCs : Addr} {ocCs : Value} {odCs anCs : Option Addr} {slCs : Array (Option Value)} {kVCs dcCs pmCs cdCs ctCs : Value} (eCs : PySem.W.nsIn K mainGlobals "are_corners" = some (some (.ref fCs))) (lCs : K.lookup fCs = some ⟨ocCs, odCs, .func (PySem.W.fnOf "are_corners" "are_corners" (defArgs sCs) (defBody sCs) (defScope sCs) .none kVCs dcCs pmCs anCs cdCs ctCs), slCs⟩) (jCs : PySem.W.codeIn K cdCs "are_corners" = true) (kCs : PySem.W.keepIn K (.ref fCs) = true)
    {fTot : Addr} {ocTot : Value} {odTot anTot : Option Addr} {slTot : Array (Option Value)} {kVTot dcTot pmTot cdTot ctTot : Value} (eTot : PySem.W.nsIn K mainGlobals "side_total" = some (some (.ref fTot))) (lTot : K.lookup fTot = some ⟨ocTot, odTot, .func (PySem.W.fnOf "side_total" "side_total" (defArgs sTot) (defBody sTot) (defScope sTot) .none kVTot dcTot pmTot anTot cdTot ctTot), slTot⟩) (jTot : PySem.W.codeIn K cdTot "side_total" = true) (kTot : PySem.W.keepIn K (.ref fTot) = true)
    {fSd : Addr} {ocSd : Value} {odSd anSd : Option Addr} {slSd : Array (Option Value)} {kVSd dcSd pmSd cdSd ctSd : Value} (eSd : PySem.W.nsIn K mainGlobals "are_open_sides" = some (some (.ref fSd))) (lSd : K.lookup fSd = some ⟨ocSd, odSd, .func (PySem.W.fnOf "are_open_sides" "are_open_sides" (defArgs sSd) (defBody sSd) (defScope sSd) .none kVSd dcSd pmSd anSd cdSd ctSd), slSd⟩) (jSd : PySem.W.codeIn K cdSd "are_open_sides" = true) (kSd : PySem.W.keepIn K (.ref fSd) = true)
    {fChB : Addr} {ocChB : Value} {odChB anChB : Option Addr} {slChB : Array (Option Value)} {kVChB dcChB pmChB cdChB ctChB : Value} (eChB : PySem.W.nsIn K mainGlobals "check_bottom" = some (some (.ref fChB))) (lChB : K.lookup fChB = some ⟨ocChB, odChB, .func (PySem.W.fnOf "check_bottom" "check_bottom" (defArgs sChB) (defBody sChB) (defScope sChB) .none kVChB dcChB pmChB anChB cdChB ctChB), slChB⟩) (jChB : PySem.W.codeIn K cdChB "check_bottom" = true) (kChB : PySem.W.keepIn K (.ref fChB) = true)
    {fChk : Addr} {ocChk : Value} {odChk anChk : Option Addr} {slChk : Array (Option Value)} {kVChk dcChk pmChk cdChk ctChk : Value} (eChk : PySem.W.nsIn K mainGlobals "check_fence" = some (some (.ref fChk))) (lChk : K.lookup fChk = some ⟨ocChk, odChk, .func (PySem.W.fnOf "check_fence" "check_fence" (defArgs sChk) (defBody sChk) (defScope sChk) .none kVChk dcChk pmChk anChk cdChk ctChk), slChk⟩) (jChk : PySem.W.codeIn K cdChk "check_fence" = true) (kChk : PySem.W.keepIn K (.ref fChk) = true)
    {fFrc : Addr} {ocFrc : Value} {odFrc anFrc : Option Addr} {slFrc : Array (Option Value)} {kVFrc dcFrc pmFrc cdFrc ctFrc : Value} (eFrc : PySem.W.nsIn K mainGlobals "fraction_of" = some (some (.ref fFrc))) (lFrc : K.lookup fFrc = some ⟨ocFrc, odFrc, .func (PySem.W.fnOf "fraction_of" "fraction_of" (defArgs sFrc) (defBody sFrc) (defScope sFrc) .none kVFrc dcFrc pmFrc anFrc cdFrc ctFrc), slFrc⟩) (jFrc : PySem.W.codeIn K cdFrc "fraction_of" = true) (kFrc : PySem.W.keepIn K (.ref fFrc) = true)
    {fLwd : Addr} {ocLwd : Value} {odLwd anLwd : Option Addr} {slLwd : Array (Option Value)} {kVLwd dcLwd pmLwd cdLwd ctLwd : Value} (eLwd : PySem.W.nsIn K mainGlobals "lowered_fence" = some (some (.ref fLwd))) (lLwd : K.lookup fLwd = some ⟨ocLwd, odLwd, .func (PySem.W.fnOf "lowered_fence" "lowered_fence" (defArgs sLwd) (defBody sLwd) (defScope sLwd) .none kVLwd dcLwd pmLwd anLwd cdLwd ctLwd), slLwd⟩) (jLwd : PySem.W.codeIn K cdLwd "lowered_fence" = true) (kLwd : PySem.W.keepIn K (.ref fLwd) = true)
    {fLow : Addr} {ocLow : Value} {odLow anLow : Option Addr} {slLow : Array (Option Value)} {kVLow dcLow pmLow cdLow ctLow : Value} (eLow : PySem.W.nsIn K mainGlobals "lowest_fence" = some (some (.ref fLow))) (lLow : K.lookup fLow = some ⟨ocLow, odLow, .func (PySem.W.fnOf "lowest_fence" "lowest_fence" (defArgs sLow) (defBody sLow) (defScope sLow) .none kVLow dcLow pmLow anLow cdLow ctLow), slLow⟩) (jLow : PySem.W.codeIn K cdLow "lowest_fence" = true) (kLow : PySem.W.keepIn K (.ref fLow) = true)
    {fClo : Addr} {ocClo : Value} {odClo anClo : Option Addr} {slClo : Array (Option Value)} {kVClo dcClo pmClo cdClo ctClo : Value} (eClo : PySem.W.nsIn K mainGlobals "closed_fence" = some (some (.ref fClo))) (lClo : K.lookup fClo = some ⟨ocClo, odClo, .func (PySem.W.fnOf "closed_fence" "closed_fence" (defArgs sClo) (defBody sClo) (defScope sClo) .none kVClo dcClo pmClo anClo cdClo ctClo), slClo⟩) (jClo : PySem.W.codeIn K cdClo "closed_fence" = true) (kClo : PySem.W.keepIn K (.ref fClo) = true)
    {fShu : Addr} {ocShu : Value} {odShu anShu : Option Addr} {slShu : Array (Option Value)} {kVShu dcShu pmShu cdShu ctShu : Value} (eShu : PySem.W.nsIn K mainGlobals "shut_fence" = some (some (.ref fShu))) (lShu : K.lookup fShu = some ⟨ocShu, odShu, .func (PySem.W.fnOf "shut_fence" "shut_fence" (defArgs sShu) (defBody sShu) (defScope sShu) .none kVShu dcShu pmShu anShu cdShu ctShu), slShu⟩) (jShu : PySem.W.codeIn K cdShu "shut_fence" = true) (kShu : PySem.W.keepIn K (.ref fShu) = true)
    {fTrn : Addr} {ocTrn : Value} {odTrn anTrn : Option Addr} {slTrn : Array (Option Value)} {kVTrn dcTrn pmTrn cdTrn ctTrn : Value} (eTrn : PySem.W.nsIn K mainGlobals "turned_fence" = some (some (.ref fTrn))) (lTrn : K.lookup fTrn = some ⟨ocTrn, odTrn, .func (PySem.W.fnOf "turned_fence" "turned_fence" (defArgs sTrn) (defBody sTrn) (defScope sTrn) .none kVTrn dcTrn pmTrn anTrn cdTrn ctTrn), slTrn⟩) (jTrn : PySem.W.codeIn K cdTrn "turned_fence" = true) (kTrn : PySem.W.keepIn K (.ref fTrn) = true)
    {fSam : Addr} {ocSam : Value} {odSam anSam : Option Addr} {slSam : Array (Option Value)} {kVSam dcSam pmSam cdSam ctSam : Value} (eSam : PySem.W.nsIn K mainGlobals "are_same" = some (some (.ref fSam))) (lSam : K.lookup fSam = some ⟨ocSam, odSam, .func (PySem.W.fnOf "are_same" "are_same" (defArgs sSam) (defBody sSam) (defScope sSam) .none kVSam dcSam pmSam anSam cdSam ctSam), slSam⟩) (jSam : PySem.W.codeIn K cdSam "are_same" = true) (kSam : PySem.W.keepIn K (.ref fSam) = true)
    {fKnd : Addr} {ocKnd : Value} {odKnd anKnd : Option Addr} {slKnd : Array (Option Value)} {kVKnd dcKnd pmKnd cdKnd ctKnd : Value} (eKnd : PySem.W.nsIn K mainGlobals "fence_kind" = some (some (.ref fKnd))) (lKnd : K.lookup fKnd = some ⟨ocKnd, odKnd, .func (PySem.W.fnOf "fence_kind" "fence_kind" (defArgs sKnd) (defBody sKnd) (defScope sKnd) .none kVKnd dcKnd pmKnd anKnd cdKnd ctKnd), slKnd⟩) (jKnd : PySem.W.codeIn K cdKnd "fence_kind" = true) (kKnd : PySem.W.keepIn K (.ref fKnd) = true)
    {fAre : Addr} {ocAre : Value} {odAre anAre : Option Addr} {slAre : Array (Option Value)} {kVAre dcAre pmAre cdAre ctAre : Value} (eAre : PySem.W.nsIn K mainGlobals "fence_area" = some (some (.ref fAre))) (lAre : K.lookup fAre = some ⟨ocAre, odAre, .func (PySem.W.fnOf "fence_area" "fence_area" (defArgs sAre) (defBody sAre) (defScope sAre) .none kVAre dcAre pmAre anAre cdAre ctAre), slAre⟩) (jAre : PySem.W.codeIn K cdAre "fence_area" = true) (kAre : PySem.W.keepIn K (.ref fAre) = true)
    {fBag : Addr} {ocBag : Value} {odBag anBag : Option Addr} {slBag : Array (Option Value)} {kVBag dcBag pmBag cdBag ctBag : Value} (eBag : PySem.W.nsIn K mainGlobals "_law_bag" = some (some (.ref fBag))) (lBag : K.lookup fBag = some ⟨ocBag, odBag, .func (PySem.W.fnOf "_law_bag" "_law_bag" (defArgs sBag) (defBody sBag) (defScope sBag) .none kVBag dcBag pmBag anBag cdBag ctBag), slBag⟩) (jBag : PySem.W.codeIn K cdBag "_law_bag" = true) (kBag : PySem.W.keepIn K (.ref fBag) = true)
    {fPick : Addr} {ocPick : Value} {odPick anPick : Option Addr} {slPick : Array (Option Value)} {kVPick dcPick pmPick cdPick ctPick : Value} (ePick : PySem.W.nsIn K mainGlobals "_law_pick" = some (some (.ref fPick))) (lPick : K.lookup fPick = some ⟨ocPick, odPick, .func (PySem.W.fnOf "_law_pick" "_law_pick" (defArgs sPick) (defBody sPick) (defScope sPick) .none kVPick dcPick pmPick anPick cdPick ctPick), slPick⟩) (jPick : PySem.W.codeIn K cdPick "_law_pick" = true) (kPick : PySem.W.keepIn K (.ref fPick) = true)
    {fTurnL : Addr} {ocTurnL : Value} {odTurnL anTurnL : Option Addr} {slTurnL : Array (Option Value)} {kVTurnL dcTurnL pmTurnL cdTurnL ctTurnL : Value} (eTurnL : PySem.W.nsIn K mainGlobals "_law_turn" = some (some (.ref fTurnL))) (lTurnL : K.lookup fTurnL = some ⟨ocTurnL, odTurnL, .func (PySem.W.fnOf "_law_turn" "_law_turn" (defArgs sTurnL) (defBody sTurnL) (defScope sTurnL) .none kVTurnL dcTurnL pmTurnL anTurnL cdTurnL ctTurnL), slTurnL⟩) (jTurnL : PySem.W.codeIn K cdTurnL "_law_turn" = true) (kTurnL : PySem.W.keepIn K (.ref fTurnL) = true)
    {fHalfL : Addr} {ocHalfL : Value} {odHalfL anHalfL : Option Addr} {slHalfL : Array (Option Value)} {kVHalfL dcHalfL pmHalfL cdHalfL ctHalfL : Value} (eHalfL : PySem.W.nsIn K mainGlobals "_law_half" = some (some (.ref fHalfL))) (lHalfL : K.lookup fHalfL = some ⟨ocHalfL, odHalfL, .func (PySem.W.fnOf "_law_half" "_law_half" (defArgs sHalfL) (defBody sHalfL) (defScope sHalfL) .none kVHalfL dcHalfL pmHalfL anHalfL cdHalfL ctHalfL), slHalfL⟩) (jHalfL : PySem.W.codeIn K cdHalfL "_law_half" = true) (kHalfL : PySem.W.keepIn K (.ref fHalfL) = true)
    {fHullL : Addr} {ocHullL : Value} {odHullL anHullL : Option Addr} {slHullL : Array (Option Value)} {kVHullL dcHullL pmHullL cdHullL ctHullL : Value} (eHullL : PySem.W.nsIn K mainGlobals "_law_hull" = some (some (.ref fHullL))) (lHullL : K.lookup fHullL = some ⟨ocHullL, odHullL, .func (PySem.W.fnOf "_law_hull" "_law_hull" (defArgs sHullL) (defBody sHullL) (defScope sHullL) .none kVHullL dcHullL pmHullL anHullL cdHullL ctHullL), slHullL⟩) (jHullL : PySem.W.codeIn K cdHullL "_law_hull" = true) (kHullL : PySem.W.keepIn K (.ref fHullL) = true)
    {fPts : Addr} {ocPts : Value} {odPts anPts : Option Addr} {slPts : Array (Option Value)} {kVPts dcPts pmPts cdPts ctPts : Value} (ePts : PySem.W.nsIn K mainGlobals "_law_points" = some (some (.ref fPts))) (lPts : K.lookup fPts = some ⟨ocPts, odPts, .func (PySem.W.fnOf "_law_points" "_law_points" (defArgs sPts) (defBody sPts) (defScope sPts) .none kVPts dcPts pmPts anPts cdPts ctPts), slPts⟩) (jPts : PySem.W.codeIn K cdPts "_law_points" = true) (kPts : PySem.W.keepIn K (.ref fPts) = true)
    {fFe : Addr} {ocFe : Value} {odFe anFe : Option Addr} {slFe : Array (Option Value)} {kVFe dcFe pmFe cdFe ctFe : Value} (eFe : PySem.W.nsIn K mainGlobals "_law_fence" = some (some (.ref fFe))) (lFe : K.lookup fFe = some ⟨ocFe, odFe, .func (PySem.W.fnOf "_law_fence" "_law_fence" (defArgs sFe) (defBody sFe) (defScope sFe) .none kVFe dcFe pmFe anFe cdFe ctFe), slFe⟩) (jFe : PySem.W.codeIn K cdFe "_law_fence" = true) (kFe : PySem.W.keepIn K (.ref fFe) = true)
    {fDiv : Addr} {ocDiv : Value} {odDiv anDiv : Option Addr} {slDiv : Array (Option Value)} {kVDiv dcDiv pmDiv cdDiv ctDiv : Value} (eDiv : PySem.W.nsIn K mainGlobals "_law_divisor" = some (some (.ref fDiv))) (lDiv : K.lookup fDiv = some ⟨ocDiv, odDiv, .func (PySem.W.fnOf "_law_divisor" "_law_divisor" (defArgs sDiv) (defBody sDiv) (defScope sDiv) .none kVDiv dcDiv pmDiv anDiv cdDiv ctDiv), slDiv⟩) (jDiv : PySem.W.codeIn K cdDiv "_law_divisor" = true) (kDiv : PySem.W.keepIn K (.ref fDiv) = true)
    {fLL : Addr} {ocLL : Value} {odLL anLL : Option Addr} {slLL : Array (Option Value)} {kVLL dcLL pmLL cdLL ctLL : Value} (eLL : PySem.W.nsIn K mainGlobals "_law_lowest" = some (some (.ref fLL))) (lLL : K.lookup fLL = some ⟨ocLL, odLL, .func (PySem.W.fnOf "_law_lowest" "_law_lowest" (defArgs sLL) (defBody sLL) (defScope sLL) .none kVLL dcLL pmLL anLL cdLL ctLL), slLL⟩) (jLL : PySem.W.codeIn K cdLL "_law_lowest" = true) (kLL : PySem.W.keepIn K (.ref fLL) = true)
    {fLA : Addr} {ocLA : Value} {odLA anLA : Option Addr} {slLA : Array (Option Value)} {kVLA dcLA pmLA cdLA ctLA : Value} (eLA : PySem.W.nsIn K mainGlobals "_law_area" = some (some (.ref fLA))) (lLA : K.lookup fLA = some ⟨ocLA, odLA, .func (PySem.W.fnOf "_law_area" "_law_area" (defArgs sLA) (defBody sLA) (defScope sLA) .none kVLA dcLA pmLA anLA cdLA ctLA), slLA⟩) (jLA : PySem.W.codeIn K cdLA "_law_area" = true) (kLA : PySem.W.keepIn K (.ref fLA) = true)
    {fTim : Addr} {ocTim : Value} {odTim anTim : Option Addr} {slTim : Array (Option Value)} {kVTim dcTim pmTim cdTim ctTim : Value} (eTim : PySem.W.nsIn K mainGlobals "_law_times" = some (some (.ref fTim))) (lTim : K.lookup fTim = some ⟨ocTim, odTim, .func (PySem.W.fnOf "_law_times" "_law_times" (defArgs sTim) (defBody sTim) (defScope sTim) .none kVTim dcTim pmTim anTim cdTim ctTim), slTim⟩) (jTim : PySem.W.codeIn K cdTim "_law_times" = true) (kTim : PySem.W.keepIn K (.ref fTim) = true)
    {fAln : Addr} {ocAln : Value} {odAln anAln : Option Addr} {slAln : Array (Option Value)} {kVAln dcAln pmAln cdAln ctAln : Value} (eAln : PySem.W.nsIn K mainGlobals "_law_alone" = some (some (.ref fAln))) (lAln : K.lookup fAln = some ⟨ocAln, odAln, .func (PySem.W.fnOf "_law_alone" "_law_alone" (defArgs sAln) (defBody sAln) (defScope sAln) .none kVAln dcAln pmAln anAln cdAln ctAln), slAln⟩) (jAln : PySem.W.codeIn K cdAln "_law_alone" = true) (kAln : PySem.W.keepIn K (.ref fAln) = true)
    {fRt : Addr} {ocRt : Value} {odRt anRt : Option Addr} {slRt : Array (Option Value)} {kVRt dcRt pmRt cdRt ctRt : Value} (eRt : PySem.W.nsIn K mainGlobals "_law_right" = some (some (.ref fRt))) (lRt : K.lookup fRt = some ⟨ocRt, odRt, .func (PySem.W.fnOf "_law_right" "_law_right" (defArgs sRt) (defBody sRt) (defScope sRt) .none kVRt dcRt pmRt anRt cdRt ctRt), slRt⟩) (jRt : PySem.W.codeIn K cdRt "_law_right" = true) (kRt : PySem.W.keepIn K (.ref fRt) = true)
    {fSR : Addr} {ocSR : Value} {odSR anSR : Option Addr} {slSR : Array (Option Value)} {kVSR dcSR pmSR cdSR ctSR : Value} (eSR : PySem.W.nsIn K mainGlobals "_law_same_right" = some (some (.ref fSR))) (lSR : K.lookup fSR = some ⟨ocSR, odSR, .func (PySem.W.fnOf "_law_same_right" "_law_same_right" (defArgs sSR) (defBody sSR) (defScope sSR) .none kVSR dcSR pmSR anSR cdSR ctSR), slSR⟩) (jSR : PySem.W.codeIn K cdSR "_law_same_right" = true) (kSR : PySem.W.keepIn K (.ref fSR) = true)
    {fOt : Addr} {ocOt : Value} {odOt anOt : Option Addr} {slOt : Array (Option Value)} {kVOt dcOt pmOt cdOt ctOt : Value} (eOt : PySem.W.nsIn K mainGlobals "_law_others" = some (some (.ref fOt))) (lOt : K.lookup fOt = some ⟨ocOt, odOt, .func (PySem.W.fnOf "_law_others" "_law_others" (defArgs sOt) (defBody sOt) (defScope sOt) .none kVOt dcOt pmOt anOt cdOt ctOt), slOt⟩) (jOt : PySem.W.codeIn K cdOt "_law_others" = true) (kOt : PySem.W.keepIn K (.ref fOt) = true)
    {fLw : Addr} {ocLw : Value} {odLw anLw : Option Addr} {slLw : Array (Option Value)} {kVLw dcLw pmLw cdLw ctLw : Value} (eLw : PySem.W.nsIn K mainGlobals "law" = some (some (.ref fLw))) (lLw : K.lookup fLw = some ⟨ocLw, odLw, .func (PySem.W.fnOf "law" "law" (defArgs sLw) (defBody sLw) (defScope sLw) .none kVLw dcLw pmLw anLw cdLw ctLw), slLw⟩) (jLw : PySem.W.codeIn K cdLw "law" = true) (kLw : PySem.W.keepIn K (.ref fLw) = true)
    : ∃ fd : FuncData, (∀ (s : Shared) (u : Value), BindsTo s fd ⟨[u], []⟩ [("_law_script", u)]) ∧ ∀ base : Heap, K.In base → base.Ns mainGlobals mg → FnG P w K mg base CX0 9 fa fd ["_law_script"] (spLw K) := by
  have z := hfa.symm.trans (PySem.W.mg_of X G eLw)
  cases z
  have m : ∀ {x : Str} {v : Value}, PySem.W.nsIn K mainGlobals x = some (some v) → mg x = some v := fun e => PySem.W.mg_of X G e
  have n : ∀ {x : Str}, PySem.W.nsIn K mainGlobals x = some none → mg x = none := fun e => PySem.W.mg_none_of X G e
  have FTurnP := fun_mk (st := sTurnP) lTurnP jTurnP kTurnP
  have BTurnP := FTurnP.binds (ps := ["one", "two", "three"]) fun _ _ _ _ _ _ us hl => match us, hl with | [_, _, _], _ => rfl
  have FNx := fun_mk (st := sNx) lNx jNx kNx
  have BNx := FNx.binds (ps := ["corners", "side"]) fun _ _ _ _ _ _ us hl => match us, hl with | [_, _], _ => rfl
  have FLs := fun_mk (st := sLs) lLs jLs kLs
  have BLs := FLs.binds (ps := ["corners", "side"]) fun _ _ _ _ _ _ us hl => match us, hl with | [_, _], _ => rfl
  have FOut := fun_mk (st := sOut) lOut jOut kOut
  have BOut := FOut.binds (ps := ["corners"]) fun _ _ _ _ _ _ us hl => match us, hl with | [_], _ => rfl
  have FInt := fun_mk (st := sInt) lInt jInt kInt
  have BInt := FInt.binds (ps := ["value"]) fun _ _ _ _ _ _ us hl => match us, hl with | [_], _ => rfl
  have FBet := fun_mk (st := sBet) lBet jBet kBet
  have BBet := FBet.binds (ps := ["value", "least", "greatest"]) fun _ _ _ _ _ _ us hl => match us, hl with | [_, _, _], _ => rfl
  have FIsP := fun_mk (st := sIsP) lIsP jIsP kIsP
  have BIsP := FIsP.binds (ps := ["value"]) fun _ _ _ _ _ _ us hl => match us, hl with | [_], _ => rfl
  have FIsC := fun_mk (st := sIsC) lIsC jIsC kIsC
  have BIsC := FIsC.binds (ps := ["value"]) fun _ _ _ _ _ _ us hl => match us, hl with | [_], _ => rfl
  have FIsB := fun_mk (st := sIsB) lIsB jIsB kIsB
  have BIsB := FIsB.binds (ps := ["value"]) fun _ _ _ _ _ _ us hl => match us, hl with | [_], _ => rfl
  have FCs := fun_mk (st := sCs) lCs jCs kCs
  have BCs := FCs.binds (ps := ["value"]) fun _ _ _ _ _ _ us hl => match us, hl with | [_], _ => rfl
  have FTot := fun_mk (st := sTot) lTot jTot kTot
  have BTot := FTot.binds (ps := ["corners"]) fun _ _ _ _ _ _ us hl => match us, hl with | [_], _ => rfl
  have FSd := fun_mk (st := sSd) lSd jSd kSd
  have BSd := FSd.binds (ps := ["value", "total"]) fun _ _ _ _ _ _ us hl => match us, hl with | [_, _], _ => rfl
  have FChB := fun_mk (st := sChB) lChB jChB kChB
  have BChB := FChB.binds (ps := ["value"]) fun _ _ _ _ _ _ us hl => match us, hl with | [_], _ => rfl
  have FChk := fun_mk (st := sChk) lChk jChk kChk
  have BChk := FChk.binds (ps := ["value"]) fun _ _ _ _ _ _ us hl => match us, hl with | [_], _ => rfl
  have FFrc := fun_mk (st := sFrc) lFrc jFrc kFrc
  have BFrc := FFrc.binds (ps := ["top", "bottom"]) fun _ _ _ _ _ _ us hl => match us, hl with | [_, _], _ => rfl
  have FLwd := fun_mk (st := sLwd) lLwd jLwd kLwd
  have BLwd := FLwd.binds (ps := ["fence"]) fun _ _ _ _ _ _ us hl => match us, hl with | [_], _ => rfl
  have FLow := fun_mk (st := sLow) lLow jLow kLow
  have BLow := FLow.binds (ps := ["fence"]) fun _ _ _ _ _ _ us hl => match us, hl with | [_], _ => rfl
  have FClo := fun_mk (st := sClo) lClo jClo kClo
  have BClo := FClo.binds (ps := ["fence"]) fun _ _ _ _ _ _ us hl => match us, hl with | [_], _ => rfl
  have FShu := fun_mk (st := sShu) lShu jShu kShu
  have BShu := FShu.binds (ps := ["fence"]) fun _ _ _ _ _ _ us hl => match us, hl with | [_], _ => rfl
  have FTrn := fun_mk (st := sTrn) lTrn jTrn kTrn
  have BTrn := FTrn.binds (ps := ["fence"]) fun _ _ _ _ _ _ us hl => match us, hl with | [_], _ => rfl
  have FSam := fun_mk (st := sSam) lSam jSam kSam
  have BSam := FSam.binds (ps := ["fence", "other"]) fun _ _ _ _ _ _ us hl => match us, hl with | [_, _], _ => rfl
  have FKnd := fun_mk (st := sKnd) lKnd jKnd kKnd
  have BKnd := FKnd.binds (ps := ["fence"]) fun _ _ _ _ _ _ us hl => match us, hl with | [_], _ => rfl
  have FAre := fun_mk (st := sAre) lAre jAre kAre
  have BAre := FAre.binds (ps := ["fence"]) fun _ _ _ _ _ _ us hl => match us, hl with | [_], _ => rfl
  have FBag := fun_mk (st := sBag) lBag jBag kBag
  have BBag := FBag.binds (ps := ["_law_cell"]) fun _ _ _ _ _ _ us hl => match us, hl with | [_], _ => rfl
  have FPick := fun_mk (st := sPick) lPick jPick kPick
  have BPick := FPick.binds (ps := ["_law_bag_here", "_law_many"]) fun _ _ _ _ _ _ us hl => match us, hl with | [_, _], _ => rfl
  have FTurnL := fun_mk (st := sTurnL) lTurnL jTurnL kTurnL
  have BTurnL := FTurnL.binds (ps := ["_law_one", "_law_two", "_law_three"]) fun _ _ _ _ _ _ us hl => match us, hl with | [_, _, _], _ => rfl
  have FHalfL := fun_mk (st := sHalfL) lHalfL jHalfL kHalfL
  have BHalfL := FHalfL.binds (ps := ["_law_points_here"]) fun _ _ _ _ _ _ us hl => match us, hl with | [_], _ => rfl
  have FHullL := fun_mk (st := sHullL) lHullL jHullL kHullL
  have BHullL := FHullL.binds (ps := ["_law_points_here"]) fun _ _ _ _ _ _ us hl => match us, hl with | [_], _ => rfl
  have FPts := fun_mk (st := sPts) lPts jPts kPts
  have BPts := FPts.binds (ps := ["_law_bag_here", "_law_many", "_law_wide"]) fun _ _ _ _ _ _ us hl => match us, hl with | [_, _, _], _ => rfl
  have FFe := fun_mk (st := sFe) lFe jFe kFe
  have BFe := FFe.binds (ps := ["_law_bag_here", "_law_bottom", "_law_many", "_law_wide"]) fun _ _ _ _ _ _ us hl => match us, hl with | [_, _, _, _], _ => rfl
  have FDiv := fun_mk (st := sDiv) lDiv jDiv kDiv
  have BDiv := FDiv.binds (ps := ["_law_one", "_law_other"]) fun _ _ _ _ _ _ us hl => match us, hl with | [_, _], _ => rfl
  have FLL := fun_mk (st := sLL) lLL jLL kLL
  have BLL := FLL.binds (ps := ["_law_shape"]) fun _ _ _ _ _ _ us hl => match us, hl with | [_], _ => rfl
  have FLA := fun_mk (st := sLA) lLA jLA kLA
  have BLA := FLA.binds (ps := ["_law_shape"]) fun _ _ _ _ _ _ us hl => match us, hl with | [_], _ => rfl
  have FTim := fun_mk (st := sTim) lTim jTim kTim
  have BTim := FTim.binds (ps := ["_law_shape", "_law_times_here"]) fun _ _ _ _ _ _ us hl => match us, hl with | [_, _], _ => rfl
  have FAln := fun_mk (st := sAln) lAln jAln kAln
  have BAln := FAln.binds (ps := ["_law_told", "_law_shape"]) fun _ _ _ _ _ _ us hl => match us, hl with | [_, _], _ => rfl
  have FRt := fun_mk (st := sRt) lRt jRt kRt
  have BRt := FRt.binds (ps := ["_law_shape", "_law_low"]) fun _ _ _ _ _ _ us hl => match us, hl with | [_, _], _ => rfl
  have FSR := fun_mk (st := sSR) lSR jSR kSR
  have BSR := FSR.binds (ps := ["_law_shape", "_law_other"]) fun _ _ _ _ _ _ us hl => match us, hl with | [_, _], _ => rfl
  have FOt := fun_mk (st := sOt) lOt jOt kOt
  have BOt := FOt.binds (ps := ["_law_bag_here", "_law_low"]) fun _ _ _ _ _ _ us hl => match us, hl with | [_, _], _ => rfl
  have FLw := fun_mk (st := sLw) lLw jLw kLw
  have BLw := FLw.binds (ps := ["_law_script"]) fun _ _ _ _ _ _ us hl => match us, hl with | [_], _ => rfl
  have e30 : (1000000000000000000000000000000 : Int) = 10 ^ 30 := by decide
  have T : Nms mg := ⟨(n b0), (n b1), (n b2), (n b3), (n b4), (n b5), (n b6), ⟨t1, by rw [m v1, e30]⟩, ⟨t2, m v2⟩, ⟨t3, m v3⟩⟩
  have T2 : Nm2 mg := ⟨(n b7), (n b8), (n b9), (n b10), (n b11), (n b12), (n b13), (n b14), (n b15)⟩
  have mg3 : mg "gcd" = some (.builtin "math.gcd") := m v4
  refine ⟨PySem.W.fnOf "law" "law" (defArgs sLw) (defBody sLw) (defScope sLw) .none kVLw dcLw pmLw anLw cdLw ctLw, fun s v => .of_eq rfl, fun base _ _ => ?_⟩
  have oNx : FnOk P w K mg base CX0 1 fNx _ ["corners", "side"] (spNx K) := ok_nx FNx T
  have oLs : FnOk P w K mg base CX0 2 fLs _ ["corners", "side"] (spLs K) := ok_ls FLs FTurnP BTurnP (m eTurnP) FNx BNx (m eNx) T
  have oOut : FnOk P w K mg base CX0 3 fOut _ ["corners"] (spOut K) := ok_out FOut oLs FLs.kp BLs (m eLs) T T2
  have oBet : FnOk P w K mg base CX0 2 fBet _ ["value", "least", "greatest"] (spBet) := ok_bet FBet FInt BInt (m eInt) T
  have oIsP : FnOk P w K mg base CX0 2 fIsP _ ["value"] (spIsP K) := ok_isP FIsP FInt BInt (m eInt) T
  have oIsC : FnOk P w K mg base CX0 3 fIsC _ ["value"] (spIsC K) := ok_isC FIsC oIsP FIsP.kp BIsP (m eIsP) T
  have oIsB : FnOk P w K mg base CX0 3 fIsB _ ["value"] (spIsB) := ok_isB FIsB oBet FBet.kp BBet (m eBet) T
  have oCs : FnOk P w K mg base CX0 4 fCs _ ["value"] (spCs K) := ok_cs FCs oIsC FIsC.kp BIsC (m eIsC) oOut FOut.kp BOut (m eOut) T T2
  have oTot : FnOk P w K mg base CX0 1 fTot _ ["corners"] (spTot K) := ok_tot FTot T
  have oSd : FnOk P w K mg base CX0 3 fSd _ ["value", "total"] (spSd K) := ok_sd FSd oBet FBet.kp BBet (m eBet) T
  have oChB : FnOk P w K mg base CX0 4 fChB _ ["value"] (spChB) := ok_chB FChB oIsB FIsB.kp BIsB (m eIsB)
  have oChk : FnOk P w K mg base CX0 5 fChk _ ["value"] (spChk K) := ok_chk FChk T oChB FChB.kp BChB (m eChB) oCs FCs.kp BCs (m eCs) (oTot.mono (by decide)) FTot.kp BTot (m eTot) (oSd.mono (by decide)) FSd.kp BSd (m eSd)
  have oLwd : FnOk P w K mg base CX0 5 fLwd _ ["fence"] (spLow K) := ok_lwd FLwd T mg3
  have oLow : FnOk P w K mg base CX0 6 fLow _ ["fence"] (spLow K) := ok_low FLow oChk FChk.kp BChk (m eChk) oLwd FLwd.kp BLwd (m eLwd)
  have oClo : FnOk P w K mg base CX0 6 fClo _ ["fence"] (spClo K fun _ _ => []) := ok_clo FClo oChk FChk.kp BChk (m eChk) T
  have oShu : FnOk P w K mg base CX0 6 fShu _ ["fence"] (spClo K fun cs _ => rI (tot cs)) := ok_shu FShu oChk FChk.kp BChk (m eChk) (oTot.mono (by decide)) FTot.kp BTot (m eTot) T T2
  have oTrn : FnOk P w K mg base CX0 6 fTrn _ ["fence"] (spClo K fun cs os => otherS (tot cs) os) := ok_trn FTrn oChk FChk.kp BChk (m eChk) (oTot.mono (by decide)) FTot.kp BTot (m eTot) T T2
  have oSam : FnOk P w K mg base CX0 7 fSam _ ["fence", "other"] (spSam K) := ok_sam FSam oLow FLow.kp BLow (m eLow)
  have oKnd : FnOk P w K mg base CX0 6 fKnd _ ["fence"] (spKnd K) := ok_knd FKnd oChk FChk.kp BChk (m eChk) T
  have oFrc : FnOk P w K mg base CX0 1 fFrc _ ["top", "bottom"] (spFrc) := ok_frc FFrc mg3
  have oAre : FnOk P w K mg base CX0 6 fAre _ ["fence"] (spAre K) := ok_are FAre oChk FChk.kp BChk (m eChk) (oNx.mono (by decide)) FNx.kp BNx (m eNx) T (oFrc.mono (by decide)) FFrc.kp BFrc (m eFrc)
  have oHalfL : FnOk P w K mg base CX0 2 fHalfL _ ["_law_points_here"] (spHalf K) := ok_HalfL FHalfL FTurnL BTurnL (m eTurnL) (n b5)
  have oHullL : FnOk P w K mg base CX0 3 fHullL _ ["_law_points_here"] (spHul K) := ok_HullL FHullL oHalfL FHalfL.kp BHalfL (m eHalfL) (n b5) (n b15) (n b16)
  have oBag : FnOk P w K mg base CX0 1 fBag _ ["_law_cell"] (spBag) := ok_bag FBag (n b1) (n b8)
  have oPick : FnOk P w K mg base CX0 1 fPick _ ["_law_bag_here", "_law_many"] (spPick) := ok_pick FPick (n b1)
  have oPts : FnOk P w K mg base CX0 2 fPts _ ["_law_bag_here", "_law_many", "_law_wide"] (spPts K) := ok_pts FPts FPick BPick (m ePick) (n b1) (n b11)
  have oFe : FnOk P w K mg base CX0 4 fFe _ ["_law_bag_here", "_law_bottom", "_law_many", "_law_wide"] (spFe K) := ok_fe FFe T T2 (oPick.mono (by decide)) FPick.kp BPick (m ePick) (oPts.mono (by decide)) FPts.kp BPts (m ePts) oHullL FHullL.kp BHullL (m eHullL)
  have oDiv : FnOk P w K mg base CX0 1 fDiv _ ["_law_one", "_law_other"] (spDiv) := ok_div FDiv T T2
  have oLL : FnOk P w K mg base CX0 2 fLL _ ["_law_shape"] (spLL K) := ok_ll FLL oDiv FDiv.kp BDiv (m eDiv)
  have oLA : FnOk P w K mg base CX0 2 fLA _ ["_law_shape"] (spAre K) := ok_la FLA oDiv FDiv.kp BDiv (m eDiv) T2
  have oTim : FnOk P w K mg base CX0 1 fTim _ ["_law_shape", "_law_times_here"] (spTim K) := ok_tim FTim T
  have oAln : FnG P w K mg base CX0 1 fAln _ ["_law_told", "_law_shape"] (spAln K) := ok_aln FAln T2
  have CR : CalsR P w K mg base 6 fLow fClo fShu fTrn fKnd fAre fLA fAln _ _ _ _ _ _ _ _ := ⟨⟨oLow.mono (by decide), FLow.kp, BLow, m eLow⟩, ⟨oClo.mono (by decide), FClo.kp, BClo, m eClo⟩, ⟨oShu.mono (by decide), FShu.kp, BShu, m eShu⟩, ⟨oTrn.mono (by decide), FTrn.kp, BTrn, m eTrn⟩, ⟨oKnd.mono (by decide), FKnd.kp, BKnd, m eKnd⟩, ⟨oAre.mono (by decide), FAre.kp, BAre, m eAre⟩, ⟨oLA.mono (by decide), FLA.kp, BLA, m eLA⟩, ⟨oAln.mono (by decide), FAln.kp, BAln, m eAln⟩, kw_one FLow fun _ _ _ _ _ _ _ => rfl, kw_one FClo fun _ _ _ _ _ _ _ => rfl, kw_one FShu fun _ _ _ _ _ _ _ => rfl, kw_one FTrn fun _ _ _ _ _ _ _ => rfl, kw_one FKnd fun _ _ _ _ _ _ _ => rfl, kw_one FAre fun _ _ _ _ _ _ _ => rfl⟩
  have oRt : FnG P w K mg base CX0 7 fRt _ ["_law_shape", "_law_low"] (spRt K) := ok_rt FRt T T2 CR
  have oSR : FnG P w K mg base CX0 8 fSR _ ["_law_shape", "_law_other"] (spSR K) := ok_sr FSR T T2 ⟨oLL.mono (by decide), FLL.kp, BLL, m eLL⟩ ⟨oSam.mono (by decide), FSam.kp, BSam, m eSam⟩
  have oOt : FnOk P w K mg base CX0 4 fOt _ ["_law_bag_here", "_law_low"] (spOt K) := ok_ot FOt T T2 ⟨oPick.mono (by decide), FPick.kp, BPick, m ePick⟩ ⟨oHullL.mono (by decide), FHullL.kp, BHullL, m eHullL⟩
  exact ok_lw FLw T T2 ⟨oBag.mono (by decide), FBag.kp, BBag, m eBag⟩ ⟨oPick.mono (by decide), FPick.kp, BPick, m ePick⟩ ⟨oFe.mono (by decide), FFe.kp, BFe, m eFe⟩ ⟨oLL.mono (by decide), FLL.kp, BLL, m eLL⟩ ⟨oTim.mono (by decide), FTim.kp, BTim, m eTim⟩ ⟨oRt.mono (by decide), FRt.kp, BRt, m eRt⟩ ⟨oOt.mono (by decide), FOt.kp, BOt, m eOt⟩ ⟨oSR.mono (by decide), FSR.kp, BSR, m eSR⟩ ⟨oLow.mono (by decide), FLow.kp, BLow, m eLow⟩ ⟨oSam.mono (by decide), FSam.kp, BSam, m eSam⟩ ⟨oAre.mono (by decide), FAre.kp, BAre, m eAre⟩
end K3
set_option Elab.async false
set_option linter.all false
set_option maxRecDepth 100000
open PySem PySem.W PyProof.Rows
set_option maxHeartbeats 0 in
theorem PySem.Challenge.cw_growfences_k03_same_and_lowest_holds : PySem.Challenge.rw_growfences_k03_same_and_lowest.Holds := by
  w_on; o_law; k_head; (case hw => w_witness2)
  k_fill
  refine L2.walk_ofG (l := PySem.Challenge.rw_growfences_k03_same_and_lowest) (n := 63) (k := 9) (x := "_law_script") (sp := fun w => K3.spLw _) rfl (by decide) rfl ⟨rfl, by decide, by decide⟩ (fun w h Y => PySem.W.kIn_of Y) ?F (fun _ _ a ns hl _ hS => ⟨a, ns, rfl, hS, hl, fun _ => rfl⟩)
  case F =>
    intro w mg fa h KX G hmg
    refine' K3.top_mk KX G hmg ?v1 ?v2 ?v3 ?v4 ?b0 ?b1 ?b2 ?b3 ?b4 ?b5 ?b6 ?b7 ?b8 ?b9 ?b10 ?b11 ?b12 ?b13 ?b14 ?b15 ?b16 ?eTurnP ?lTurnP ?jTurnP ?kTurnP ?eNx ?lNx ?jNx ?kNx ?eLs ?lLs ?jLs ?kLs ?eOut ?lOut ?jOut ?kOut ?eInt ?lInt ?jInt ?kInt ?eBet ?lBet ?jBet ?kBet ?eIsP ?lIsP ?jIsP ?kIsP ?eIsC ?lIsC ?jIsC ?kIsC ?eIsB ?lIsB ?jIsB ?kIsB ?eCs ?lCs ?jCs ?kCs ?eTot ?lTot ?jTot ?kTot ?eSd ?lSd ?jSd ?kSd ?eChB ?lChB ?jChB ?kChB ?eChk ?lChk ?jChk ?kChk ?eFrc ?lFrc ?jFrc ?kFrc ?eLwd ?lLwd ?jLwd ?kLwd ?eLow ?lLow ?jLow ?kLow ?eClo ?lClo ?jClo ?kClo ?eShu ?lShu ?jShu ?kShu ?eTrn ?lTrn ?jTrn ?kTrn ?eSam ?lSam ?jSam ?kSam ?eKnd ?lKnd ?jKnd ?kKnd ?eAre ?lAre ?jAre ?kAre ?eBag ?lBag ?jBag ?kBag ?ePick ?lPick ?jPick ?kPick ?eTurnL ?lTurnL ?jTurnL ?kTurnL ?eHalfL ?lHalfL ?jHalfL ?kHalfL ?eHullL ?lHullL ?jHullL ?kHullL ?ePts ?lPts ?jPts ?kPts ?eFe ?lFe ?jFe ?kFe ?eDiv ?lDiv ?jDiv ?kDiv ?eLL ?lLL ?jLL ?kLL ?eLA ?lLA ?jLA ?kLA ?eTim ?lTim ?jTim ?kTim ?eAln ?lAln ?jAln ?kAln ?eRt ?lRt ?jRt ?kRt ?eSR ?lSR ?jSR ?kSR ?eOt ?lOt ?jOt ?kOt ?eLw ?lLw ?jLw ?kLw
    (case v1 => k_is)
    (case v2 => k_is)
    (case v3 => k_is)
    (case v4 => k_is)
    (case b0 => k_is)
    (case b1 => k_is)
    (case b2 => k_is)
    (case b3 => k_is)
    (case b4 => k_is)
    (case b5 => k_is)
    (case b6 => k_is)
    (case b7 => k_is)
    (case b8 => k_is)
    (case b9 => k_is)
    (case b10 => k_is)
    (case b11 => k_is)
    (case b12 => k_is)
    (case b13 => k_is)
    (case b14 => k_is)
    (case b15 => k_is)
    (case b16 => k_is)
    (case eTurnP => k_is)
    (case lTurnP => k_is)
    (case jTurnP => k_is)
    (case kTurnP => k_is)
    (case eNx => k_is)
    (case lNx => k_is)
    (case jNx => k_is)
    (case kNx => k_is)
    (case eLs => k_is)
    (case lLs => k_is)
    (case jLs => k_is)
    (case kLs => k_is)
    (case eOut => k_is)
    (case lOut => k_is)
    (case jOut => k_is)
    (case kOut => k_is)
    (case eInt => k_is)
    (case lInt => k_is)
    (case jInt => k_is)
    (case kInt => k_is)
    (case eBet => k_is)
    (case lBet => k_is)
    (case jBet => k_is)
    (case kBet => k_is)
    (case eIsP => k_is)
    (case lIsP => k_is)
    (case jIsP => k_is)
    (case kIsP => k_is)
    (case eIsC => k_is)
    (case lIsC => k_is)
    (case jIsC => k_is)
    (case kIsC => k_is)
    (case eIsB => k_is)
    (case lIsB => k_is)
    (case jIsB => k_is)
    (case kIsB => k_is)
    (case eCs => k_is)
    (case lCs => k_is)
    (case jCs => k_is)
    (case kCs => k_is)
    (case eTot => k_is)
    (case lTot => k_is)
    (case jTot => k_is)
    (case kTot => k_is)
    (case eSd => k_is)
    (case lSd => k_is)
    (case jSd => k_is)
    (case kSd => k_is)
    (case eChB => k_is)
    (case lChB => k_is)
    (case jChB => k_is)
    (case kChB => k_is)
    (case eChk => k_is)
    (case lChk => k_is)
    (case jChk => k_is)
    (case kChk => k_is)
    (case eFrc => k_is)
    (case lFrc => k_is)
    (case jFrc => k_is)
    (case kFrc => k_is)
    (case eLwd => k_is)
    (case lLwd => k_is)
    (case jLwd => k_is)
    (case kLwd => k_is)
    (case eLow => k_is)
    (case lLow => k_is)
    (case jLow => k_is)
    (case kLow => k_is)
    (case eClo => k_is)
    (case lClo => k_is)
    (case jClo => k_is)
    (case kClo => k_is)
    (case eShu => k_is)
    (case lShu => k_is)
    (case jShu => k_is)
    (case kShu => k_is)
    (case eTrn => k_is)
    (case lTrn => k_is)
    (case jTrn => k_is)
    (case kTrn => k_is)
    (case eSam => k_is)
    (case lSam => k_is)
    (case jSam => k_is)
    (case kSam => k_is)
    (case eKnd => k_is)
    (case lKnd => k_is)
    (case jKnd => k_is)
    (case kKnd => k_is)
    (case eAre => k_is)
    (case lAre => k_is)
    (case jAre => k_is)
    (case kAre => k_is)
    (case eBag => k_is)
    (case lBag => k_is)
    (case jBag => k_is)
    (case kBag => k_is)
    (case ePick => k_is)
    (case lPick => k_is)
    (case jPick => k_is)
    (case kPick => k_is)
    (case eTurnL => k_is)
    (case lTurnL => k_is)
    (case jTurnL => k_is)
    (case kTurnL => k_is)
    (case eHalfL => k_is)
    (case lHalfL => k_is)
    (case jHalfL => k_is)
    (case kHalfL => k_is)
    (case eHullL => k_is)
    (case lHullL => k_is)
    (case jHullL => k_is)
    (case kHullL => k_is)
    (case ePts => k_is)
    (case lPts => k_is)
    (case jPts => k_is)
    (case kPts => k_is)
    (case eFe => k_is)
    (case lFe => k_is)
    (case jFe => k_is)
    (case kFe => k_is)
    (case eDiv => k_is)
    (case lDiv => k_is)
    (case jDiv => k_is)
    (case kDiv => k_is)
    (case eLL => k_is)
    (case lLL => k_is)
    (case jLL => k_is)
    (case kLL => k_is)
    (case eLA => k_is)
    (case lLA => k_is)
    (case jLA => k_is)
    (case kLA => k_is)
    (case eTim => k_is)
    (case lTim => k_is)
    (case jTim => k_is)
    (case kTim => k_is)
    (case eAln => k_is)
    (case lAln => k_is)
    (case jAln => k_is)
    (case kAln => k_is)
    (case eRt => k_is)
    (case lRt => k_is)
    (case jRt => k_is)
    (case kRt => k_is)
    (case eSR => k_is)
    (case lSR => k_is)
    (case jSR => k_is)
    (case kSR => k_is)
    (case eOt => k_is)
    (case lOt => k_is)
    (case jOt => k_is)
    (case kOt => k_is)
    (case eLw => k_is)
    (case lLw => k_is)
    (case jLw => k_is)
    (case kLw => k_is)
